import PyProof.Rows.All
import Wide.All
import OpenK.AllK
import Wide.FinOn
import HandS.Base
import HandS.Call
import HandS.List
import HandS.Comp
import HandS.Ends
import HandS.Dict
import HandS.Iter
import HandS.Text
import HandS.Words
import HandS.IsInst
import HandS.Style
import HandS.Walk
import HandS.TupAny
import HandS.More
import HandS.Exc
import HandS.ExcOwn
import HandS.ExcInit
import HandS.ExcField
import HandS.WordsExc
import HandS.Slots
import HandS.Star
import HandS.ClsMeth
import HandS.Property
import HandS.Deep
import HandS.Strs
import HandS.RaiseMore
import HandS.CallSlots
import KE.GoesMore
import PyProof.InstNe
import HandS.Flow
import HandS.Conv
import HandS.HeadHook3
import PySem.Challenge.RW_pulledout_k04_whole_rows_of_hands_and_wo
set_option Elab.async false
set_option linter.all false
set_option maxRecDepth 100000
set_option maxHeartbeats 4000000
/-! What holds of no program alone: heaps, data at a value, a pool that is drawn from. -/
namespace GG
open PySem PySem.Spec PyProof.Rows L2 TL
theorem same_upd {H : Hp} {p : Addr} {o : HO} (h : H p = none) : Same H (upd H p o) := fun b x e => by
  rw [upd_ne (ne_of_none e h)]
  exact e
/-- behind a store into a new object all that stood before stands -/
theorem same_st {H H1 : Hp} {p : Addr} {o : HO} (s : Same H H1) (h : H p = none) : Same H (upd H1 p o) := fun b x e => by
  rw [upd_ne (ne_of_none e h)]
  exact s b x e
/-- each number lies below its size -/
def Below (zs ns : List Int) : Prop := ∀ (i : Nat) (z n : Int), zs[i]? = some z → ns[i]? = some n → 0 ≤ n ∧ n < z
theorem below_snoc {zs ns : List Int} {z n : Int} (h : Below zs ns) (hz : zs[ns.length]? = some z) (h0 : 0 ≤ n) (h1 : n < z) : Below zs (ns ++ [n]) := by
  intro i y m hy hm
  by_cases hi : i < ns.length
  · rw [List.getElem?_append_left hi] at hm
    exact h i y m hy hm
  · rw [List.getElem?_append_right (by omega)] at hm
    have e : i - ns.length = 0 := by
      have q := (List.getElem?_eq_some_iff.mp hm).1
      simp at q
      omega
    have ei : i = ns.length := by omega
    subst ei
    rw [e] at hm
    have em : n = m := Option.some.inj hm
    have ey : z = y := Option.some.inj (hz.symm.trans hy)
    subst em ey
    exact ⟨h0, h1⟩
theorem small_mod (x : Int) : (x % 2147483629).natAbs < 2 ^ 64 := by
  have h1 := Int.emod_nonneg x (show (2147483629 : Int) ≠ 0 by decide)
  have h2 := Int.emod_lt_of_pos x (show (0 : Int) < 2147483629 by decide)
  omega
/-! ### data -/
def tyName : PyData → String
  | .none => "NoneType"
  | .bool _ => "bool"
  | .int _ => "int"
  | .str _ => "str"
  | .list _ => "list"
  | .tuple _ => "tuple"
  | .dict _ => "dict"
def isTup : PyData → Bool
  | .tuple _ => true
  | _ => false
def isStr : PyData → Bool
  | .str _ => true
  | _ => false
theorem isi_tup {K : PySem.W.Frag} (d : PyData) : PySem.W.kitOne K (.type (tyName d)) (.type "tuple") = some (isTup d) := by
  cases d
  · exact kit_ty (show kitB "NoneType" "tuple" = some false by decide +kernel)
  · exact kit_ty (show kitB "bool" "tuple" = some false by decide +kernel)
  · exact kit_ty (show kitB "int" "tuple" = some false by decide +kernel)
  · exact kit_ty (show kitB "str" "tuple" = some false by decide +kernel)
  · exact kit_ty (show kitB "list" "tuple" = some false by decide +kernel)
  · exact kit_ty (show kitB "tuple" "tuple" = some true by decide +kernel)
  · exact kit_ty (show kitB "dict" "tuple" = some false by decide +kernel)
theorem isi_str {K : PySem.W.Frag} (d : PyData) : PySem.W.kitOne K (.type (tyName d)) (.type "str") = some (isStr d) := by
  cases d
  · exact kit_ty (show kitB "NoneType" "str" = some false by decide +kernel)
  · exact kit_ty (show kitB "bool" "str" = some false by decide +kernel)
  · exact kit_ty (show kitB "int" "str" = some false by decide +kernel)
  · exact kit_ty (show kitB "str" "str" = some true by decide +kernel)
  · exact kit_ty (show kitB "list" "str" = some false by decide +kernel)
  · exact kit_ty (show kitB "tuple" "str" = some false by decide +kernel)
  · exact kit_ty (show kitB "dict" "str" = some false by decide +kernel)
theorem Rd.same {H H' : Hp} {a : Addr} {o : HO} (s : Same H H') (h : Rd H a o) : Rd H' a o := by
  rcases h with h | ⟨u, h⟩
  · exact .inl (s _ _ h)
  · exact .inr ⟨u, s _ _ h⟩
theorem Same.seqT {K : PySem.W.Frag} {H H' : Hp} {a : Addr} {xs : List V} (e : Same H H') (h : SqT K H a xs) : SqT K H' a xs := by
  rcases h with h | h
  · exact .inl (Rd.same e h)
  · exact .inr h
mutual
theorem dp_same {K : PySem.W.Frag} {H H' : Hp} (e : Same H H') : ∀ (d : PyData) (v : V), Dp K H v d → Dp K H' v d
  | .none, _, h => by cases h; exact .non
  | .bool b, _, h => by cases h; exact .bl b
  | .int i, _, h => by cases h; exact .int i
  | .str x, _, h => by cases h; exact .str x
  | .list ds, _, h => by
    cases h with
    | lst hs ha => exact .lst (Same.seq e hs) (dpAll_same e ds _ ha)
  | .tuple ds, _, h => by
    cases h with
    | tup hs ha => exact .tup (Same.seqT e hs) (dpAll_same e ds _ ha)
  | .dict _, _, h => by cases h
theorem dpAll_same {K : PySem.W.Frag} {H H' : Hp} (e : Same H H') : ∀ (ds : List PyData) (vs : List V), DpAll K H vs ds → DpAll K H' vs ds
  | [], _, h => by cases h; exact .nil
  | d :: ds, _, h => by
    cases h with
    | cons h1 h2 => exact .cons (dp_same e d _ h1) (dpAll_same e ds _ h2)
end
theorem dpAll_len {K : PySem.W.Frag} {H : Hp} : ∀ {vs : List V} {ds : List PyData}, DpAll K H vs ds → vs.length = ds.length
  | _, _, .nil => rfl
  | _, _, .cons _ h => by rw [List.length_cons, List.length_cons, dpAll_len h]
theorem dpAll_get {K : PySem.W.Frag} {H : Hp} : ∀ {vs : List V} {ds : List PyData} {i : Nat} {v : V}, DpAll K H vs ds → vs[i]? = some v → ∃ d, ds[i]? = some d ∧ Dp K H v d
  | _, _, 0, _, .cons (d := d) h _, e => by
    have e : _ = _ := Option.some.inj e
    subst e
    exact ⟨d, rfl, h⟩
  | _, _, i + 1, _, .cons _ h, e => dpAll_get (i := i) h e
theorem dp_ty {K : PySem.W.Frag} {H : Hp} {v : V} {d : PyData} (h : Dp K H v d) : TyX K H v (.type (tyName d)) := by
  cases h with
  | non => exact .base .non
  | bl b => exact .base (.bl b)
  | int i => exact .base (.int i)
  | str x => exact .base (.str x)
  | lst hs _ =>
    rcases hs with (h | ⟨o, h⟩) | ⟨o, its, n, h1, h2, _⟩
    · exact .base (.lst h)
    · exact .base (.frz h)
    · exact .kList h1 h2
  | tup hs _ =>
    rcases hs with (h | ⟨o, h⟩) | ⟨o, its, n, h1, h2, _⟩
    · exact .base (.tup h)
    · exact .fTuple h
    · exact .kTuple h1 h2
mutual
/-- sane texts, nothing long -/
def okD : PyData → Bool
  | .str z => decide (z.length ≤ 1000) && z.cps.all (· < 0x110000)
  | .list ds | .tuple ds => decide (ds.length ≤ 1000) && okAll ds
  | .dict _ => false
  | _ => true
def okAll : List PyData → Bool
  | [] => true
  | d :: ds => okD d && okAll ds
end
mutual
theorem can_ok : ∀ d : PyData, okD d = true → PyData.canLay0 d = true
  | .none, _ => rfl
  | .bool _, _ => rfl
  | .int _, _ => rfl
  | .str z, h => (Bool.and_eq_true_iff.mp h).2
  | .list ds, h => canAll_ok ds (Bool.and_eq_true_iff.mp h).2
  | .tuple ds, h => canAll_ok ds (Bool.and_eq_true_iff.mp h).2
theorem canAll_ok : ∀ ds : List PyData, okAll ds = true → PyData.canLayAll0 ds = true
  | [], _ => rfl
  | d :: ds, h => by
    have h := Bool.and_eq_true_iff.mp h
    show (PyData.canLay0 d && PyData.canLayAll0 ds) = true
    rw [can_ok d h.1, canAll_ok ds h.2]
    rfl
end
theorem okAll_iff {ds : List PyData} : okAll ds = true ↔ ∀ d ∈ ds, okD d = true := by
  induction ds with
  | nil => simp [okAll]
  | cons d r ih => simp [okAll, ih]
theorem depthAll_le {ds : List PyData} {n : Nat} : PyData.depthAll ds ≤ n ↔ ∀ d ∈ ds, PyData.depth d ≤ n := by
  induction ds with
  | nil => simp [PyData.depthAll]
  | cons d r ih => simp [PyData.depthAll, ih, Nat.max_le]
def Good (n : Nat) (d : PyData) : Prop := okD d = true ∧ PyData.depth d ≤ n
theorem Good.lay {n : Nat} {d : PyData} (h : Good n d) (hn : n ≤ 64) : SeqAt.shaped d = true := by
  unfold SeqAt.shaped
  rw [Bool.and_eq_true, decide_eq_true_eq]
  exact ⟨can_ok d h.1, Nat.le_trans h.2 hn⟩
theorem Good.tup {n : Nat} {ds : List PyData} : Good (n + 1) (.tuple ds) ↔ ds.length ≤ 1000 ∧ ∀ d ∈ ds, Good n d := by
  unfold Good
  show (decide (ds.length ≤ 1000) && okAll ds) = true ∧ PyData.depthAll ds + 1 ≤ n + 1 ↔ _
  rw [Bool.and_eq_true, decide_eq_true_eq, okAll_iff, Nat.add_le_add_iff_right, depthAll_le]
  exact ⟨fun h => ⟨h.1.1, fun d hd => ⟨h.1.2 d hd, h.2 d hd⟩⟩, fun h => ⟨⟨h.1, fun d hd => (h.2 d hd).1⟩, fun d hd => (h.2 d hd).2⟩⟩
theorem Good.lst {n : Nat} {ds : List PyData} : Good (n + 1) (.list ds) ↔ ds.length ≤ 1000 ∧ ∀ d ∈ ds, Good n d := Good.tup
theorem Good.mono {n m : Nat} {d : PyData} (h : Good n d) (k : n ≤ m) : Good m d := ⟨h.1, Nat.le_trans h.2 k⟩
/-- a value that stands for the data d; or any dict -/
def Val (K : PySem.W.Frag) (H : Hp) (x : V) (d : PyData) : Prop := (Dp K H x d ∧ Good 60 d) ∨ (d = .dict [] ∧ ∃ (a : Addr) (kvs : List (Key × V)), x = .ref a ∧ H a = some (.dK kvs))
theorem Val.ty {K : PySem.W.Frag} {H : Hp} {x : V} {d : PyData} (h : Val K H x d) : TyX K H x (.type (tyName d)) := by
  rcases h with h | ⟨rfl, a, kvs, rfl, h⟩
  · exact dp_ty h.1
  · exact .base (.dK h)
theorem Val.str {K : PySem.W.Frag} {H : Hp} {x : V} {z : Str} (h : Val K H x (.str z)) : x = .str z ∧ z.length ≤ 1000 ∧ (∀ c ∈ z.cps.toList, c < 1114112) := by
  rcases h with ⟨h, g⟩ | ⟨h, _⟩
  · cases h
    obtain ⟨h1, h2⟩ := Bool.and_eq_true_iff.mp g.1
    refine ⟨rfl, of_decide_eq_true h1, fun c hc => ?_⟩
    rw [← Array.all_toList, List.all_eq_true] at h2
    exact of_decide_eq_true (h2 c hc)
  · cases h
theorem Val.tup {K : PySem.W.Frag} {H : Hp} {x : V} {ds : List PyData} (h : Val K H x (.tuple ds)) : ∃ (a : Addr) (xs : List V), x = .ref a ∧ SqT K H a xs ∧ DpAll K H xs ds ∧ xs.length = ds.length ∧ ds.length ≤ 1000 ∧ ∀ (i : Nat) (d : PyData), ds[i]? = some d → ∃ v, xs[i]? = some v ∧ Val K H v d := by
  rcases h with ⟨h, g⟩ | ⟨h, _⟩
  · cases h with
    | @tup a xs _ hs ha =>
      obtain ⟨g1, g2⟩ := (Good.tup (n := 59)).mp g
      have hl := dpAll_len ha
      refine ⟨_, _, rfl, hs, ha, hl, g1, fun i d hd => ?_⟩
      have hi : i < ds.length := (List.getElem?_eq_some_iff.mp hd).1
      have hi2 : i < xs.length := by omega
      obtain ⟨d', hd', hp⟩ := dpAll_get ha (List.getElem?_eq_getElem hi2)
      have e : d' = d := Option.some.inj (hd'.symm.trans hd)
      subst e
      exact ⟨_, List.getElem?_eq_getElem hi2, .inl ⟨hp, (g2 d' (List.mem_of_getElem? hd)).mono (by decide)⟩⟩
  · cases h
theorem Val.same {K : PySem.W.Frag} {H H' : Hp} {x : V} {d : PyData} (h : Val K H x d) (s : Same H H') : Val K H' x d := by
  rcases h with ⟨h, g⟩ | ⟨rfl, a, kvs, rfl, h⟩
  · exact .inl ⟨dp_same s d x h, g⟩
  · exact .inr ⟨rfl, a, kvs, rfl, s _ _ h⟩
theorem inV_words {z : Str} : ∀ ws : List Str, inV (.str z) (ws.map V.str) = ws.any (· == z) := fun ws => by
  unfold inV
  rw [List.any_map]
  rfl
theorem flat_words : ∀ ws : List Str, (ws.map V.str).all flatV = true := fun ws => by
  rw [List.all_map, List.all_eq_true]
  intro x _
  rfl
theorem yes_then {A B : Hp → Prop} {σ : L2.St} {H : Hp} (h : A H) : tYes σ H (fun b H3 => if b = true then A H3 else B H3) := by
  show (if true = true then A H else B H)
  rw [if_pos rfl]
  exact h
def letB (c : Nat) : Bool := !decide ([c] < [97]) && !decide ([122] < [c])
/-! ### the mathematics of the texts -/
/-- the 26 letters, as the law writes them -/
abbrev abcS : Str := "abcdefghijklmnopqrstuvwxyz"
theorem abc_list : abcS.cps.toList = (List.range 26).map (97 + ·) := by decide +kernel
theorem abc_mem (c : Nat) : c ∈ abcS.cps.toList ↔ 97 ≤ c ∧ c ≤ 122 := by
  rw [abc_list]
  simp only [List.mem_map, List.mem_range]
  constructor
  · rintro ⟨a, h, rfl⟩
    omega
  · intro h
    exact ⟨c - 97, by omega, by omega⟩
theorem one_lt (a b : Nat) : ([a] < [b]) ↔ a < b := by
  simp [List.cons_lt_cons_iff]
theorem letB_abc (c : Nat) : letB c = decide (c ∈ abcS.cps.toList) := by
  unfold letB
  rw [Bool.eq_iff_iff]
  simp only [Bool.and_eq_true, Bool.not_eq_true', decide_eq_false_iff_not, decide_eq_true_eq, one_lt, abc_mem]
  omega
/-- a text of Python's own signs -/
def Sane (z : Str) : Prop := ∀ c ∈ z.cps.toList, c < 1114112
theorem sane_odds {z : Str} (h : Sane z) : ∀ y ∈ (z.cps.toList.filter fun c => !decide (c ∈ abcS.cps.toList)).map (fun c => (⟨#[c]⟩ : Str)), Sane y := by
  intro y hy c hc
  obtain ⟨d, hd, rfl⟩ := List.mem_map.mp hy
  have e : c = d := by simpa using hc
  rw [e]
  exact h d ((List.mem_filter.mp hd).1)
def oddC (c : Nat) : Bool := !decide (c ∈ abcS.cps.toList)
def odds (cs : List Nat) : List Str := (cs.filter oddC).map fun c => ⟨#[c]⟩
theorem odds_snoc {cs : List Nat} {i c : Nat} (hc : cs[i]? = some c) : odds (cs.take (i + 1)) = odds (cs.take i) ++ (if oddC c = true then [⟨#[c]⟩] else []) := by
  unfold odds
  rw [List.take_add_one, hc, List.filter_append, List.map_append]
  congr 1
  show List.map _ (List.filter oddC [c]) = _
  cases h : oddC c <;> simp [h]
theorem odds_len (cs : List Nat) : (odds cs).length ≤ cs.length := by
  unfold odds
  rw [List.length_map]
  exact List.length_filter_le ..
theorem odds_nil (cs : List Nat) : (odds cs).isEmpty = cs.all letB := by
  unfold odds
  rw [List.isEmpty_map]
  induction cs with
  | nil => rfl
  | cons c r ih =>
    rw [List.filter_cons, List.all_cons, letB_abc, ← ih]
    unfold oddC
    cases decide (c ∈ abcS.cps.toList) <;> rfl
theorem dp_strs {K : PySem.W.Frag} {H : Hp} : ∀ ys : List Str, DpAll K H (ys.map V.str) (ys.map PyData.str)
  | [] => .nil
  | y :: r => .cons (.str y) (dp_strs r)
theorem strs_can : ∀ ys : List Str, (∀ y ∈ ys, Sane y) → PyData.canLayAll0 (ys.map PyData.str) = true ∧ PyData.depthAll (ys.map PyData.str) ≤ 1
  | [], _ => ⟨rfl, by decide⟩
  | y :: r, h => by
    obtain ⟨h1, h2⟩ := strs_can r fun z hz => h z (List.mem_cons_of_mem _ hz)
    refine ⟨?_, ?_⟩
    · show (PyData.canLay0 (PyData.str y) && PyData.canLayAll0 (r.map PyData.str)) = true
      rw [h1, Bool.and_true]
      show y.cps.all (· < 0x110000) = true
      rw [← Array.all_toList, List.all_eq_true]
      intro c hc
      exact decide_eq_true (h y (List.mem_cons_self ..) c hc)
    · show max (PyData.depth (PyData.str y)) (PyData.depthAll (r.map PyData.str)) ≤ 1
      exact Nat.max_le.mpr ⟨by simp [PyData.depth], h2⟩
theorem strs_lay (ys : List Str) (h : ∀ y ∈ ys, Sane y) : SeqAt.shaped (PyData.list (ys.map PyData.str)) = true := by
  obtain ⟨h1, h2⟩ := strs_can ys h
  unfold SeqAt.shaped
  rw [Bool.and_eq_true, decide_eq_true_eq]
  refine ⟨h1, ?_⟩
  show PyData.depthAll (ys.map PyData.str) + 1 ≤ 64
  omega
theorem strs_eqv (ys : List Str) : PyData.eqv (PyData.list (ys.map PyData.str)) (PyData.list []) = ys.isEmpty := by
  cases ys with
  | nil => rfl
  | cons y r => rfl
section
variable {K : PySem.W.Frag}
theorem Val.dp {H : Hp} {x : V} {ds : List PyData} (h : Val K H x (.tuple ds)) : Dp K H x (.tuple ds) ∧ Good 60 (.tuple ds) := by
  rcases h with h | ⟨h, _⟩
  · exact h
  · cases h
theorem eqv_unit (ds : List PyData) : PyData.eqv (.tuple ds) (.tuple []) = ds.isEmpty := by
  cases ds <;> rfl
theorem two {α : Type} {r : List α} (h : r.length = 2) : ∃ a b, r = [a, b] := by
  match r, h with
  | [a, b], _ => exact ⟨a, b, rfl⟩
theorem filt_snoc {es : List PyData} {i : Nat} {e : PyData} (h : es[i]? = some e) (g : PyData → Bool) : (es.take (i + 1)).filter g = (es.take i).filter g ++ (if g e = true then [e] else []) := by
  rw [List.take_add_one, h, List.filter_append]
  congr 1
  show List.filter g [e] = _
  cases k : g e <;> simp [k]
theorem filt_all (es : List PyData) (g : PyData → Bool) : (es.filter fun e => !g e).isEmpty = es.all g := by
  induction es with
  | nil => rfl
  | cons e r ih =>
    rw [List.filter_cons, List.all_cons, ← ih]
    cases k : g e <;> simp
theorem eqv_nil (es : List PyData) : PyData.eqv (.list es) (.list []) = es.isEmpty := by
  cases es <;> rfl
theorem dpAll_app {H : Hp} : ∀ {xs ys : List V} {ds es : List PyData}, DpAll K H xs ds → DpAll K H ys es → DpAll K H (xs ++ ys) (ds ++ es)
  | _, _, _, _, .nil, k => k
  | _, _, _, _, .cons h r, k => .cons h (dpAll_app r k)
theorem Val.dp1 {H : Hp} {x : V} {d : PyData} (h : Val K H x d) (k : ∀ e, d ≠ .dict e) : Dp K H x d := by
  rcases h with h | ⟨h, _⟩
  · exact h.1
  · exact absurd h (k _)
theorem okD_dict {d : PyData} (h : okD d = true) : ∀ e, d ≠ .dict e := by
  intro e k
  subst k
  cases h
/-! ### the pool: what stands apart from it -/
def Rest (p : Addr) (R H : Hp) : Prop := Same R H ∧ R p = none ∧ ∃ (d : Addr) (ns : List Int) (k : Int), H p = some (.lst [.ref d, .int k]) ∧ R d = some (.lst (ns.map V.int)) ∧ 0 ≤ k
def Keep (p : Addr) (H H' : Hp) : Prop := ∀ b, b ≠ p → ∀ o, H b = some o → H' b = some o
structure Go (p : Addr) (R H R' H' : Hp) : Prop where
  same : Same R R'
  rest : Rest p R' H'
  keep : Keep p H H'
  fresh : ∀ b o, H b = some o → R b = none → R' b = none
theorem Rest.go {p : Addr} {R H : Hp} (k : Rest p R H) : Go p R H R H := ⟨Same.refl _, k, fun _ _ _ h => h, fun _ _ _ h => h⟩
theorem Go.trans {p : Addr} {R H R1 H1 R2 H2 : Hp} (a : Go p R H R1 H1) (b : Go p R1 H1 R2 H2) : Go p R H R2 H2 :=
  ⟨a.same.trans b.same, b.rest, fun c hc o h => b.keep c hc o (a.keep c hc o h), fun c o h hr => by
    by_cases e : c = p
    · rw [e]
      exact b.rest.2.1
    · exact b.fresh c o (a.keep c e o h) (a.fresh c o h hr)⟩
theorem Rest.ne {p D : Addr} {R H : Hp} (k : Rest p R H) (h : H D = none) : D ≠ p := fun e => by
  obtain ⟨_, _, d, ns, n, hp, _⟩ := k
  rw [e, hp] at h
  cases h
theorem Go.new {p t : Addr} {R H : Hp} {o : HO} (k : Rest p R H) (h : H t = none) : Go p R H (upd R t o) (upd H t o) := by
  have hne := k.ne h
  obtain ⟨s, hRp, d, ns, n, hp, hd, hn⟩ := k
  refine ⟨same_upd (s.free h), ⟨fun b x e => ?_, ?_, d, ns, n, ?_, (same_upd (s.free h)) _ _ hd, hn⟩, fun b _ x e => same_upd h b x e, fun b x e hr => ?_⟩
  · by_cases hb : b = t
    · subst hb
      rw [upd_same] at e ⊢
      exact e
    · rw [upd_ne hb] at e ⊢
      exact s b x e
  · rw [upd_ne hne.symm]
    exact hRp
  · rw [upd_ne hne.symm]
    exact hp
  · rw [upd_ne (ne_of_none e h)]
    exact hr
theorem Go.same_heap {p : Addr} {R H H' : Hp} (k : Rest p R H) (s : Same H H') : Go p R H R H' := by
  obtain ⟨s0, hRp, d, ns, n, hp, hd, hn⟩ := k
  exact ⟨Same.refl _, ⟨s0.trans s, hRp, d, ns, n, s _ _ hp, hd, hn⟩, fun b _ o h => s b o h, fun _ _ _ h => h⟩
/-- a store into a list that is being made -/
theorem Rest.put {p D : Addr} {R H : Hp} {o : HO} (k : Rest p R H) (hR : R D = none) (hne : D ≠ p) : Rest p R (upd H D o) := by
  obtain ⟨s0, hRp, d, ns, n, hp, hd, hn⟩ := k
  exact ⟨same_st s0 hR, hRp, d, ns, n, by rw [upd_ne hne.symm]; exact hp, hd, hn⟩
theorem Dp.go {p : Addr} {R H R' H' : Hp} {v : V} {d : PyData} (g : Go p R H R' H') (h : Dp K R v d) : Dp K R' v d := dp_same g.same d v h
/-- a comprehension that draws -/
theorem lc_go {J : It} {n : Nat} {G : Hp → Prop} {Y : Nat → Hp → V → Hp → Prop} (wk : Walk J n G Y) {p : Addr} {R H : Hp} {D : Addr} (hn : n ≤ 1000) (k : Rest p R H) (hD : H D = none) (hG : ∀ R1 H1, Go p R H R1 H1 → G H1)
    (PP : Hp → V → Prop) (Pm : ∀ R1 R2 y, Same R1 R2 → PP R1 y → PP R2 y) {g : TG} {tt : TT} {te : TE} {vs : List Nat} {σ : L2.St} {Qd : Hp → Prop}
    (hs : ∀ i x R1 H1 H1', i < n → Go p R H R1 H1 → Y i H1 x H1' → ∀ (C : V → Hp → Prop) (E : Hp → Prop), (∀ R2 H2 y, Go p R1 H1 R2 H2 → PP R2 y → C y H2) →
      g x (wipe σ vs) H1' fun σ2 H2 => wipe σ2 vs = wipe σ vs ∧ tt σ2 H2 fun b H3 => if b = true then te σ2 H3 C else E H3)
    (hd : ∀ R1 H1 ys, Go p R H R1 H1 → R1 D = some (.lst ys) → ys.length = n → (∀ y ∈ ys, PP R1 y) → Qd H1) :
    ∃ W : Nat → Nat → Hp → Prop, (∃ m, W 0 m (upd H D (.lst []))) ∧ ∀ i m H, W i m H →
      (J.stop i H ∧ Qd H) ∨ (J.go i H ∧ ∃ Nx : Hp → Prop, (∀ H', Nx H' → ∃ m', m' < m ∧ W (i + 1) m' H') ∧ ∀ x H', J.yld i H x H' → g x (wipe σ vs) H' fun σ2 H2 => wipe σ2 vs = wipe σ vs ∧ tt σ2 H2 fun b H3 =>
        if b = true then te σ2 H3 fun y H4 => ∃ acc, H4 D = some (.lst acc) ∧ acc.length < sizeLine ∧ Nx (upd H4 D (.lst (acc ++ [y]))) else Nx H3) := by
  have hne := k.ne hD
  have hRD : R D = none := k.1.free hD
  refine lc_it wk (fun i H' => ∃ R1, Go p R H R1 H' ∧ R1 D = none ∧ ∃ ys : List V, H' D = some (.lst ys) ∧ ys.length = i ∧ ∀ y ∈ ys, PP R1 y) ?_ ?_ ?_ ?_
  · refine ⟨R, ⟨Same.refl _, k.put hRD hne, fun b _ x e => same_upd hD b x e, fun _ _ _ h => h⟩, hRD, [], upd_same, rfl, fun y h => by cases h⟩
  · rintro i H' _ ⟨R1, g1, _⟩
    exact hG R1 H' g1
  · rintro i x H1 H1' hi ⟨R1, g1, hR1, ys, hy, hl, hP⟩ hY
    refine hs i x R1 H1 H1' hi g1 hY _ _ fun R2 H2 y g2 hp => ⟨ys, g2.keep D hne _ hy, small1000 (by omega), R2, ?_, g2.fresh D _ hy hR1, ys ++ [y], upd_same, ?_, ?_⟩
    · have g3 := g1.trans g2
      refine ⟨g3.same, g3.rest.put (g2.fresh D _ hy hR1) hne, fun b hb x e => ?_, g3.fresh⟩
      rw [upd_ne (ne_of_none e hD)]
      exact g3.keep b hb x e
    · rw [List.length_append, List.length_singleton, hl]
    · intro u hu
      rw [List.mem_append, List.mem_singleton] at hu
      rcases hu with hu | rfl
      · exact Pm R1 R2 u g2.same (hP u hu)
      · exact hp
  · rintro H1 ⟨R1, g1, hR1, ys, hy, hl, hP⟩
    have e1 : Same R1 (upd R1 D (.lst ys)) := same_upd hR1
    refine hd (upd R1 D (.lst ys)) H1 ys ⟨g1.same.trans e1, ?_, g1.keep, fun b o e hr => ?_⟩ upd_same hl fun y h => Pm _ _ y e1 (hP y h)
    · obtain ⟨s0, hRp, d, ns, n, hp, hd, hn⟩ := g1.rest
      refine ⟨fun b x e => ?_, by rw [upd_ne hne.symm]; exact hRp, d, ns, n, hp, e1 _ _ hd, hn⟩
      by_cases hb : b = D
      · subst hb
        rw [upd_same] at e
        rw [hy, e]
      · rw [upd_ne hb] at e
        exact s0 b x e
    · rw [upd_ne (ne_of_none e hD)]
      exact g1.fresh b o e hr
theorem at_int {xs : List V} {r : Int} (h0 : 0 ≤ r) (hi : r.toNat < xs.length) : ∃ v, atI xs r = some v ∧ v ∈ xs := by
  have e := atI_nat (List.getElem?_eq_getElem hi)
  rw [Int.toNat_of_nonneg h0] at e
  exact ⟨_, e, List.getElem_mem hi⟩
/-! ### data while the pool is drawn from -/
def cutG {α : Type} (ds : List α) (lo hi : Option Int) : List α := (ds.drop (HT.sIx ds.length 0 lo)).take (HT.sIx ds.length ds.length hi - HT.sIx ds.length 0 lo)
theorem dpAll_drop {H : Hp} : ∀ (n : Nat) {vs : List V} {ds : List PyData}, DpAll K H vs ds → DpAll K H (vs.drop n) (ds.drop n)
  | 0, _, _, h => h
  | n + 1, _, _, .nil => .nil
  | n + 1, _, _, .cons _ h => dpAll_drop n h
theorem dpAll_take {H : Hp} : ∀ (n : Nat) {vs : List V} {ds : List PyData}, DpAll K H vs ds → DpAll K H (vs.take n) (ds.take n)
  | 0, _, _, _ => .nil
  | n + 1, _, _, .nil => .nil
  | n + 1, _, _, .cons h r => .cons h (dpAll_take n r)
theorem dpAll_cut {H : Hp} {vs : List V} {ds : List PyData} (h : DpAll K H vs ds) (lo hi : Option Int) : DpAll K H (cutV vs lo hi) (cutG ds lo hi) := by
  have e := dpAll_len h
  unfold cutV cutG
  rw [e]
  exact dpAll_take _ (dpAll_drop _ h)
theorem cutG_mem {ds : List PyData} {lo hi : Option Int} {d : PyData} (h : d ∈ cutG ds lo hi) : d ∈ ds := List.mem_of_mem_drop (List.mem_of_mem_take h)
theorem cutG_len (ds : List PyData) (lo hi : Option Int) : (cutG ds lo hi).length ≤ ds.length := by
  unfold cutG
  rw [List.length_take, List.length_drop]
  omega
theorem cat_ok {p : Addr} {R H : Hp} {v u : V} {ds es : List PyData} {Q : VK} (k : Rest p R H) (hv : Dp K R v (.tuple ds)) (hu : Dp K R u (.tuple es)) (hl : ds.length + es.length ≤ 1000)
    (hq : ∀ x R' H', Go p R H R' H' → Dp K R' x (.tuple (ds ++ es)) → Q x H') : rCatA K v u H Q := by
  cases hv with
  | @tup a xs _ hs ha =>
    cases hu with
    | @tup b ys _ ht hb =>
      have l1 := dpAll_len ha
      have l2 := dpAll_len hb
      refine ⟨a, b, xs, ys, rfl, rfl, Same.seqT k.1 hs, Same.seqT k.1 ht, Nat.le_of_lt (small1000 (by omega)), fun e => ?_, fun _ e => ?_, fun _ _ t ht => ?_⟩
      · have e2 : ds = [] := List.eq_nil_of_length_eq_zero (by rw [← l1, e]; rfl)
        have := hq (.ref b) R H k.go
        rw [e2] at this
        exact this (.tup ht hb)
      · have e2 : es = [] := List.eq_nil_of_length_eq_zero (by rw [← l2, e]; rfl)
        have := hq (.ref a) R H k.go
        rw [e2, List.append_nil] at this
        exact this (.tup hs ha)
      · exact hq _ _ _ (Go.new k ht) (.tup (.inl (.inl upd_same)) (dpAll_same (Go.new k ht).same _ _ (dpAll_app ha hb)))
theorem slice_ok {p : Addr} {R H : Hp} {v : V} {ds : List PyData} {lo hi : Option Int} {Q : VK} (k : Rest p R H) (hv : Dp K R v (.tuple ds))
    (hq : ∀ x R' H', Go p R H R' H' → Dp K R' x (.tuple (cutG ds lo hi)) → Q x H') : rSlA K v lo hi H Q := by
  cases hv with
  | @tup a xs _ hs ha =>
    have l1 := dpAll_len ha
    refine ⟨a, xs, rfl, Same.seqT k.1 hs, fun e => ?_, fun _ t ht => ?_⟩
    · have e2 : cutG ds lo hi = ds := by
        unfold cutG
        rw [← l1, e.1, e.2, l1]
        show (ds.drop 0).take (ds.length - 0) = ds
        rw [List.drop_zero, Nat.sub_zero, List.take_length]
      have := hq (.ref a) R H k.go
      rw [e2] at this
      exact this (.tup hs ha)
    · exact hq _ _ _ (Go.new k ht) (.tup (.inl (.inl upd_same)) (dpAll_same (Go.new k ht).same _ _ (dpAll_cut ha lo hi)))
theorem slice_lo {p : Addr} {R H : Hp} {v : V} {ds : List PyData} {lo : Option Int} {σ : L2.St} {Q : VK} (k : Rest p R H) (hv : Dp K R v (.tuple ds))
    (hq : ∀ x R' H', Go p R H R' H' → Dp K R' x (.tuple (cutG ds lo none)) → Q x H') : tNoPart σ H (fun u H3 => rSlA K v lo u H3 Q) := slice_ok (hi := none) k hv hq
theorem lst_raw {p t : Addr} {R H : Hp} (vs : List V) (k : Rest p R H) (ht : H t = none) : Go p R H (upd R t (.lst vs)) (upd H t (.lst vs)) ∧ (upd R t (.lst vs)) t = some (.lst vs) := ⟨Go.new k ht, upd_same⟩
theorem tup_new {p t : Addr} {R H : Hp} {vs : List V} {ds : List PyData} (k : Rest p R H) (ht : H t = none) (hv : DpAll K R vs ds) : Go p R H (upd R t (.tup vs)) (upd H t (.tup vs)) ∧ Dp K (upd R t (.tup vs)) (.ref t) (.tuple ds) :=
  ⟨Go.new k ht, .tup (.inl (.inl upd_same)) (dpAll_same (Go.new (o := .tup vs) k ht).same _ _ hv)⟩
theorem lst_new {p t : Addr} {R H : Hp} {vs : List V} {ds : List PyData} (k : Rest p R H) (ht : H t = none) (hv : DpAll K R vs ds) : Go p R H (upd R t (.lst vs)) (upd H t (.lst vs)) ∧ Dp K (upd R t (.lst vs)) (.ref t) (.list ds) :=
  ⟨Go.new k ht, .lst (.inl (.inl upd_same)) (dpAll_same (Go.new (o := .lst vs) k ht).same _ _ hv)⟩
/-- some data of moderate size -/
def PD (K : PySem.W.Frag) (n : Nat) (R : Hp) (x : V) : Prop := ∃ d, Dp K R x d ∧ Good n d
theorem PD.same {n : Nat} {R R' : Hp} {x : V} (h : PD K n R x) (s : Same R R') : PD K n R' x := by
  obtain ⟨d, h, g⟩ := h
  exact ⟨d, dp_same s d x h, g⟩
theorem PD.mono {n m : Nat} {R : Hp} {x : V} (h : PD K n R x) (k : n ≤ m) : PD K m R x := by
  obtain ⟨d, h, g⟩ := h
  exact ⟨d, h, g.mono k⟩
theorem good_str {z : Str} (h : z.length ≤ 1000) (s : Sane z) (n : Nat) : Good n (.str z) := by
  refine ⟨?_, Nat.zero_le _⟩
  show (decide (z.length ≤ 1000) && z.cps.all (· < 0x110000)) = true
  rw [decide_eq_true h, Bool.true_and, ← Array.all_toList, List.all_eq_true]
  exact fun c hc => decide_eq_true (s c hc)
theorem good_t {n : Nat} {ds : List PyData} (h : ds.length ≤ 1000) (g : ∀ d ∈ ds, Good n d) : Good (n + 1) (.tuple ds) := Good.tup.mpr ⟨h, g⟩
end
theorem ints_can : ∀ ns : List Int, PyData.canLayAll0 (ns.map PyData.int) = true ∧ PyData.depthAll (ns.map PyData.int) ≤ 1
  | [] => ⟨rfl, by decide⟩
  | y :: r => by
    obtain ⟨h1, h2⟩ := ints_can r
    refine ⟨?_, ?_⟩
    · show (PyData.canLay0 (PyData.int y) && PyData.canLayAll0 (r.map PyData.int)) = true
      rw [h1]
      rfl
    · show max (PyData.depth (PyData.int y)) (PyData.depthAll (r.map PyData.int)) ≤ 1
      exact Nat.max_le.mpr ⟨by simp [PyData.depth], h2⟩
theorem ints_lay (ns : List Int) : SeqAt.shaped (PyData.list (ns.map PyData.int)) = true := by
  obtain ⟨h1, h2⟩ := ints_can ns
  unfold SeqAt.shaped
  rw [Bool.and_eq_true, decide_eq_true_eq]
  refine ⟨h1, ?_⟩
  show PyData.depthAll (ns.map PyData.int) + 1 ≤ 64
  omega
theorem dp_ints {K : PySem.W.Frag} {H : Hp} : ∀ ys : List Int, DpAll K H (ys.map V.int) (ys.map PyData.int)
  | [] => .nil
  | y :: r => .cons (.int y) (dp_ints r)
theorem same_of {H H1 : Hp} {p : Addr} {o : HO} (s : Same H H1) (h : H1 p = none) : Same H (upd H1 p o) := s.trans (same_upd h)
theorem joinL_mem : ∀ (ls : List (List Nat)) (c : Nat), c ∈ joinL [] ls → ∃ l ∈ ls, c ∈ l
  | [], c, h => by cases h
  | [l], c, h => ⟨l, List.mem_cons_self .., h⟩
  | l :: m :: r, c, h => by
    have h : c ∈ l ++ ([] ++ joinL [] (m :: r)) := h
    rw [List.nil_append, List.mem_append] at h
    rcases h with h | h
    · exact ⟨l, List.mem_cons_self .., h⟩
    · obtain ⟨x, hx, hc⟩ := joinL_mem (m :: r) c h
      exact ⟨x, List.mem_cons_of_mem _ hx, hc⟩
theorem joinL_len : ∀ (ls : List (List Nat)), (joinL [] ls).length = (ls.map List.length).sum
  | [] => rfl
  | [l] => by show l.length = _; simp
  | l :: m :: r => by
    show (l ++ ([] ++ joinL [] (m :: r))).length = _
    rw [List.nil_append, List.length_append, joinL_len (m :: r)]
    rfl
theorem join_facts (ys : List Str) (h : ∀ y ∈ ys, y.length = 1 ∧ Sane y) : (Txt.join "" ys).length = ys.length ∧ Sane (Txt.join "" ys) := by
  have e : (Txt.join "" ys).cps.toList = joinL [] (ys.map tl) := by
    rw [join_eq]
    exact tl_join "" ys
  refine ⟨?_, ?_⟩
  · show (Txt.join "" ys).cps.size = ys.length
    rw [← Array.length_toList, e, joinL_len, List.map_map]
    clear e
    induction ys with
    | nil => rfl
    | cons y r ih =>
      rw [List.map_cons, List.sum_cons, List.length_cons, ih fun z hz => h z (List.mem_cons_of_mem _ hz)]
      have e1 : (List.length ∘ tl) y = 1 := by
        show y.cps.toList.length = 1
        rw [Array.length_toList]
        exact (h y (List.mem_cons_self ..)).1
      rw [e1]
      omega
  · intro c hc
    rw [e] at hc
    obtain ⟨l, hl, hcl⟩ := joinL_mem _ c hc
    obtain ⟨y, hy, rfl⟩ := List.mem_map.mp hl
    exact (h y hy).2 c hcl
theorem join_le (ys : List Str) (h : ∀ y ∈ ys, y.length = 1) : (ys.map (·.length)).sum = ys.length := by
  induction ys with
  | nil => rfl
  | cons y r ih =>
    rw [List.map_cons, List.sum_cons, List.length_cons, ih fun z hz => h z (List.mem_cons_of_mem _ hz), h y (List.mem_cons_self ..)]
    omega
theorem cut_mem {xs : List V} {lo hi : Option Int} {x : V} {i : Nat} (h : (cutV xs lo hi)[i]? = some x) : x ∈ xs := by
  have h1 := List.mem_of_getElem? h
  unfold cutV at h1
  exact List.mem_of_mem_drop (List.mem_of_mem_take h1)
theorem at_abc {r : Int} (h0 : 0 ≤ r) (h1 : r < 26) : ∃ c, atI abcS.cps.toList r = some c ∧ c < 1114112 := by
  have hl : abcS.cps.toList.length = 26 := by decide +kernel
  have hi : r.toNat < abcS.cps.toList.length := by omega
  have e := atI_nat (List.getElem?_eq_getElem hi)
  rw [Int.toNat_of_nonneg h0] at e
  refine ⟨_, e, ?_⟩
  have := (abc_mem _).mp (List.getElem_mem hi)
  omega
section
variable {K : PySem.W.Frag}
theorem pd_all {n : Nat} {R : Hp} : ∀ {ys : List V}, (∀ y ∈ ys, PD K n R y) → ∃ ds, DpAll K R ys ds ∧ ∀ d ∈ ds, Good n d
  | [], _ => ⟨[], .nil, fun d h => by cases h⟩
  | y :: ys, h => by
    obtain ⟨d, h1, h2⟩ := h y (List.mem_cons_self ..)
    obtain ⟨ds, h3, h4⟩ := pd_all fun z hz => h z (List.mem_cons_of_mem _ hz)
    refine ⟨d :: ds, .cons h1 h3, fun e he => ?_⟩
    rcases List.mem_cons.mp he with rfl | he
    · exact h2
    · exact h4 e he
theorem signs_of : ∀ {ys : List V}, (∀ y ∈ ys, ∃ c : Nat, y = .str ⟨#[c]⟩ ∧ c < 1114112) → ∃ zs : List Str, ys = zs.map V.str ∧ zs.length = ys.length ∧ ∀ z ∈ zs, z.length = 1 ∧ Sane z
  | [], _ => ⟨[], rfl, rfl, fun z h => by cases h⟩
  | y :: ys, h => by
    obtain ⟨c, rfl, hc⟩ := h y (List.mem_cons_self ..)
    obtain ⟨zs, h3, h4, h5⟩ := signs_of fun z hz => h z (List.mem_cons_of_mem _ hz)
    refine ⟨⟨#[c]⟩ :: zs, by rw [h3]; rfl, by rw [List.length_cons, List.length_cons, h4], fun e he => ?_⟩
    rcases List.mem_cons.mp he with rfl | he
    · exact ⟨rfl, fun x hx => by
        have : x = c := by simpa using hx
        omega⟩
    · exact h5 e he
theorem mem_app {P : V → Prop} {a b c : List V} (e : a ++ b = c) (h1 : ∀ y ∈ a, P y) (h2 : ∀ y ∈ b, P y) : ∀ y ∈ c, P y := fun y h => by
  rw [← e] at h
  exact (List.mem_append.mp h).elim (h1 y) (h2 y)
end
theorem vals_abs : ∀ (us : List Value) (xs : List V), us.map absV = xs.map some → Vals xs us
  | [], [], _ => .nil
  | [], _ :: _, h => by cases h
  | _ :: _, [], h => by cases h
  | u :: us, x :: xs, h => by
    rw [List.map_cons, List.map_cons, List.cons.injEq] at h
    refine .cons ?_ (vals_abs us xs h.2)
    have h1 := h.1
    cases u <;> simp only [absV] at h1 <;> cases h1 <;> first | rfl | exact ⟨_, rfl⟩
theorem tup_of {K : PySem.W.Frag} {a : Addr} {od : Option Addr} {its : Array Value} {n : Nat} {sl : Array (Option Value)} {ws : List Str} (h : K.lookup a = some ⟨.type "tuple", od, .seq its n, sl⟩) (hv : its.toList.map absV = (ws.map V.str).map some) (hl : ws.length ≤ 1000) : ∀ H, SqT K H a (ws.map V.str) := fun H => by
  have r := vals_abs its.toList _ hv
  refine .inr ⟨_, its, n, h, rfl, rfl, ?_, r⟩
  have e := r.length
  simp only [List.length_map, Array.length_toList] at e
  exact Nat.le_of_lt (small1000 (by rw [← e]; exact hl))
end GG

/-! The rows that the laws draw, as data: what they keep. -/
namespace GG
open PySem PySem.Spec PyProof.Rows L2 TL
abbrev T1 (w : Str) : PyData := .tuple [.str w]
abbrev TS (n : Str) : PyData := .tuple [.str "start", .str n]
abbrev TA3 (m : Str) (o : List PyData) : PyData := .tuple [.str "ask", .str m, .tuple o]
/-- items that keep the rules from where one is under way (u), has the lock (l): to the end, closed; ns, ms: the names of works and marks; t: let may be the last one; a: asks may be there -/
inductive RowOk (ns ms : List Str) (t : Bool) : Bool → Bool → Bool → List PyData → Prop
  | nil {a} : RowOk ns ms t a false false []
  | lets {a} : t = true → RowOk ns ms t a false false [T1 "let"]
  | plain {a u l w r} : w ∈ (["touch", "use"] : List Str) → RowOk ns ms t a u l r → RowOk ns ms t a u l (T1 w :: r)
  | start {a u l n r} : n ∈ ns → RowOk ns ms t a u l r → RowOk ns ms t a u l (TS n :: r)
  | enter {a l r} : RowOk ns ms t a true l r → RowOk ns ms t a false l (T1 "enter" :: r)
  | leave {a l r} : RowOk ns ms t a false l r → RowOk ns ms t a true l (T1 "leave" :: r)
  | lock {a u r} : RowOk ns ms t a u true r → RowOk ns ms t a u false (T1 "lock" :: r)
  | unlock {a u r} : RowOk ns ms t a u false r → RowOk ns ms t a u true (T1 "unlock" :: r)
  | ask {u l m o r} : m ∈ ms → RowOk ns ms t false u l o → o.length ≤ 4 → RowOk ns ms t true u l r → RowOk ns ms t true u l (TA3 m o :: r)
/-- the number of items, with those in ways out -/
def size1 : PyData → Nat
  | .tuple [_, _, .tuple o] => 1 + o.length
  | _ => 1
def sizeR (r : List PyData) : Nat := (r.map size1).sum
theorem sizeR_app (a b : List PyData) : sizeR (a ++ b) = sizeR a + sizeR b := by
  unfold sizeR
  rw [List.map_append, List.sum_append]
/-- what a way's end may be -/
def IsClosing (u l t : Bool) (c : List PyData) : Prop := ∃ b k : List PyData, c = b ++ k ∧ (k = [] ∨ (t = true ∧ k = [T1 "let"])) ∧
  (b = (if l then [T1 "unlock"] else []) ++ (if u then [T1 "leave"] else []) ∨ b = (if u then [T1 "leave"] else []) ++ (if l then [T1 "unlock"] else []))
theorem IsClosing.ok {ns ms : List Str} {u l t a : Bool} {c : List PyData} (h : IsClosing u l t c) : RowOk ns ms t a u l c ∧ sizeR c ≤ 3 ∧ c.length ≤ 3 := by
  obtain ⟨b, k, rfl, hk, hb⟩ := h
  have e : RowOk ns ms t a false false k ∧ sizeR k ≤ 1 ∧ k.length ≤ 1 := by
    rcases hk with rfl | ⟨ht, rfl⟩
    · exact ⟨.nil, by decide, by decide⟩
    · exact ⟨.lets ht, by decide +kernel, by decide⟩
  obtain ⟨e1, e2, e3⟩ := e
  have s1 : sizeR [T1 "unlock"] = 1 := rfl
  have s2 : sizeR [T1 "leave"] = 1 := rfl
  cases u <;> cases l <;> rcases hb with rfl | rfl <;> simp only [if_true, Bool.false_eq_true, if_false, List.nil_append, List.append_nil, List.cons_append, List.length_cons, List.length_append] at *
  · exact ⟨e1, by omega, by omega⟩
  · exact ⟨e1, by omega, by omega⟩
  · exact ⟨.unlock e1, by show 1 + sizeR k ≤ 3; omega, by omega⟩
  · exact ⟨.unlock e1, by show 1 + sizeR k ≤ 3; omega, by omega⟩
  · exact ⟨.leave e1, by show 1 + sizeR k ≤ 3; omega, by omega⟩
  · exact ⟨.leave e1, by show 1 + sizeR k ≤ 3; omega, by omega⟩
  · exact ⟨.unlock (.leave e1), by show 1 + (1 + sizeR k) ≤ 3; omega, by omega⟩
  · exact ⟨.leave (.unlock e1), by show 1 + (1 + sizeR k) ≤ 3; omega, by omega⟩
/-- items so far: whatever goes on well from u, l, is well from the beginning -/
def Pfx (ns ms : List Str) (t a : Bool) (items : List PyData) (u l : Bool) : Prop := ∀ r, RowOk ns ms t a u l r → RowOk ns ms t a false false (items ++ r)
theorem Pfx.nil {ns ms : List Str} {t a : Bool} : Pfx ns ms t a [] false false := fun r h => h
theorem Pfx.snoc {ns ms : List Str} {t a : Bool} {items : List PyData} {u l u' l' : Bool} {i : PyData} (h : Pfx ns ms t a items u l) (k : ∀ r, RowOk ns ms t a u' l' r → RowOk ns ms t a u l (i :: r)) : Pfx ns ms t a (items ++ [i]) u' l' := fun r hr => by
  rw [List.append_assoc]
  exact h _ (k r hr)
/-- u behind an item of the word w, as the law reckons it -/
abbrev nextB (u : Bool) (w a b : Str) : Bool := !decide (V.bl u = V.bl (inV (.str w) [.str a, .str b]))
/-- an item that may stand where one is at u, l -/
def ItemFor (ns ms : List Str) (t u l : Bool) (w : Str) (rest : List PyData) : Prop :=
  ∀ r, RowOk ns ms t true (nextB u w "enter" "leave") (nextB l w "lock" "unlock") r → RowOk ns ms t true u l (.tuple (.str w :: rest) :: r)
theorem item_plain {ns ms : List Str} {t u l : Bool} {w : Str} (h : w ∈ (["touch", "use"] : List Str)) : ItemFor ns ms t u l w [] := by
  intro r hr
  simp only [List.mem_cons, List.not_mem_nil, or_false] at h
  rcases h with rfl | rfl
  · have e1 : nextB u "touch" "enter" "leave" = u := by cases u <;> decide +kernel
    have e2 : nextB l "touch" "lock" "unlock" = l := by cases l <;> decide +kernel
    rw [e1, e2] at hr
    exact .plain (by decide) hr
  · have e1 : nextB u "use" "enter" "leave" = u := by cases u <;> decide +kernel
    have e2 : nextB l "use" "lock" "unlock" = l := by cases l <;> decide +kernel
    rw [e1, e2] at hr
    exact .plain (by decide) hr
theorem item_el {ns ms : List Str} {t u l : Bool} : ItemFor ns ms t u l (if u = true then "leave" else "enter") [] := by
  intro r hr
  cases u with
  | true =>
    have e1 : nextB true "leave" "enter" "leave" = false := by decide +kernel
    have e2 : nextB l "leave" "lock" "unlock" = l := by cases l <;> decide +kernel
    have hr : RowOk ns ms t true (nextB true "leave" "enter" "leave") (nextB l "leave" "lock" "unlock") r := hr
    rw [e1, e2] at hr
    exact .leave hr
  | false =>
    have e1 : nextB false "enter" "enter" "leave" = true := by decide +kernel
    have e2 : nextB l "enter" "lock" "unlock" = l := by cases l <;> decide +kernel
    have hr : RowOk ns ms t true (nextB false "enter" "enter" "leave") (nextB l "enter" "lock" "unlock") r := hr
    rw [e1, e2] at hr
    exact .enter hr
theorem item_lu {ns ms : List Str} {t u l : Bool} : ItemFor ns ms t u l (if l = true then "unlock" else "lock") [] := by
  intro r hr
  cases l with
  | true =>
    have e1 : nextB u "unlock" "enter" "leave" = u := by cases u <;> decide +kernel
    have e2 : nextB true "unlock" "lock" "unlock" = false := by decide +kernel
    have hr : RowOk ns ms t true (nextB u "unlock" "enter" "leave") (nextB true "unlock" "lock" "unlock") r := hr
    rw [e1, e2] at hr
    exact .unlock hr
  | false =>
    have e1 : nextB u "lock" "enter" "leave" = u := by cases u <;> decide +kernel
    have e2 : nextB false "lock" "lock" "unlock" = true := by decide +kernel
    have hr : RowOk ns ms t true (nextB u "lock" "enter" "leave") (nextB false "lock" "lock" "unlock") r := hr
    rw [e1, e2] at hr
    exact .lock hr
theorem item_start {ns ms : List Str} {t u l : Bool} {n : Str} (h : n ∈ ns) : ItemFor ns ms t u l "start" [.str n] := by
  intro r hr
  have e1 : nextB u "start" "enter" "leave" = u := by cases u <;> decide +kernel
  have e2 : nextB l "start" "lock" "unlock" = l := by cases l <;> decide +kernel
  rw [e1, e2] at hr
  exact .start h hr
theorem item_ask {ns ms : List Str} {t u l : Bool} {m : Str} {o : List PyData} (h : m ∈ ms) (ho : RowOk ns ms t false u l o) (h4 : o.length ≤ 4) : ItemFor ns ms t u l "ask" [.str m, .tuple o] := by
  intro r hr
  have e1 : nextB u "ask" "enter" "leave" = u := by cases u <;> decide +kernel
  have e2 : nextB l "ask" "lock" "unlock" = l := by cases l <;> decide +kernel
  rw [e1, e2] at hr
  exact .ask h ho h4 hr
theorem in23 {w : Int} (h : inV (.int w) [.int 2, .int 3] = true) : w = 2 ∨ w = 3 := by
  have h : ((2 : Int) == w || ((3 : Int) == w || false)) = true := h
  simp only [Bool.or_false, Bool.or_eq_true, beq_iff_eq] at h
  omega
theorem not23 {w : Int} (h : ¬ inV (.int w) [.int 2, .int 3] = true) : w ≠ 2 ∧ w ≠ 3 := by
  have h : ¬ ((2 : Int) == w || ((3 : Int) == w || false)) = true := h
  simp only [Bool.or_false, Bool.or_eq_true, beq_iff_eq] at h
  omega
theorem two_at {x y : V} (u : Bool) : atI [x, y] (if u = true then 1 else 0) = some (if u = true then y else x) := by
  cases u <;> rfl
theorem eq_dec {w k : Int} (h : decide (V.int w = V.int k) = true) : w = k := V.int.inj (of_decide_eq_true h)
theorem ne_dec {w k : Int} (h : ¬ decide (V.int w = V.int k) = true) : w ≠ k := fun e => h (decide_eq_true (by rw [e]))
/-- a new list at x of what stands for the data ds -/
def LD (K : PySem.W.Frag) (R : Hp) (x : V) (ds : List PyData) : Prop := ∃ (a : Addr) (vs : List V), x = .ref a ∧ R a = some (.lst vs) ∧ DpAll K R vs ds
theorem LD.same {K : PySem.W.Frag} {R R' : Hp} {x : V} {ds : List PyData} (h : LD K R x ds) (s : Same R R') : LD K R' x ds := by
  obtain ⟨a, vs, h1, h2, h3⟩ := h
  exact ⟨a, vs, h1, s _ _ h2, dpAll_same s _ _ h3⟩
section
variable {K : PySem.W.Frag} {p : Addr} {R H : Hp}
/-- a list and another one, joined -/
theorem catL {a b : V} {ds es : List PyData} {Q : VK} (k : Rest p R H) (ha : LD K R a ds) (hb : LD K R b es) (hl : ds.length + es.length ≤ 1000) (hq : ∀ x R' H', Go p R H R' H' → LD K R' x (ds ++ es) → Q x H') : rCat a b H Q := by
  obtain ⟨a, vs, rfl, h2, h3⟩ := ha
  obtain ⟨b, ws, rfl, k2, k3⟩ := hb
  have l1 := dpAll_len h3
  have l2 := dpAll_len k3
  exact ⟨a, b, vs, ws, rfl, rfl, k.1 _ _ h2, k.1 _ _ k2, Nat.le_of_lt (small1000 (by omega)), fun x hx => hq _ _ _ (Go.new k hx) ⟨x, _, rfl, upd_same, dpAll_same (Go.new k hx).same _ _ (dpAll_app h3 k3)⟩⟩
/-- a list once or not at all -/
theorem repL {a : V} {ds : List PyData} {b : Bool} {Q : VK} (k : Rest p R H) (ha : LD K R a ds) (hl : ds.length ≤ 1000) (hq : ∀ x R' H', Go p R H R' H' → LD K R' x (if b then ds else []) → Q x H') : rRep a (.int (if b then 1 else 0)) H Q := by
  obtain ⟨a, vs, rfl, h2, h3⟩ := ha
  have l1 := dpAll_len h3
  cases b with
  | true =>
    refine ⟨a, _, vs, rfl, rfl, k.1 _ _ h2, by decide, by decide, ?_, fun x hx => ?_⟩
    · show vs.length * 1 ≤ sizeLine
      exact Nat.le_of_lt (small1000 (by omega))
    · have e : (List.replicate (if true = true then (1 : Int) else 0).toNat vs).flatten = vs := by
        show vs ++ [] = vs
        rw [List.append_nil]
      rw [e]
      exact hq _ _ _ (Go.new k hx) ⟨x, _, rfl, upd_same, dpAll_same (Go.new k hx).same _ _ h3⟩
  | false =>
    refine ⟨a, _, vs, rfl, rfl, k.1 _ _ h2, by decide, by decide, ?_, fun x hx => ?_⟩
    · show vs.length * 0 ≤ sizeLine
      omega
    · exact hq _ _ _ (Go.new k hx) ⟨x, _, rfl, upd_same, .nil⟩
/-- a list of one tuple, new -/
theorem new1 {u : Addr} {ds : PyData} {l : Addr} (k : Rest p R H) (hu : Dp K R (.ref u) ds) (hl : H l = none) : Go p R H (upd R l (.lst [.ref u])) (upd H l (.lst [.ref u])) ∧ LD K (upd R l (.lst [.ref u])) (.ref l) [ds] :=
  ⟨Go.new k hl, l, _, rfl, upd_same, .cons (dp_same (Go.new (o := .lst [.ref u]) k hl).same _ _ hu) .nil⟩
theorem dpAll_rev : ∀ {vs : List V} {ds : List PyData}, DpAll K R vs ds → DpAll K R vs.reverse ds.reverse
  | _, _, .nil => .nil
  | _, _, .cons h r => by
    rw [List.reverse_cons, List.reverse_cons]
    exact dpAll_app (dpAll_rev r) (.cons h .nil)
theorem revL {vs : List V} {ds : List PyData} {l : Addr} (k : Rest p R H) (hl : H l = none) (h : DpAll K R vs ds) : LD K (upd R l (.lst vs.reverse)) (.ref l) ds.reverse :=
  ⟨l, _, rfl, upd_same, dpAll_same (Go.new (o := .lst vs.reverse) k hl).same _ _ (dpAll_rev h)⟩
theorem four_of {e1 e2 l3 l4 : Addr} {v : V} (f1 : LD K R (.ref e1) []) (f2 : LD K R (.ref e2) []) (f3 : LD K R (.ref l3) [T1 "touch"]) (f4 : LD K R (.ref l4) [T1 "use"]) (hv : v ∈ [V.ref e1, .ref e2, .ref l3, .ref l4]) :
    ∃ ex, LD K R v ex ∧ (ex = [] ∨ ex = [T1 "touch"] ∨ ex = [T1 "use"]) := by
  simp only [List.mem_cons, List.not_mem_nil, or_false] at hv
  rcases hv with rfl | rfl | rfl | rfl
  · exact ⟨_, f1, .inl rfl⟩
  · exact ⟨_, f2, .inl rfl⟩
  · exact ⟨_, f3, .inr (.inl rfl)⟩
  · exact ⟨_, f4, .inr (.inr rfl)⟩
/-- a new object that is kept apart for a while -/
theorem dp_two {u : Bool} {x y : V} {a b : Str} (h1 : Dp K R x (T1 a)) (h2 : Dp K R y (T1 b)) : Dp K R (if u = true then y else x) (T1 (if u = true then b else a)) := by
  cases u with
  | true => exact h2
  | false => exact h1
theorem one_of {u1 u2 : Addr} {v : V} (d1 : Dp K R (.ref u1) (T1 "touch")) (d2 : Dp K R (.ref u2) (T1 "use")) (hv : v ∈ [V.ref u1, .ref u2]) : ∃ w : Str, Dp K R v (T1 w) ∧ w ∈ (["touch", "use"] : List Str) := by
  simp only [List.mem_cons, List.not_mem_nil, or_false] at hv
  rcases hv with rfl | rfl
  · exact ⟨_, d1, by decide⟩
  · exact ⟨_, d2, by decide⟩
theorem cut2_nil {ds : List PyData} (h : ds.length ≤ 2) : cutG ds (some 2) none = [] := by
  match ds, h with
  | [], _ => rfl
  | [_], _ => rfl
  | [_, _], _ => rfl
theorem dp_unit {y : V} (h : Dp K R y (.tuple [])) : ∃ ya : Addr, y = .ref ya ∧ SqT K R ya [] := by
  cases h with
  | tup h1 h2 =>
    cases h2
    exact ⟨_, rfl, h1⟩
theorem dp_head {y : V} {w : Str} {rest : List PyData} (h : Dp K R y (.tuple (.str w :: rest))) : ∃ (ya : Addr) (xs : List V), y = .ref ya ∧ SqT K R ya xs ∧ atI xs 0 = some (.str w) := by
  cases h with
  | tup h1 h2 =>
    cases h2 with
    | cons h3 _ =>
      cases h3
      exact ⟨_, _, rfl, h1, atI_nat (j := 0) rfl⟩
theorem dp_third {y : V} {a b : PyData} {o : List PyData} (h : Dp K R y (.tuple [a, b, .tuple o])) : ∃ (ya oa : Addr) (xs ys : List V), y = .ref ya ∧ SqT K R ya xs ∧ atI xs 2 = some (.ref oa) ∧ SqT K R oa ys ∧ ys.length = o.length := by
  cases h with
  | tup h1 h2 =>
    cases h2 with
    | cons h3 h4 =>
      cases h4 with
      | cons h5 h6 =>
        cases h6 with
        | cons h7 h8 =>
          cases h8
          cases h7 with
          | tup k1 k2 => exact ⟨_, _, _, _, rfl, h1, atI_nat (j := 2) rfl, k1, dpAll_len k2⟩
theorem dp_single {y : V} {d : PyData} (h : Dp K R y (.tuple [d])) : ∃ (ya : Addr) (v : V), y = .ref ya ∧ SqT K R ya [v] := by
  cases h with
  | tup h1 h2 =>
    cases h2 with
    | cons h3 h4 =>
      cases h4
      exact ⟨_, _, rfl, h1⟩
theorem go_hid {li : Addr} {o : HO} (k : Rest p R H) (h : H li = none) : Go p R H R (upd H li o) :=
  ⟨Same.refl _, k.put (k.1.free h) (k.ne h), fun b _ x e => same_upd h b x e, fun _ _ _ h => h⟩
theorem go_put {R0 H0 : Hp} {li : Addr} {o : HO} (g : Go p R0 H0 R H) (h0 : H0 li = none) (hR : R li = none) (hne : li ≠ p) : Go p R0 H0 R (upd H li o) :=
  ⟨g.same, g.rest.put hR hne, fun b hb x e => by
    rw [upd_ne (ne_of_none e h0)]
    exact g.keep b hb x e, g.fresh⟩
theorem go_put2 {R0 H0 : Hp} {li : Addr} (o : HO) (g : Go p R0 H0 R H) (h0 : H0 li = none) (hR : R li = none) (hne : li ≠ p) : Go p R0 H0 R (upd H li o) ∧ upd H li o li = some o := ⟨go_put g h0 hR hne, upd_same⟩
theorem go_new2 {l : Addr} (o : HO) (k : Rest p R H) (h : H l = none) : Go p R H (upd R l o) (upd H l o) := Go.new k h
/-- what was kept apart is let in -/
theorem go_show {R0 H0 : Hp} {li : Addr} {o : HO} (g : Go p R0 H0 R H) (h0 : H0 li = none) (hR : R li = none) (hne : li ≠ p) (hH : H li = some o) : Go p R0 H0 (upd R li o) H := by
  obtain ⟨s0, hRp, d, ns, n, hp, hd, hn⟩ := g.rest
  have e1 : Same R (upd R li o) := same_upd hR
  refine ⟨g.same.trans e1, ⟨fun b x e => ?_, by rw [upd_ne hne.symm]; exact hRp, d, ns, n, hp, e1 _ _ hd, hn⟩, g.keep, fun b x e hr => ?_⟩
  · by_cases hb : b = li
    · subst hb
      rw [upd_same] at e
      rw [hH, e]
    · rw [upd_ne hb] at e
      exact s0 b x e
  · rw [upd_ne (ne_of_none e h0)]
    exact g.fresh b x e hr
theorem closeLast {R0 H0 : Hp} {u l t : Bool} {x3 x6 : V} {bs : List PyData} {Q : VK} (q : ∀ x R' H' c, Go p R0 H0 R' H' → LD K R' x c → IsClosing u l t c → Q x H') (g : Go p R0 H0 R H) (f3 : LD K R x3 bs) (f6 : LD K R x6 [T1 "let"]) (hl : bs.length ≤ 10)
    (hq : ∀ k' : List PyData, (k' = [] ∨ (t = true ∧ k' = [T1 "let"])) → IsClosing u l t (bs ++ k')) (b : Bool) (hb : b = true → t = true) : rRep x6 (.int (if b = true then 1 else 0)) H (fun y H2 => rCat x3 y H2 Q) := by
  refine repL g.rest f6 (by decide) fun x7 Ri Hi gi f7 => catL (g.trans gi).rest (f3.same gi.same) f7 ?_ fun x8 Rj Hj gj f8 => q _ _ _ _ ((g.trans gi).trans gj) f8 (hq _ ?_)
  · have : (if b = true then [T1 "let"] else []).length ≤ 1 := by cases b <;> decide
    omega
  · cases b with
    | true => exact .inr ⟨hb rfl, rfl⟩
    | false => exact .inl rfl
end
end GG

namespace GG
open PySem PySem.Spec PyProof.Rows L2 TL
/-- the names that a law draws from are plain -/
def NamesOk (ns : List Str) : Prop := ∀ n ∈ ns, Sane n ∧ n.length ≤ 100
theorem good_name {ns : List Str} {n : Str} (h : NamesOk ns) (hn : n ∈ ns) (k : Nat) : Good k (.str n) := good_str (by have := (h n hn).2; omega) (h n hn).1 k
theorem good_word (w : Str) (h : okD (.str w) = true) (k : Nat) : Good k (.str w) := ⟨h, Nat.zero_le _⟩
theorem rowOk_good {ns ms : List Str} {t : Bool} (h1 : NamesOk ns) (h2 : NamesOk ms) : ∀ {a u l : Bool} {r : List PyData}, RowOk ns ms t a u l r → ∀ d ∈ r, Good (if a = true then 4 else 2) d := by
  have one : ∀ (a : Bool) (w : Str), okD (.str w) = true → Good (if a = true then 4 else 2) (T1 w) := fun a w hw => Good.mono (n := 2) (good_t (n := 1) (by show 1 ≤ 1000; decide) (fun d hd => by
    rw [List.mem_singleton] at hd
    rw [hd]
    exact good_word w hw 1)) (by cases a <;> decide)
  intro a u l r h
  induction h with
  | nil => intro d hd; cases hd
  | lets _ => intro d hd; rw [List.mem_singleton] at hd; rw [hd]; exact one _ _ (by decide +kernel)
  | plain hw _ ih =>
    intro d hd
    rcases List.mem_cons.mp hd with rfl | hd
    · simp only [List.mem_cons, List.not_mem_nil, or_false] at hw
      rcases hw with rfl | rfl <;> exact one _ _ (by decide +kernel)
    · exact ih d hd
  | @start a u l n r hn _ ih =>
    intro d hd
    rcases List.mem_cons.mp hd with rfl | hd
    · refine Good.mono (n := 2) (good_t (n := 1) (by show 2 ≤ 1000; decide) (fun e he => ?_)) (by cases a <;> decide)
      rw [List.mem_cons, List.mem_singleton] at he
      rcases he with rfl | rfl
      · exact good_word _ (by decide +kernel) 1
      · exact good_name h1 hn 1
    · exact ih d hd
  | enter _ ih => intro d hd; rcases List.mem_cons.mp hd with rfl | hd; exact one _ _ (by decide +kernel); exact ih d hd
  | leave _ ih => intro d hd; rcases List.mem_cons.mp hd with rfl | hd; exact one _ _ (by decide +kernel); exact ih d hd
  | lock _ ih => intro d hd; rcases List.mem_cons.mp hd with rfl | hd; exact one _ _ (by decide +kernel); exact ih d hd
  | unlock _ ih => intro d hd; rcases List.mem_cons.mp hd with rfl | hd; exact one _ _ (by decide +kernel); exact ih d hd
  | ask hm ho h4 _ iho ih =>
    intro d hd
    rcases List.mem_cons.mp hd with rfl | hd
    · refine good_t (n := 3) (by show 3 ≤ 1000; decide) (fun e he => ?_)
      simp only [List.mem_cons, List.not_mem_nil, or_false] at he
      rcases he with rfl | rfl | rfl
      · exact good_word _ (by decide +kernel) 3
      · exact good_name h2 hm 3
      · exact good_t (n := 2) (by omega) iho
    · exact ih d hd
theorem size1_pos (d : PyData) : 1 ≤ size1 d := by
  unfold size1
  split <;> omega
theorem sizeR_len : ∀ r : List PyData, r.length ≤ sizeR r
  | [] => Nat.le_refl _
  | d :: r => by
    have h1 := size1_pos d
    have h2 := sizeR_len r
    show r.length + 1 ≤ size1 d + sizeR r
    omega
/-- the openings of a hand -/
def opens : List (List Str) := [["look", "hold"], ["look", "try"], ["lock", "look", "hold", "unlock"], ["lock", "look", "try", "unlock"], ["lock", "look", "unlock", "hold"], ["lock", "look", "unlock", "try"]]
/-- a hand's row that keeps the rules -/
def HandOk (ns ms : List Str) (ds : List PyData) : Prop := ∃ op b, op ∈ opens ∧ ds = op.map T1 ++ b ∧ RowOk ns ms true true false false b ∧ sizeR b + op.length ≤ 14
/-- a work's row that keeps the rules -/
def WorkOk (ns ms : List Str) (ds : List PyData) : Prop := RowOk ns ms false true false false ds ∧ ds ≠ [] ∧ sizeR ds ≤ 9
section
variable {K : PySem.W.Frag} {p : Addr} {R H : Hp}
theorem dpAll_of_get : ∀ {vs : List V} {ds : List PyData}, vs.length = ds.length → (∀ (i : Nat) (y : V) (d : PyData), vs[i]? = some y → ds[i]? = some d → Dp K R y d) → DpAll K R vs ds
  | [], [], _, _ => .nil
  | v :: vs, d :: ds, hl, h => .cons (h 0 v d rfl rfl) (dpAll_of_get (by simpa using hl) fun i y e h1 h2 => h (i + 1) y e h1 h2)
/-- a comprehension that draws, place by place -/
theorem lc_goI {J : It} {n : Nat} {G : Hp → Prop} {Y : Nat → Hp → V → Hp → Prop} (wk : Walk J n G Y) {D : Addr} (hn : n ≤ 1000) (k : Rest p R H) (hD : H D = none) (hG : ∀ R1 H1, Go p R H R1 H1 → G H1)
    (PP : Nat → Hp → V → Prop) (Pm : ∀ i R1 R2 y, Same R1 R2 → PP i R1 y → PP i R2 y) {g : TG} {tt : TT} {te : TE} {vs : List Nat} {σ : L2.St} {Qd : Hp → Prop}
    (hs : ∀ i x R1 H1 H1', i < n → Go p R H R1 H1 → Y i H1 x H1' → ∀ (C : V → Hp → Prop) (E : Hp → Prop), (∀ R2 H2 y, Go p R1 H1 R2 H2 → PP i R2 y → C y H2) →
      g x (wipe σ vs) H1' fun σ2 H2 => wipe σ2 vs = wipe σ vs ∧ tt σ2 H2 fun b H3 => if b = true then te σ2 H3 C else E H3)
    (hd : ∀ R1 H1 ys, Go p R H R1 H1 → R1 D = some (.lst ys) → ys.length = n → (∀ (i : Nat) (y : V), ys[i]? = some y → PP i R1 y) → Qd H1) :
    ∃ W : Nat → Nat → Hp → Prop, (∃ m, W 0 m (upd H D (.lst []))) ∧ ∀ i m H, W i m H →
      (J.stop i H ∧ Qd H) ∨ (J.go i H ∧ ∃ Nx : Hp → Prop, (∀ H', Nx H' → ∃ m', m' < m ∧ W (i + 1) m' H') ∧ ∀ x H', J.yld i H x H' → g x (wipe σ vs) H' fun σ2 H2 => wipe σ2 vs = wipe σ vs ∧ tt σ2 H2 fun b H3 =>
        if b = true then te σ2 H3 fun y H4 => ∃ acc, H4 D = some (.lst acc) ∧ acc.length < sizeLine ∧ Nx (upd H4 D (.lst (acc ++ [y]))) else Nx H3) := by
  have hne := k.ne hD
  have hRD : R D = none := k.1.free hD
  refine lc_it wk (fun i H' => ∃ R1, Go p R H R1 H' ∧ R1 D = none ∧ ∃ ys : List V, H' D = some (.lst ys) ∧ ys.length = i ∧ ∀ (j : Nat) (y : V), ys[j]? = some y → PP j R1 y) ?_ ?_ ?_ ?_
  · exact ⟨R, go_hid k hD, hRD, [], upd_same, rfl, fun j y h => by simp at h⟩
  · rintro i H' _ ⟨R1, g1, _⟩
    exact hG R1 H' g1
  · rintro i x H1 H1' hi ⟨R1, g1, hR1, ys, hy, hl, hP⟩ hY
    refine hs i x R1 H1 H1' hi g1 hY _ _ fun R2 H2 y g2 hp => ⟨ys, g2.keep D hne _ hy, small1000 (by omega), R2, go_put (g1.trans g2) hD (g2.fresh D _ hy hR1) hne, g2.fresh D _ hy hR1, ys ++ [y], upd_same, ?_, ?_⟩
    · rw [List.length_append, List.length_singleton, hl]
    · intro j u hu
      by_cases hj : j < ys.length
      · rw [List.getElem?_append_left hj] at hu
        exact Pm j R1 R2 u g2.same (hP j u hu)
      · rw [List.getElem?_append_right (by omega)] at hu
        have hj2 := (List.getElem?_eq_some_iff.mp hu).1
        rw [List.length_singleton] at hj2
        have ej : j - ys.length = 0 := by omega
        rw [ej] at hu
        have eu : y = u := Option.some.inj hu
        have ei : j = i := by omega
        rw [← eu, ei]
        exact hp
  · rintro H1 ⟨R1, g1, hR1, ys, hy, hl, hP⟩
    exact hd _ H1 ys (go_show g1 hD hR1 hne hy) upd_same hl fun j y h => Pm j _ _ y (same_upd hR1) (hP j y h)
/-- a list of texts, new -/
theorem six_of {l1 l2 l3 l4 l5 l6 : Addr} {x : V} (h1 : R l1 = some (.lst [.str "look", .str "hold"])) (h2 : R l2 = some (.lst [.str "look", .str "try"])) (h3 : R l3 = some (.lst [.str "lock", .str "look", .str "hold", .str "unlock"]))
    (h4 : R l4 = some (.lst [.str "lock", .str "look", .str "try", .str "unlock"])) (h5 : R l5 = some (.lst [.str "lock", .str "look", .str "unlock", .str "hold"])) (h6 : R l6 = some (.lst [.str "lock", .str "look", .str "unlock", .str "try"]))
    (hx : x ∈ [V.ref l1, .ref l2, .ref l3, .ref l4] ++ [V.ref l5, .ref l6]) : ∃ (a : Addr) (op : List Str), x = .ref a ∧ R a = some (.lst (op.map V.str)) ∧ op ∈ opens := by
  simp only [List.cons_append, List.nil_append, List.mem_cons, List.not_mem_nil, or_false] at hx
  rcases hx with rfl | rfl | rfl | rfl | rfl | rfl
  · exact ⟨_, ["look", "hold"], rfl, h1, by decide⟩
  · exact ⟨_, ["look", "try"], rfl, h2, by decide⟩
  · exact ⟨_, ["lock", "look", "hold", "unlock"], rfl, h3, by decide⟩
  · exact ⟨_, ["lock", "look", "try", "unlock"], rfl, h4, by decide⟩
  · exact ⟨_, ["lock", "look", "unlock", "hold"], rfl, h5, by decide⟩
  · exact ⟨_, ["lock", "look", "unlock", "try"], rfl, h6, by decide⟩
theorem two_of {l3 l4 : Addr} {v : V} (f3 : LD K R (.ref l3) [T1 "touch"]) (f4 : LD K R (.ref l4) [T1 "use"]) (hv : v ∈ [V.ref l3, .ref l4]) : ∃ w : Str, LD K R v [T1 w] ∧ w ∈ (["touch", "use"] : List Str) := by
  simp only [List.mem_cons, List.not_mem_nil, or_false] at hv
  rcases hv with rfl | rfl
  · exact ⟨_, f3, by decide⟩
  · exact ⟨_, f4, by decide⟩
theorem opens_len {op : List Str} (h : op ∈ opens) : 2 ≤ op.length ∧ op.length ≤ 4 := by
  unfold opens at h
  simp only [List.mem_cons, List.not_mem_nil, or_false] at h
  rcases h with rfl | rfl | rfl | rfl | rfl | rfl <;> decide
end
end GG

/-! The puller's steps that the laws draw, as data. -/
namespace GG
open PySem PySem.Spec PyProof.Rows L2 TL
abbrev T2 (w n : Str) : PyData := .tuple [.str w, .str n]
/-- a step that the laws draw, of those that are no lock -/
def StepW (ns ms : List Str) (d : PyData) : Prop := (∃ w ∈ (["out", "wait", "empty", "down", "let"] : List Str), d = T1 w) ∨ (∃ m ∈ ms, d = T2 "mark" m) ∨ ∃ n ∈ ns, ∃ w ∈ (["bar", "forget", "idle"] : List Str), d = T2 w n
/-- a step that may stand there more than once -/
def RepW (d : PyData) : Prop := (∃ w ∈ (["wait", "empty"] : List Str), d = T1 w) ∨ ∃ n : Str, ∃ w ∈ (["bar", "forget", "idle"] : List Str), d = T2 w n
def StepsOk (ns ms : List Str) (ds : List PyData) : Prop := (∀ d ∈ ds, StepW ns ms d) ∧ ds.Pairwise fun a b => a = b → RepW a
/-- steps with lock and unlock put in -/
def LocksOf (ds es : List PyData) : Prop := es = ds ∨ ∃ a b c e k : List PyData, ds = (a ++ b) ++ c ∧ ((e = [] ∧ k = []) ∨ (e = [T1 "unlock"] ∧ (k = [] ∨ k = [T1 "lock"] ∨ k = [T1 "lock", T1 "unlock"]))) ∧ es = ((((a ++ [T1 "lock"]) ++ b) ++ e) ++ c) ++ k ∧ es.length ≤ 9
/-- a puller's row that the laws draw -/
def PullOk (ns ms : List Str) (es : List PyData) : Prop := ∃ ds, StepsOk ns ms ds ∧ ds.length ≤ 7 ∧ LocksOf ds es
theorem sIx_int (n d : Nat) {r : Int} (h0 : 0 ≤ r) (h1 : r ≤ n) : HT.sIx n d (some r) = r.toNat := by
  show (if r < 0 then (r + (n : Int)).toNat else min r.toNat n) = r.toNat
  rw [if_neg (by omega), Nat.min_eq_left (by omega)]
theorem cutG_lo {α : Type} (ds : List α) {r : Int} (h0 : 0 ≤ r) (h1 : r ≤ ds.length) : cutG ds none (some r) = ds.take r.toNat := by
  unfold cutG
  rw [sIx_int _ _ h0 h1, HT.sIx_none, List.drop_zero, Nat.sub_zero]
theorem cutG_hi {α : Type} (ds : List α) {r : Int} (h0 : 0 ≤ r) (h1 : r ≤ ds.length) : cutG ds (some r) none = ds.drop r.toNat := by
  unfold cutG
  rw [sIx_int _ _ h0 h1, HT.sIx_none, List.take_of_length_le (by rw [List.length_drop]; exact Nat.le_refl _)]
theorem cutG_mid {α : Type} (ds : List α) {r t : Int} (h0 : 0 ≤ r) (h1 : r ≤ t) (h2 : t ≤ ds.length) : cutG ds (some r) (some t) = (ds.drop r.toNat).take (t.toNat - r.toNat) := by
  unfold cutG
  rw [sIx_int _ _ h0 (by omega), sIx_int _ _ (by omega) h2]
theorem three_cuts {α : Type} (ds : List α) {r t : Int} (h0 : 0 ≤ r) (h1 : r ≤ t) (h2 : t ≤ ds.length) : ds = (cutG ds none (some r) ++ cutG ds (some r) (some t)) ++ cutG ds (some t) none := by
  rw [cutG_lo ds h0 (by omega), cutG_mid ds h0 h1 h2, cutG_hi ds (by omega) h2]
  have e : ds.take r.toNat ++ (ds.drop r.toNat).take (t.toNat - r.toNat) = ds.take t.toNat := by
    rw [← List.take_add]
    congr 1
    omega
  rw [e, List.take_append_drop]
section
variable {K : PySem.W.Frag} {p : Addr} {R H : Hp}
/-- a cut of a list -/
theorem sliceL {x : V} {ds : List PyData} {lo hi : Option Int} {Q : VK} (k : Rest p R H) (hx : LD K R x ds) (hq : ∀ y R' H', Go p R H R' H' → LD K R' y (cutG ds lo hi) → Q y H') : rSlL K x lo hi H Q := by
  obtain ⟨a, vs, rfl, h1, h2⟩ := hx
  exact ⟨a, vs, rfl, .inl (.inl (k.1 _ _ h1)), fun y hy => hq _ _ _ (Go.new k hy) ⟨y, _, rfl, upd_same, dpAll_same (Go.new k hy).same _ _ (dpAll_cut h2 lo hi)⟩⟩
theorem sliceLo {x : V} {ds : List PyData} {lo : Option Int} {σ : L2.St} {Q : VK} (k : Rest p R H) (hx : LD K R x ds) (hq : ∀ y R' H', Go p R H R' H' → LD K R' y (cutG ds lo none) → Q y H') : tNoPart σ H (fun u H3 => rSlL K x lo u H3 Q) := sliceL (hi := none) k hx hq
end
end GG

namespace GG
open PySem PySem.Spec PyProof.Rows L2 TL
theorem eqv_strs : ∀ xs ys : List Str, PyData.eqvAll (xs.map PyData.str) (ys.map PyData.str) = true ↔ xs = ys
  | [], [] => ⟨fun _ => rfl, fun _ => rfl⟩
  | [], y :: ys => iff_of_false (by intro h; cases h) (by intro h; cases h)
  | x :: xs, [] => iff_of_false (by intro h; cases h) (by intro h; cases h)
  | x :: xs, y :: ys => by
    show ((x == y) && PyData.eqvAll (xs.map PyData.str) (ys.map PyData.str)) = true ↔ _
    rw [Bool.and_eq_true_iff, eqv_strs xs ys, List.cons.injEq, beq_iff_eq]
theorem StepW.words {ns ms : List Str} {d : PyData} (h : StepW ns ms d) : ∃ (w : Str) (r : List Str), d = .tuple ((w :: r).map PyData.str) := by
  rcases h with ⟨w, _, rfl⟩ | ⟨m, _, rfl⟩ | ⟨n, _, w, _, rfl⟩
  · exact ⟨w, [], rfl⟩
  · exact ⟨"mark", [m], rfl⟩
  · exact ⟨w, [n], rfl⟩
theorem eqv_step {ns ms : List Str} {d e : PyData} (h : StepW ns ms d) (h' : StepW ns ms e) : PyData.eqv d e = true ↔ d = e := by
  obtain ⟨w, r, rfl⟩ := h.words
  obtain ⟨v, q, rfl⟩ := h'.words
  refine (eqv_strs (w :: r) (v :: q)).trans ⟨fun e => by rw [e], fun e => ?_⟩
  injection e with e
  exact List.map_inj_right (fun a b h => by injection h) |>.mp e
theorem step_good {ns ms : List Str} {d : PyData} (h1 : NamesOk ns) (h2 : NamesOk ms) (h : StepW ns ms d) : Good 1 d := by
  rcases h with ⟨w, hw, rfl⟩ | ⟨m, hm, rfl⟩ | ⟨n, hn, w, hw, rfl⟩
  · refine good_t (n := 0) (by show 1 ≤ 1000; decide) fun d hd => ?_
    rw [List.mem_singleton] at hd
    subst hd
    simp only [List.mem_cons, List.not_mem_nil, or_false] at hw
    rcases hw with rfl | rfl | rfl | rfl | rfl <;> exact good_word _ (by decide +kernel) 0
  · refine good_t (n := 0) (by show 2 ≤ 1000; decide) fun d hd => ?_
    rw [List.mem_cons, List.mem_singleton] at hd
    rcases hd with rfl | rfl
    · exact good_word _ (by decide +kernel) 0
    · exact good_name h2 hm 0
  · refine good_t (n := 0) (by show 2 ≤ 1000; decide) fun d hd => ?_
    rw [List.mem_cons, List.mem_singleton] at hd
    rcases hd with rfl | rfl
    · simp only [List.mem_cons, List.not_mem_nil, or_false] at hw
      rcases hw with rfl | rfl | rfl <;> exact good_word _ (by decide +kernel) 0
    · exact good_name h1 hn 0
theorem rep_of {ns ms : List Str} {w : Str} {r : List PyData} (h : StepW ns ms (.tuple (.str w :: r))) (hw : inV (.str w) [.str "wait", .str "empty", .str "bar", .str "forget", .str "idle"] = true) : RepW (.tuple (.str w :: r)) := by
  rcases h with ⟨v, hv, e⟩ | ⟨m, hm, e⟩ | ⟨n, hn, v, hv, e⟩
  · injection e with e
    injection e with e1 e2
    injection e1 with e1
    subst e1 e2
    simp only [List.mem_cons, List.not_mem_nil, or_false] at hv
    rcases hv with rfl | rfl | rfl | rfl | rfl
    · exact absurd hw (by decide +kernel)
    · exact .inl ⟨_, by decide, rfl⟩
    · exact .inl ⟨_, by decide, rfl⟩
    · exact absurd hw (by decide +kernel)
    · exact absurd hw (by decide +kernel)
  · injection e with e
    injection e with e1 e2
    injection e1 with e1
    subst e1
    exact absurd hw (by decide +kernel)
  · injection e with e
    injection e with e1 e2
    injection e1 with e1
    subst e1 e2
    exact .inr ⟨n, w, hv, rfl⟩
theorem rel_symm {a b : PyData} (h : a = b → RepW a) : b = a → RepW b := fun e => by
  subst e
  exact h rfl
theorem StepsOk.sub {ns ms : List Str} {ds es : List PyData} (h : StepsOk ns ms ds) (s : es.Sublist ds) : StepsOk ns ms es := ⟨fun d hd => h.1 d (s.subset hd), h.2.sublist s⟩
theorem StepsOk.ins {ns ms : List Str} {A B k ds : List PyData} (h : StepsOk ns ms ds) (e : A ++ B = ds) (hk : ∀ d ∈ k, StepW ns ms d) (hp : k.Pairwise fun a b => a = b → RepW a) (hx : ∀ a ∈ k, ∀ b ∈ ds, a = b → RepW a) : StepsOk ns ms ((A ++ k) ++ B) := by
  have pm : List.Perm ((A ++ k) ++ B) (k ++ ds) := by
    rw [← e, List.append_assoc]
    exact List.perm_append_comm_assoc _ _ _
  refine ⟨fun d hd => ?_, (pm.pairwise_iff (fun h => rel_symm h)).mpr (List.pairwise_append.mpr ⟨hp, h.2, hx⟩)⟩
  have hd := pm.subset hd
  rcases List.mem_append.mp hd with hd | hd
  · exact hk d hd
  · exact h.1 d hd
theorem del_sub (ds : List PyData) {r : Int} (h0 : 0 ≤ r) (h1 : r < ds.length) : (cutG ds none (some r) ++ cutG ds (some (r + 1)) none).Sublist ds ∧ (cutG ds none (some r) ++ cutG ds (some (r + 1)) none).length + 1 = ds.length := by
  rw [cutG_lo ds h0 (by omega), cutG_hi ds (by omega) (by omega)]
  constructor
  · refine (List.Sublist.append (List.Sublist.refl _) (List.drop_sublist_drop_left ds (i := r.toNat) (by omega))).trans ?_
    rw [List.take_append_drop]
    exact List.Sublist.refl _
  · rw [List.length_append, List.length_take, List.length_drop]
    omega
theorem cut_two {α : Type} (ds : List α) {r : Int} (h0 : 0 ≤ r) : cutG ds none (some r) ++ cutG ds (some r) none = ds := by
  have e : ∀ d, HT.sIx ds.length d (some r) = min r.toNat ds.length := fun d => by
    show (if r < 0 then (r + (ds.length : Int)).toNat else min r.toNat ds.length) = _
    rw [if_neg (by omega)]
  unfold cutG
  rw [e, e, HT.sIx_none, HT.sIx_none, List.drop_zero, Nat.sub_zero, List.take_of_length_le (l := ds.drop _) (by rw [List.length_drop]; exact Nat.le_refl _), List.take_append_drop]
/-- the steps that the law begins with -/
def ini (ns ms : List Str) (b : Bool) : List PyData := (((((([T1 "out"] ++ ms.map (T2 "mark")) ++ ns.map (T2 "bar")) ++ ns.map (T2 "forget")) ++ [T1 "wait"]) ++ ns.map (T2 "idle")) ++ (if b = true then [T1 "empty"] else [])) ++ [T1 "down", T1 "let"]
theorem ini_len (ns ms : List Str) (b : Bool) : 4 ≤ (ini ns ms b).length ∧ (ini ns ms b).length ≤ ms.length + 3 * ns.length + 5 := by
  unfold ini
  cases b <;> simp only [List.length_append, List.length_map, List.length_cons, List.length_nil, if_true, Bool.false_eq_true, if_false] <;> omega
theorem SOk.app {ns ms : List Str} {A B : List PyData} (h : StepsOk ns ms A) (k : StepsOk ns ms B) (hx : ∀ a ∈ A, ∀ b ∈ B, a = b → RepW a) : StepsOk ns ms (A ++ B) :=
  ⟨fun d hd => (List.mem_append.mp hd).elim (h.1 d) (k.1 d), List.pairwise_append.mpr ⟨h.2, k.2, hx⟩⟩
theorem SOk.rep {ns ms : List Str} {A B : List PyData} (h : StepsOk ns ms A) (k : ∀ d ∈ B, StepW ns ms d ∧ RepW d) : StepsOk ns ms (A ++ B) :=
  SOk.app h ⟨fun d hd => (k d hd).1, List.pairwise_of_forall_mem_list fun a ha b _ _ => (k a ha).2⟩ fun a _ b hb e => by rw [e]; exact (k b hb).2
theorem rep_names {ns ms : List Str} {w : Str} (hw : w ∈ (["bar", "forget", "idle"] : List Str)) : ∀ d ∈ ns.map (T2 w), StepW ns ms d ∧ RepW d := fun d hd => by
  obtain ⟨n, hn, rfl⟩ := List.mem_map.mp hd
  exact ⟨.inr (.inr ⟨n, hn, w, hw, rfl⟩), .inr ⟨n, w, hw, rfl⟩⟩
theorem ini_ok {ns ms : List Str} {b : Bool} (hm : ms.Nodup) : StepsOk ns ms (ini ns ms b) := by
  have h1 : StepsOk ns ms ([T1 "out"] ++ ms.map (T2 "mark")) := by
    refine SOk.app ⟨fun d hd => ?_, List.pairwise_singleton _ _⟩ ⟨fun d hd => ?_, List.pairwise_map.mpr (hm.imp fun h e => absurd (by injection e with e; injection e with _ e; injection e with e; injection e) h)⟩ fun a ha b hb e => ?_
    · rw [List.mem_singleton.mp hd]
      exact .inl ⟨"out", by decide, rfl⟩
    · obtain ⟨m, hm, rfl⟩ := List.mem_map.mp hd
      exact .inr (.inl ⟨m, hm, rfl⟩)
    · obtain ⟨m, hm, rfl⟩ := List.mem_map.mp hb
      rw [List.mem_singleton.mp ha] at e
      injection e with e
      injection e with _ e
      cases e
  have one : ∀ w ∈ (["wait", "empty"] : List Str), StepW ns ms (T1 w) ∧ RepW (T1 w) := fun w hw => by
    refine ⟨.inl ⟨w, ?_, rfl⟩, .inl ⟨w, hw, rfl⟩⟩
    simp only [List.mem_cons, List.not_mem_nil, or_false] at hw
    rcases hw with rfl | rfl <;> decide
  have h6 : StepsOk ns ms (((((([T1 "out"] ++ ms.map (T2 "mark")) ++ ns.map (T2 "bar")) ++ ns.map (T2 "forget")) ++ [T1 "wait"]) ++ ns.map (T2 "idle")) ++ (if b = true then [T1 "empty"] else [])) := by
    refine SOk.rep (SOk.rep (SOk.rep (SOk.rep (SOk.rep h1 (rep_names (by decide))) (rep_names (by decide))) fun d hd => ?_) (rep_names (by decide))) fun d hd => ?_
    · rw [List.mem_singleton.mp hd]
      exact one _ (by decide)
    · cases b with
      | true =>
        rw [if_pos rfl] at hd
        rw [List.mem_singleton.mp hd]
        exact one _ (by decide)
      | false => cases hd
  refine SOk.app h6 ⟨fun d hd => ?_, ?_⟩ fun a ha b hb e => ?_
  · rw [List.mem_cons, List.mem_singleton] at hd
    rcases hd with rfl | rfl
    · exact .inl ⟨"down", by decide, rfl⟩
    · exact .inl ⟨"let", by decide, rfl⟩
  · refine List.pairwise_pair.mpr fun e => ?_
    injection e with e
    injection e with e _
    injection e with e
    exact absurd e (by decide)
  · have hne : ∀ w ∈ (["down", "let"] : List Str), ∀ d ∈ ((((([T1 "out"] ++ ms.map (T2 "mark")) ++ ns.map (T2 "bar")) ++ ns.map (T2 "forget")) ++ [T1 "wait"]) ++ ns.map (T2 "idle")), d ≠ T1 w := by
      intro w hw d hd e
      subst e
      simp only [List.mem_append, List.mem_singleton, List.mem_map] at hd
      rcases hd with ((((h | ⟨_, _, h⟩) | ⟨_, _, h⟩) | ⟨_, _, h⟩) | h) | ⟨_, _, h⟩ <;> injection h with h <;> injection h with h h'
      · injection h with h
        subst h
        revert hw
        decide
      · cases h'
      · cases h'
      · cases h'
      · injection h with h
        subst h
        revert hw
        decide
      · cases h'
    subst e
    rcases List.mem_append.mp ha with ha | ha
    · rw [List.mem_cons, List.mem_singleton] at hb
      rcases hb with rfl | rfl
      · exact absurd rfl (hne "down" (by decide) _ ha)
      · exact absurd rfl (hne "let" (by decide) _ ha)
    · revert ha
      split
      · intro ha
        rw [List.mem_singleton.mp ha]
        exact .inl ⟨"empty", by decide, rfl⟩
      · intro ha
        cases ha
section
variable {K : PySem.W.Frag} {p : Addr} {R H : Hp}
theorem dpAll_at {vs : List V} {ds : List PyData} {i : Nat} {v : V} {d : PyData} (h : DpAll K R vs ds) (h1 : vs[i]? = some v) (h2 : ds[i]? = some d) : Dp K R v d := by
  obtain ⟨e, he, hd⟩ := dpAll_get h h1
  rw [h2] at he
  rw [Option.some.inj he]
  exact hd
theorem dpAll_mem {vs : List V} {ds : List PyData} {v : V} (h : DpAll K R vs ds) (h1 : v ∈ vs) : ∃ d, d ∈ ds ∧ Dp K R v d := by
  obtain ⟨i, hi⟩ := List.getElem?_of_mem h1
  obtain ⟨e, he, hd⟩ := dpAll_get h hi
  exact ⟨e, List.mem_of_getElem? he, hd⟩
theorem new1v {u : V} {ds : PyData} {l : Addr} (k : Rest p R H) (hu : Dp K R u ds) (hl : H l = none) : Go p R H (upd R l (.lst [u])) (upd H l (.lst [u])) ∧ LD K (upd R l (.lst [u])) (.ref l) [ds] :=
  ⟨Go.new k hl, l, _, rfl, upd_same, .cons (dp_same (Go.new (o := .lst [u]) k hl).same _ _ hu) .nil⟩
theorem cut_len1 {α : Type} (ds : List α) (b : Bool) : (cutG ds none (some (if b = true then 1 else 0))).length ≤ 1 := by
  have e : HT.sIx ds.length ds.length (some (if b = true then 1 else 0)) ≤ 1 := by
    cases b
    · show min 0 ds.length ≤ 1
      omega
    · show min 1 ds.length ≤ 1
      omega
  unfold cutG
  rw [List.length_take]
  omega
/-- the word that a step begins with -/
def headW : PyData → Str
  | .tuple (.str w :: _) => w
  | _ => ""
/-- a comprehension that keeps some of a list's data -/
theorem lc_goF {J : It} {n : Nat} {G : Hp → Prop} {Y : Nat → Hp → V → Hp → Prop} (wk : Walk J n G Y) {D : Addr} (hn : n ≤ 1000) (k : Rest p R H) (hD : H D = none) (hG : ∀ R1 H1, Go p R H R1 H1 → G H1)
    (ds : List PyData) (hdn : ds.length = n) (f : PyData → Bool) {g : TG} {tt : TT} {te : TE} {vs : List Nat} {σ : L2.St} {Qd : Hp → Prop}
    (hs : ∀ i x R1 H1 H1' d, ds[i]? = some d → Go p R H R1 H1 → Y i H1 x H1' → ∀ (C : V → Hp → Prop) (E : Hp → Prop), (∀ R2 H2 y, f d = true → Go p R1 H1 R2 H2 → Dp K R2 y d → C y H2) → (∀ R2 H2, f d = false → Go p R1 H1 R2 H2 → E H2) →
      g x (wipe σ vs) H1' fun σ2 H2 => wipe σ2 vs = wipe σ vs ∧ tt σ2 H2 fun b H3 => if b = true then te σ2 H3 C else E H3)
    (hd : ∀ R1 H1, Go p R H R1 H1 → LD K R1 (.ref D) (ds.filter f) → Qd H1) :
    ∃ W : Nat → Nat → Hp → Prop, (∃ m, W 0 m (upd H D (.lst []))) ∧ ∀ i m H, W i m H →
      (J.stop i H ∧ Qd H) ∨ (J.go i H ∧ ∃ Nx : Hp → Prop, (∀ H', Nx H' → ∃ m', m' < m ∧ W (i + 1) m' H') ∧ ∀ x H', J.yld i H x H' → g x (wipe σ vs) H' fun σ2 H2 => wipe σ2 vs = wipe σ vs ∧ tt σ2 H2 fun b H3 =>
        if b = true then te σ2 H3 fun y H4 => ∃ acc, H4 D = some (.lst acc) ∧ acc.length < sizeLine ∧ Nx (upd H4 D (.lst (acc ++ [y]))) else Nx H3) := by
  have hne := k.ne hD
  have hRD : R D = none := k.1.free hD
  refine lc_it wk (fun i H' => ∃ R1, Go p R H R1 H' ∧ R1 D = none ∧ ∃ ys : List V, H' D = some (.lst ys) ∧ DpAll K R1 ys ((ds.take i).filter f)) ?_ ?_ ?_ ?_
  · exact ⟨R, go_hid k hD, hRD, [], upd_same, .nil⟩
  · rintro i H' _ ⟨R1, g1, _⟩
    exact hG R1 H' g1
  · rintro i x H1 H1' hi ⟨R1, g1, hR1, ys, hy, hP⟩ hY
    have hlt : i < ds.length := by omega
    have hdi : ds[i]? = some ds[i] := List.getElem?_eq_getElem hlt
    have hl : ys.length ≤ 1000 := by
      have e1 := dpAll_len hP
      have e2 := List.length_filter_le f (ds.take i)
      rw [List.length_take] at e2
      omega
    refine hs i x R1 H1 H1' _ hdi g1 hY _ _ (fun R2 H2 y hf g2 hp => ⟨ys, g2.keep D hne _ hy, small1000 (by omega), R2, go_put (g1.trans g2) hD (g2.fresh D _ hy hR1) hne, g2.fresh D _ hy hR1, ys ++ [y], upd_same, ?_⟩) (fun R2 H2 hf g2 => ⟨R2, g1.trans g2, g2.fresh D _ hy hR1, ys, g2.keep D hne _ hy, ?_⟩)
    · rw [filt_snoc hdi, if_pos hf]
      exact dpAll_app (dpAll_same g2.same _ _ hP) (.cons hp .nil)
    · rw [filt_snoc hdi, hf, if_neg Bool.false_ne_true, List.append_nil]
      exact dpAll_same g2.same _ _ hP
  · rintro H1 ⟨R1, g1, hR1, ys, hy, hP⟩
    refine hd _ H1 (go_show g1 hD hR1 hne hy) ⟨D, ys, rfl, upd_same, ?_⟩
    rw [List.take_of_length_le (by omega)] at hP
    exact dpAll_same (same_upd hR1) _ _ hP
end
end GG

/-! Objects of a program's own classes: made with a star, methods whose exceptions are wished for at the caller's slots, static methods, len, places in tuples of data, counts of texts, repr of what is flat. -/
namespace OO
open PySem PySem.Spec PyProof.Rows L2
theorem pat {CX : CXT} {X : Cx} {E : XK} (h : Passes CX X E) : ∀ σ : L2.St, PassesAt CX X σ ((fun _ => E) σ) := fun σ pins H s e s' I c => h pins σ H s e s' I c
section
variable {X : Cx} {CX : CXT} {k : Nat} {f C p g : Addr} {mc : Value} {sp : Sp} {E : L2.St → XK} {x m : Str} {e o : Expr} {es : List Expr} {te ta : TE} {t : TA} {q sp_ pos apos : Pos} {pl : Sem Bool} {pins : List (Addr × Obj)} {σ : L2.St} {H : Hp} {s : Shared}
theorem run_fnRS {Q : VK} {us : List Value} {vs : List V} (F : FnR X.prog X.w X.K X.mg X.base CX k f sp) (hr : Room k X.A) (hx : PassesAt CX X σ (E σ)) (I : Inv X pins σ H s) (r : Vals vs us) (h : sp vs H Q (E σ)) :
    codeAny (model X.prog X.w) X.A (.call (.ref f) ⟨us, []⟩) (fun r s' => match r with | .ok (.ret v) => EP X pins σ Q v s' | .ok _ => False | .error e => X.xe e s') s := by
  refine codeAny_mono (F X.A X.stack s H us vs Q (E σ) hr I.env0 r h) fun r s' hq => ?_
  cases r with
  | error e => exact hx pins H s e s' I hq
  | ok fl =>
    cases fl with
    | ret u => exact I.after hq
    | next => exact False.elim hq
    | brk => exact False.elim hq
    | cont => exact False.elim hq
/-- f(e, ..) by a positional promise -/
def tCallRS (sp : Sp) (E : L2.St → XK) (t : TA) : TE := fun σ H Q => t σ H fun vs H1 => sp vs H1 Q (E σ)
theorem pe_callRS (F : FnR X.prog X.w X.K X.mg X.base CX k f sp) (hr : Room k X.A) (hg : Gl X x) (hm : X.mg x = some (.ref f)) (hk : PySem.W.keepIn X.K (.ref f) = true) (hx : ∀ σ, PassesAt CX X σ (E σ))
    (ha : PA X (e :: es) t) (hdb : (x == ("__debug__" : Str)) = false := by decide) (he : starEach (e :: es) X.env = (false, eval e X.env) :: starEach es X.env := by rfl) (hpl : (backTo pos (starEach es X.env)).any (·.1) = false := by rfl) :
    PE X (.Call (.Name x q) (e :: es) [] pos) (tCallRS sp E t) := by
  refine ⟨fun pins s σ H Q I h => ?_⟩
  refine wpAny_Call_Name_kw (ld_glob I hg hm ?_ hdb)
  refine PySem.W.callWith_K (h₀ := X.base) I.ok.mod.kin hk (thn (ha.run pos pins s σ H _ I h) fun us s1 ⟨vs, H1, I1, r, q⟩ => ⟨I1.kIn, ?_⟩) he hpl
  exact wpAny_call (run_fnRS F hr (hx σ) I1 r q)
/-- o.m(e, ..) -/
def tMethRS (C : Addr) (m : Str) (sp : Sp) (E : L2.St → XK) (ta : TE) (t : TA) : TE := fun σ H Q => ta σ H fun x H1 => ∃ a dx fs, x = .ref a ∧ H1 a = some (.ins C dx fs) ∧ fs.lookup m = none ∧ t σ H1 fun vs H2 => sp (x :: vs) H2 Q (E σ)
theorem pe_methRS (he : PE X o ta) (c : Cls X.K C) (hm : Meth X.K C m f) (F : FnR X.prog X.w X.K X.mg X.base CX k f sp) (hr : Room k X.A) (hx : ∀ σ, PassesAt CX X σ (E σ)) (ha : PA X (e :: es) t)
    (hst : starEach (e :: es) X.env = (false, eval e X.env) :: starEach es X.env := by rfl) (hpl : (backTo pos (starEach es X.env)).any (·.1) = false := by rfl)
    (ht : eval (.Call (.Attribute o m apos) (e :: es) [] pos) X.env = (do
      let ov ← eval o X.env
      standAt apos.atName
      let (f, first) ← holding [ov] (getMethod ov m pl)
      callWith pos f first (backTo pos (starEach (e :: es) X.env)) (backToKw pos (keywordEach [] X.env))) := by rfl) :
    PE X (.Call (.Attribute o m apos) (e :: es) [] pos) (tMethRS C m sp E ta t) := by
  refine ⟨fun pins s σ H Q I h => ?_⟩
  refine PySem.W.methodCall_KW (pl := pl) (thn (he.run pins s σ H _ I h) fun u s1 ⟨x, H1, I1, rx, a, dx, fs, ex, ea, l, q⟩ => ?_) ht
  subst ex
  obtain rfl : u = Value.ref a := rx
  refine getmeth_ok I1 ea c hm l ?_
  refine PySem.W.callWith_K (first := [.ref a]) (h₀ := X.base) I.ok.mod.kin hm.kp (thn (ha.run pos pins s1 σ H1 _ I1 q) fun us s2 ⟨vs, H2, I2, r, q2⟩ => ⟨I2.kIn, ?_⟩) hst hpl
  exact wpAny_call (run_fnRS (us := .ref a :: us) (vs := .ref a :: vs) F hr (hx σ) I2 (.cons rfl r) q2)
/-- C.m is a static method: its record at p, its def at g -/
structure SMet (K : PySem.W.Frag) (C : Addr) (mc : Value) (m : Str) (p g : Addr) : Prop where
  at_ : PySem.W.findCls K (.ref C) mc m = some (.get (.builtin "staticmethod.__get__") (.ref p) .none (.ref C))
  rc : ∃ rest, PySem.W.recIn K p "staticmethod" = some (.ref g :: rest)
  kp : PySem.W.keepIn K (.ref g) = true
theorem getsm_ok {A : Around} {E : Value → Shared → Prop} {b : Bool} {Q : Value → Shared → Prop} (I : Inv X pins σ H s) (r : ClX.CRead X.K C mc) (k : SMet X.K C mc m p g) (h : ∀ s', Inv X pins σ H s' → Q (.ref g) s') : wpAny (model X.prog X.w) A (getAttr (.ref C) m b) Q E s := by
  obtain ⟨rest, hp⟩ := k.rc
  refine PySem.W.cls_bind I.kIn r.rd k.at_ ?_
  exact wpAny_call (PySem.W.sm_get (s := { s with toks := s.toks + 1 }) I.kIn hp (PySem.W.handed_on rfl (h _ (I.tok _))))
/-- C.m(e, ..) -/
def tSMethS (C : Addr) (sp : Sp) (E : L2.St → XK) (ta : TE) (t : TA) : TE := fun σ H Q => ta σ H fun x H1 => x = .ref C ∧ t σ H1 fun vs H2 => sp vs H2 Q (E σ)
theorem pe_smethS (he : PE X o ta) (r : ClX.CRead X.K C mc) (c : SMet X.K C mc m p g) (F : FnR X.prog X.w X.K X.mg X.base CX k g sp) (hr : Room k X.A) (hx : ∀ σ, PassesAt CX X σ (E σ)) (ha : PA X (e :: es) t)
    (hst : starEach (e :: es) X.env = (false, eval e X.env) :: starEach es X.env := by rfl) (hpl : (backTo pos (starEach es X.env)).any (·.1) = false := by rfl)
    (ht : eval (.Call (.Attribute o m apos) (e :: es) [] pos) X.env = (do
      let ov ← eval o X.env
      standAt apos.atName
      let (f, first) ← holding [ov] (getMethod ov m pl)
      callWith pos f first (backTo pos (starEach (e :: es) X.env)) (backToKw pos (keywordEach [] X.env))) := by rfl) :
    PE X (.Call (.Attribute o m apos) (e :: es) [] pos) (tSMethS C sp E ta t) := by
  refine ⟨fun pins s σ H Q I h => ?_⟩
  refine PySem.W.methodCall_KW (pl := pl) (thn (he.run pins s σ H _ I h) fun u s1 ⟨x, H1, I1, rx, ex, q⟩ => ?_) ht
  subst ex
  obtain rfl : u = Value.ref C := rx
  refine PySem.W.method_cls I1.kIn r.ga (getsm_ok I1 r c fun s2 I2 => ?_)
  refine PySem.W.callWith_K (first := []) (h₀ := X.base) I.ok.mod.kin c.kp (thn (ha.run pos pins s2 σ H1 _ I2 q) fun us s3 ⟨vs, H2, I3, r3, q2⟩ => ⟨I3.kIn, ?_⟩) hst hpl
  exact wpAny_call (run_fnRS F hr (hx σ) I3 r3 q2)
/-- C( *y), C(e, ..), C(): by a positional promise of __init__ -/
theorem run_makeRS {Q : VK} {us : List Value} {vs : List V} (M : Mk X.K C f) (F : FnR X.prog X.w X.K X.mg X.base CX k f sp) (hr : Room (k + 1) X.A) (hx : PassesAt CX X σ (E σ)) (I : Inv X pins σ H s) (r : Vals vs us)
    (h : ∀ x dx, H x = Option.none → H dx = Option.none → dx ≠ x → sp (V.ref x :: vs) (upd (upd H dx (.own x)) x (.ins C dx [])) (fun v H2 => v = .non ∧ Q (.ref x) H2) (E σ)) :
    wpAny (model X.prog X.w) X.A (call (.ref C) us) (EP X pins σ Q) X.xe s := by
  have hq := h (s.heap.objs.size + 1) s.heap.objs.size (I.hok.fresh (Nat.le_succ _)) (I.hok.fresh (Nat.le_refl _)) (Nat.ne_of_lt (Nat.lt_succ_self _))
  have I2 := Inv.made (C := C) I
  have r2 : Vals (V.ref (s.heap.objs.size + 1) :: vs) (Value.ref (s.heap.objs.size + 1) :: us) := .cons rfl r
  refine wpAny_call (make_map (f := f) I.kIn M.makes M.init (beq_iff_eq.mp M.fn) (codeAny_mono (F _ X.stack _ _ (Value.ref (s.heap.objs.size + 1) :: us) _ _ (E σ) (hr.make C us []) (I2.env0.make C us []) r2 hq) fun r s' hq' => ?_))
  cases r with
  | error e => exact hx pins _ _ e s' I2 hq'
  | ok fl =>
    cases fl with
    | ret u =>
      obtain ⟨v, H', I3, rv, ev, q3⟩ := I2.after hq'
      subst ev
      exact ⟨rv, ⟨V.ref (s.heap.objs.size + 1), H', I3, rfl, q3⟩⟩
    | next => exact False.elim hq'
    | brk => exact False.elim hq'
    | cont => exact False.elim hq'
def tMakeRS (C : Addr) (sp : Sp) (E : L2.St → XK) (t : TA) : TE := fun σ H Q => t σ H fun vs H1 => ∀ x dx, H1 x = Option.none → H1 dx = Option.none → dx ≠ x →
  sp (V.ref x :: vs) (upd (upd H1 dx (.own x)) x (.ins C dx [])) (fun v H2 => v = .non ∧ Q (.ref x) H2) (E σ)
theorem pe_makeRS (M : Mk X.K C f) (F : FnR X.prog X.w X.K X.mg X.base CX k f sp) (hr : Room (k + 1) X.A) (hg : Gl X x) (hm : X.mg x = some (.ref C)) (hx : ∀ σ, PassesAt CX X σ (E σ)) (ha : PA X (e :: es) t) (hdb : (x == ("__debug__" : Str)) = false := by decide)
    (he : starEach (e :: es) X.env = (false, eval e X.env) :: starEach es X.env := by rfl) (hpl : (backTo pos (starEach es X.env)).any (·.1) = false := by rfl) : PE X (.Call (.Name x q) (e :: es) [] pos) (tMakeRS C sp E t) := by
  refine ⟨fun pins s σ H Q I h => ?_⟩
  refine wpAny_Call_Name_kw (ld_glob I hg hm ?_ hdb)
  refine PySem.W.callWith_K (h₀ := X.base) I.ok.mod.kin M.kp (thn (ha.run pos pins s σ H _ I h) fun us s1 ⟨vs, H1, I1, r, q⟩ => ⟨I1.kIn, ?_⟩) he hpl
  exact run_makeRS M F hr (hx σ) I1 r q
theorem pe_makeRS0 (M : Mk X.K C f) (F : FnR X.prog X.w X.K X.mg X.base CX k f sp) (hr : Room (k + 1) X.A) (hg : Gl X x) (hm : X.mg x = some (.ref C)) (hx : ∀ σ, PassesAt CX X σ (E σ)) (hdb : (x == ("__debug__" : Str)) = false := by decide) :
    PE X (.Call (.Name x q) [] [] pos) (tMakeRS C sp E tNil) := by
  refine ⟨fun pins s σ H Q I h => ?_⟩
  refine wpAny_Call_Name_kw (ld_glob I hg hm ?_ hdb)
  exact PySem.W.callWith_K0 I.kIn M.kp (run_makeRS (us := []) M F hr (hx σ) I .nil h)
def tMakeSt (K : PySem.W.Frag) (C : Addr) (sp : Sp) (E : L2.St → XK) (te : TE) : TE := fun σ H Q => te σ H fun y H1 => ∃ a xs, y = V.ref a ∧ (SqT K H1 a xs ∨ SqL K H1 a xs) ∧ ∀ x dx, H1 x = Option.none → H1 dx = Option.none → dx ≠ x →
  sp (V.ref x :: xs) (upd (upd H1 dx (.own x)) x (.ins C dx [])) (fun v H2 => v = .non ∧ Q (.ref x) H2) (E σ)
theorem pe_makeSt (M : Mk X.K C f) (F : FnR X.prog X.w X.K X.mg X.base CX k f sp) (hr : Room (k + 1) X.A) (hg : Gl X x) (hm : X.mg x = some (.ref C)) (hx : ∀ σ, PassesAt CX X σ (E σ)) (he : PE X e te) (hdb : (x == ("__debug__" : Str)) = false := by decide)
    (hst : starEach [.Starred e sp_] X.env = [(true, eval e X.env)] := by rfl) : PE X (.Call (.Name x q) [.Starred e sp_] [] pos) (tMakeSt X.K C sp E te) := by
  refine ⟨fun pins s σ H Q I h => ?_⟩
  refine wpAny_Call_Name_kw (ld_glob I hg hm ?_ hdb)
  refine PySem.W.callWith_S (h₀ := X.base) I.ok.mod.kin M.kp (thn (he.run pins s σ H _ I h) fun v s1 ⟨y, H1, I1, ry, a, xs, ey, hxs, q⟩ => ?_) hst
  subst ey
  obtain rfl : v = Value.ref a := ry
  exact StX.star_any I1 hxs fun us s2 I2 rv => ⟨I2.kIn, run_makeRS M F hr (hx σ) I2 rv q⟩
/-- len(o), o an instance of the class at C whose __len__ is the def at g -/
theorem call_lenO {E : XK} (F : FnR X.prog X.w X.K X.mg X.base CX k g sp) (hr : Room (k + 1) X.A) (hx : Passes CX X E) (hs : PySem.W.findIn X.K (.ref C) "__len__" = some (some (.ref g))) (hf : PySem.W.isFn X.K (.ref g) = true) :
    CallR X (.builtin "len") (fun xs H Q => ∃ a dx fs, xs = [V.ref a] ∧ H a = some (.ins C dx fs) ∧ sp [V.ref a] H (fun v H' => ∃ n : Nat, v = .int n ∧ n ≤ 1000 ∧ Q (.int n) H') E) := by
  intro pins s σ H xs us Q I r h
  obtain ⟨a, dx, fs, rfl, ha, h⟩ := h
  obtain ⟨u, rfl, hu⟩ := vals1 r
  obtain rfl : u = Value.ref a := hu
  obtain ⟨mA, O, _, _, _, _⟩ := ins_get I.hok ha
  obtain ⟨od, J, _⟩ := O.look
  refine Calls.call_function_entry kind_len plain_len entry_len (args_len1 _) ?_
  unfold Builtin.«len»
  refine wpAny_bind (m := oneArg "len" _) (wpAny_pure ?_)
  have r2 : Vals [V.ref a] [Value.ref a] := .cons rfl .nil
  refine wpAny_bind (m := callSpecial? (.ref a) (Str.ofString "__len__")) (PySem.W.special_fn (args := []) I.kIn J hs (beq_iff_eq.mp hf) (wpAny_call (codeAny_mono (F X.A.in1 X.stack s H [.ref a] [.ref a] _ E hr.in1 I.env0.in1 r2 h) fun r s' hq => ?_)))
  cases r with
  | error e => exact hx pins σ H s e s' I hq
  | ok fl =>
    cases fl with
    | ret u =>
      obtain ⟨v, H', I3, rv, n, ev, hn, q3⟩ := I.after hq
      subst ev
      obtain ⟨tk, eu⟩ := (show ∃ tk, u = Value.int n tk from rv)
      subst eu
      refine wpAny_bind (wpAny_holding (wpAny_pure ?_))
      refine wpAny_bind (wpAny_letGo ?_)
      show wpAny _ _ (if ((n : Nat) : Int) < 0 then _ else _) _ _ _
      rw [if_neg (by omega)]
      show wpAny _ _ (if ((n : Nat) : Int) ≥ 2 ^ 63 then _ else _) _ _ _
      rw [if_neg (by omega)]
      exact wpAny_bind (wpAny_mkInt (wpAny_pure ⟨_, rfl, .int n, H', I3.tok _, ⟨_, rfl⟩, q3⟩))
    | next => exact False.elim hq
    | brk => exact False.elim hq
    | cont => exact False.elim hq
/-! ### data in tuples -/
def rInT (K : PySem.W.Frag) : R2 := fun x y H Q => ∃ d ds, Dp K H x d ∧ Dp K H y (.tuple ds) ∧ SeqAt.shaped d = true ∧ SeqAt.shaped (.tuple ds) = true ∧ Q (.bl (ds.any fun z => PyData.eqv z d)) H
theorem op_inT (hu : X.A.units + 65 < cLine) : OpR X (compareOp .In) (rInT X.K) := by
  intro pins s σ H x y v u Q I rx ry h
  obtain ⟨d, ds, hd, he, sd, se, q⟩ := h
  obtain ⟨as, r1⟩ := Dp.reads I d x v hd rx
  obtain ⟨bs, r2⟩ := Dp.reads I (.tuple ds) y u he ry
  exact SeqAt.in_tuple_reads r2 r1 (SeqAt.canLay_of_shaped se) (SeqAt.canLay_of_shaped sd) (room_in_shaped sd hu) ⟨.bl _, H, I, rfl, q⟩
/-- t.index(x): the first place of an equal one -/
def rIndexT (K : PySem.W.Frag) : V → List V → Hp → VK → Prop := fun x xs H Q => ∃ (a : Addr) (y : V) (d : PyData) (ds : List PyData) (j : Nat) (z : PyData), x = V.ref a ∧ xs = [y] ∧ Dp K H (V.ref a) (.tuple ds) ∧ Dp K H y d ∧
  SeqAt.shaped (.tuple ds) = true ∧ SeqAt.shaped d = true ∧ ds[j]? = some z ∧ PyData.eqv z d = true ∧ (∀ (m : Nat) (z' : PyData), m < j → ds[m]? = some z' → PyData.eqv z' d = false) ∧ Q (.int (j : Nat)) H
theorem mt_tindexD (hu : X.A.units + 65 < cLine) : MtR X "tuple.index" (rIndexT X.K) := by
  intro pins s σ H x xs v us Q I rx rxs h
  obtain ⟨a, y, d, ds, j, z, rfl, rfl, hl, hy, sl, sd, hz, hzj, hno, q⟩ := h
  cases rx
  cases rxs with
  | cons ry rt =>
    rename_i uy ut
    cases rt
    obtain ⟨bs, r1⟩ := Dp.reads I d y uy hy ry
    have hxs : PyData.canLayAll0 ds = true := SeqAt.canLay_of_shaped sl
    have hroom : X.A.units + 1 + min (PyData.depthAll ds) d.depth < cLine := room_in_shaped sd hu
    cases hl with
    | tup hs ha =>
      obtain ⟨its, rv, ⟨⟨cls, dd, data, sls⟩, ho, hc, n, hdt⟩, hlen⟩ := I.tuple hs
      simp only at hc hdt
      subst hc hdt
      obtain ⟨as, h4⟩ := Dp.readsAll I ds _ its ha rv
      have hn : its.length = ds.length := SeqAt.ReadsAll.length ds its as h4
      have hmap : its.map (SeqAt.readOf s.heap) = ds := SeqAt.readsAll_map ds its as hxs h4
      have hvl := rv.length
      obtain ⟨hjd, _⟩ := List.getElem?_eq_some_iff.mp hz
      have hjl : j < its.length := by omega
      have hj : j < its.toArray.size := by simpa using hjl
      have at_ : ∀ (m : Nat) (hm : m < its.toArray.size) (z' : PyData), ds[m]? = some z' → SeqAt.readOf s.heap its.toArray[m] = z' := by
        intro m hm z' hz'
        have hml : m < its.length := by simpa using hm
        rw [← hmap, List.getElem?_map, List.getElem?_eq_getElem hml] at hz'
        have e1 : SeqAt.readOf s.heap its[m] = z' := Option.some.inj (show some (SeqAt.readOf s.heap its[m]) = some z' from hz')
        simpa using e1
      refine call_meets PySem.F.slot_tuple_index ⟨_, ho, rfl⟩ PySem.F.entry_tuple_index (PySem.F.args_tuple_index_2 _ _)
        (TI.tuple_indexAt a its.toArray n dd sls uy (fun u => PyData.eqv (SeqAt.readOf s.heap u) d) j hj ?_ ?_) ⟨ho, SeqAt.items_eqAt (vs := its.toArray) (show ReadsAll s.heap its.toArray.toList ds as from h4) r1 hxs (SeqAt.canLay_of_shaped sd) hroom, ?_⟩
      · show PyData.eqv (SeqAt.readOf s.heap its.toArray[j]) d = true
        rw [at_ j hj z hz]
        exact hzj
      · intro m hm hmj
        have hmd : m < ds.length := by omega
        have hz' : ds[m]? = some ds[m] := List.getElem?_eq_getElem hmd
        show PyData.eqv (SeqAt.readOf s.heap its.toArray[m]) d = false
        rw [at_ m hm _ hz']
        exact hno m _ hmj hz'
      · exact ⟨.int (j : Nat), H, I.tok _, ⟨_, rfl⟩, q⟩
/-- xs.count(z), texts -/
def rCntS (K : PySem.W.Frag) : V → List V → Hp → VK → Prop := fun x xs H Q => ∃ (p : Addr) (ys : List Str) (z : Str), x = .ref p ∧ xs = [.str z] ∧ SqL K H p (ys.map V.str) ∧ Q (.int (countIn (.str z) (ys.map PyData.str))) H
theorem mt_lcountS : MtR X "list.count" (rCntS X.K) := by
  intro pins s σ H x xs v us Q I rx rxs h
  obtain ⟨p, ys, z, rfl, rfl, hs, q⟩ := h
  cases rx
  obtain ⟨u, rfl, ru⟩ := rxs.one
  obtain ⟨t, rfl⟩ := ru
  obtain ⟨its, rv, pl, hlen⟩ := I.list hs
  exact count_list_strs pl.isList (strsAre_of rv) ⟨.int _, H, I.tok _, ⟨_, rfl⟩, q⟩
/-! ### repr of what is flat -/
def reprV : V → Option Str
  | .int i => some (toString i)
  | .bl b => some (if b then "True" else "False")
  | .non => some "None"
  | .str z => some (reprText z)
  | _ => none
def rRepr (xs : List V) (H : Hp) (Q : VK) : Prop := ∃ v z, xs = [v] ∧ reprV v = some z ∧ (∀ i, v = .int i → i.natAbs.log2 < 1920) ∧ (∀ y, v = .str y → (reprText y).length ≤ sizeLine) ∧ Q (.str z) H
theorem call_reprF : CallR X (.builtin "repr") rRepr := by
  intro pins s σ H xs us Q I r h
  obtain ⟨v, z, rfl, hz, hi, hs, q⟩ := h
  obtain ⟨u, rfl, hu⟩ := vals1 r
  cases v with
  | int i =>
    obtain ⟨t, rfl⟩ := hu
    cases hz
    exact PySem.P.repr_of_int (hi i rfl) ⟨.str _, H, I.tok _, ⟨_, rfl⟩, q⟩
  | bl b =>
    cases (show u = Value.bool b from hu)
    cases hz
    exact PySem.P.repr_of_bool ⟨.str _, H, I.tok _, ⟨_, rfl⟩, q⟩
  | non =>
    cases (show u = Value.none from hu)
    cases hz
    exact PySem.P.repr_of_none ⟨.str _, H, I.tok _, ⟨_, rfl⟩, q⟩
  | str y =>
    obtain ⟨t, rfl⟩ := hu
    cases hz
    exact PySem.P.repr_of_str ⟨.str _, H, I.tok _, ⟨_, rfl⟩, q⟩ (hs y rfl)
  | byt b => cases hz
  | flt b => cases hz
  | ref a => cases hz
  | ty n => cases hz
end
end OO

/-! enumerate of a tuple. -/
namespace OO
open PySem PySem.Sem
open AutoSeq1 (wpAny_loadPart')
theorem meets_enumerate_newT (l : Addr) (items : Array Value) (n : Nat) (dct : Option Addr) (sl : Array (Option Value)) :
    Meets (Builtin.«enumerate.__new__» ⟨[.type "enumerate", .ref l], []⟩) (fun _ R s => s.heap.get? l = some { cls := .type "tuple", dict := dct, data := .seq items n, slots := sl } ∧
      R (.ok (.ret (.ref (s.heap.push { cls := .type "tuple_iterator", data := .fields #[.ref l, .int 0 0] }).objs.size)))
        { s with heap := (s.heap.push { cls := .type "tuple_iterator", data := .fields #[.ref l, .int 0 0] }).push { cls := .type "enumerate", data := .fields #[.none, .bool false, .ref s.heap.objs.size, rawInt 0, .none, .none] } }) :=
  .of_wp fun prog w A R s h => by
    obtain ⟨hp, g, d, tk, os⟩ := s; obtain ⟨hl, h⟩ := h
    have hsub := sub_enumerate
    have hL : Heap.IsTuple (Shared.heap ⟨hp, g, d, tk, os⟩) l items := ⟨_, hl, rfl, n, rfl⟩
    wp_walk using wpAny_loadPart' hl
    refine wpAny_stack_any fun st => wpAny_pure ?_
    split
    · rename_i c _ _ _ _ _
      cases (c == Value.type "enumerate")
      · wp_walk using wpAny_loadPart' hl, wpAny_pyIter_tuple hL
        exact ⟨_, rfl, h⟩
      · wp_walk using wpAny_loadPart' hl, wpAny_pyIter_tuple hL
        exact ⟨_, rfl, h⟩
    · wp_walk using wpAny_loadPart' hl, wpAny_pyIter_tuple hL
      exact ⟨_, rfl, h⟩
theorem call_enumerate_tuple {prog : Program} {w : World} {A : Around} {E : Value → Shared → Prop} {s : Shared} {l : Addr} {items : Array Value} {Q : Value → Shared → Prop} (hL : s.heap.IsTuple l items)
    (h : ∀ h', IsEnum h' (s.heap.objs.size + 1) s.heap.objs.size 0 .none → h'.IsTupleIter s.heap.objs.size l 0 → h'.objs.size = s.heap.objs.size + 2 →
      (∀ b o, s.heap.get? b = some o → h'.get? b = some o) → Q (.ref (s.heap.objs.size + 1)) { s with heap := h' }) :
    wpAny (model prog w) A (call (.type "enumerate") [.ref l]) Q E s := by
  obtain ⟨⟨c, dct, dt, sl⟩, hl, hc, n, hd⟩ := hL
  replace hc : c = .type "tuple" := hc
  replace hd : dt = .seq items n := hd
  subst hc hd
  refine callType_new F.called_enumerate (by decide) (F.typeCall_enumerate_1 _) (F.newCall_enumerate_1 _) (fun obj => F.args_object_init_2 obj _) F.entry_enumerate_new
    (meets_enumerate_newT l items n dct sl) ⟨hl, ?_⟩
  have hz : (s.heap.push { cls := .type "tuple_iterator", data := .fields #[.ref l, .int 0 0] }).objs.size = s.heap.objs.size + 1 := Heap.size_push ..
  show _ ∧ _
  rw [hz]
  have he : IsEnum ((s.heap.push { cls := .type "tuple_iterator", data := .fields #[.ref l, .int 0 0] }).push
      { cls := .type "enumerate", data := .fields #[.none, .bool false, .ref s.heap.objs.size, rawInt 0, .none, .none] }) (s.heap.objs.size + 1) s.heap.objs.size 0 .none := by
    have := Heap.get?_push_size (s.heap.push { cls := .type "tuple_iterator", data := .fields #[.ref l, .int 0 0] })
      (o := { cls := .type "enumerate", data := .fields #[.none, .bool false, .ref s.heap.objs.size, rawInt 0, .none, .none] }) rfl
    rw [hz] at this; exact this
  refine ⟨⟨_, he, rfl⟩, h _ he ⟨_, Heap.get?_push_of_some _ (Heap.get?_push_size _ rfl), rfl, rfl⟩ (by rw [Heap.size_push, hz]) fun b o x => Heap.get?_push_of_some _ (Heap.get?_push_of_some _ x)⟩
end OO
namespace OO
open PySem PySem.Spec PyProof.Rows L2
/-- the tuple at a, each item in a new pair -/
def IteT (K : PySem.W.Frag) (a : Addr) : It :=
  ⟨fun i H => ∃ (xs : List V) (x : V), SqT K H a xs ∧ xs[i]? = some x, fun i H v H' => ∃ T x, v = .ref T ∧ H T = none ∧ H' = upd H T (.tup [.int (i : Nat), x]) ∧ ∀ xs, SqT K H a xs → xs[i]? = some x, fun i H => ∃ xs : List V, SqT K H a xs ∧ xs.length ≤ i⟩
theorem tupIter_ne {h : Heap} {a it : Addr} {i : Nat} {its : Array Value} (p : h.IsTuple a its) (q : h.IsTupleIter it a i) : a ≠ it := fun z => by
  obtain ⟨o, ho, hc, _⟩ := p
  obtain ⟨o2, ho2, hc2, _⟩ := q
  rw [z, ho2] at ho
  have := Option.some.inj ho
  subst this
  rw [hc2] at hc
  exact absurd hc (by decide)
theorem enum_ne {h : Heap} {a e it : Addr} {i : Int} {old : Value} {its : Array Value} (p : h.IsTuple a its) (q : IsEnum h e it i old) : e ≠ a := fun z => by
  obtain ⟨o, ho, hc, _⟩ := p
  rw [← z, q] at ho
  have := Option.some.inj ho
  subst this
  exact absurd (Value.type.inj hc) (by decide)
theorem turn_enumT {P : Program} {w : World} {K : PySem.W.Frag} {elts : List Expr} {kk : Nat} {tpos : Pos} (a e it : Addr) :
    Turn P w K (.Tuple elts kk tpos) (IteT K a) [e, it] e (fun i h => (∃ old, IsEnum h e it ((i : Nat) : Int) old) ∧ h.IsTupleIter it a i ∧ e ≠ it) where
  mem := by simp
  obj := fun i h st b hb => by
    obtain ⟨⟨old, he⟩, ⟨o, ho, hc, hd⟩, _⟩ := st
    have e' : b = e ∨ b = it := by simpa using hb
    rcases e' with z | z
    · rw [z]; exact ⟨_, he, fun v q => nomatch q⟩
    · rw [z]; exact ⟨o, ho, fun v q => by rw [hd] at q; cases q⟩
  keep := fun i h h' st k => let ⟨⟨old, he⟩, hi, hne⟩ := st; ⟨⟨old, k e (by simp) _ he⟩, hi.at fun o q => k it (by simp) o q, hne⟩
  item := by
    intro X hP hw hK hc i pins s σ H E I hf st hg
    subst hP hw hK
    obtain ⟨⟨old, he⟩, hit, hne⟩ := st
    obtain ⟨xs, x, hq, hx⟩ := hg
    obtain ⟨its, rv, p, hz⟩ := I.tuple hq
    obtain ⟨u, hu, ru⟩ := rv.get hx
    have hel : e < s.heap.objs.size := Heap.lt_size he
    have hil : it < s.heap.objs.size := by obtain ⟨_, q, _⟩ := hit; exact Heap.lt_size q
    have hat := tupIter_ne p hit
    have hlt : i < its.toArray.size := by
      have := (List.getElem?_eq_some_iff.mp hu).1
      simpa using this
    refine wpAny_pyNext_enum_itemD (Draws.tuple (A := X.A.in1) (show X.A.in1.handled = none from I.ok.hd hc) it a hat its.toArray) he ⟨hit, p⟩ hlt hne (by
      have := enum_ne p he
      simp [hne, this]) fun x' h' tk hx' ho st' hT hsz hk => ?_
    have hit' := st'.1
    have ex : x' = u := by
      have h1 : its[i]? = some x' := by simpa using hx'
      exact Option.some.inj (h1.symm.trans hu)
    subst ex
    refine ⟨_, rfl, wpAny_letOwnedTupleGo_enum (s := { s with heap := h', toks := tk + 1 }) ho fun h'' he' sb => ?_⟩
    have hT2 : h''.get? s.heap.objs.size = some { cls := .type "tuple", data := .seq #[.int i tk, x'] } := (sb.2 _ (Nat.ne_of_gt hel)).trans hT
    have new : ObjOk X.prog X.w (upd H s.heap.objs.size (.tup [.int (i : Nat), x])) h'' s.heap.objs.size (.tup [.int (i : Nat), x]) :=
      ⟨by show 2 ≤ sizeLine; decide, [.int i tk, x'], .cons ⟨_, rfl⟩ (.cons ru .nil), ⟨_, hT2, rfl, _, rfl⟩⟩
    have I1 : Inv X pins σ (upd H s.heap.objs.size (.tup [.int (i : Nat), x])) { s with heap := h'', toks := tk + 1 } :=
      I.turnedNew (ch := [e, it]) (fun b ob hb q => (sb.2 b (fun z => hb (by simp [z]))).trans (hk b ob (fun z => hb (by simp [z])) (fun z => hb (by simp [z])) q)) hf (Nat.le_refl _) new
    refine ⟨.ref s.heap.objs.size, _, I1, rfl, ⟨_, x, rfl, I.hok.fresh (Nat.le_refl _), rfl, fun ys hy => by rw [I.tuple_inj hy hq]; exact hx⟩, ⟨⟨x', ?_⟩, hit'.at fun o q => (sb.2 it (Ne.symm hne)).trans q, hne⟩, fun b hb => ?_⟩
    · have e1 : ((i + 1 : Nat) : Int) = (i : Int) + 1 := by omega
      rw [e1]; exact he'
    · have hb' : b < s.heap.objs.size := by
        have e' : b = e ∨ b = it := by simpa using hb
        rcases e' with z | z
        · rw [z]; exact hel
        · rw [z]; exact hil
      rw [upd_ne (Nat.ne_of_lt hb')]
      exact (hf b hb).1
  done := by
    intro X hP hw hK hc i pins s σ H E I hf st hg
    subst hP hw hK
    obtain ⟨⟨old, he⟩, hit, hne⟩ := st
    obtain ⟨xs, hq, hx⟩ := hg
    obtain ⟨its, rv, p, hz⟩ := I.tuple hq
    obtain ⟨f0, f1, f2, f3, f4, f5⟩ := hf it (by simp)
    have hl := rv.length
    have hat := tupIter_ne p hit
    have hh : X.A.in1.handled = none := I.ok.hd hc
    have hT : s.TypeIs (.ref e) "enumerate" := ⟨_, he, rfl⟩
    show wpAny _ _ (pyNext (.ref e)) _ _ _
    unfold pyNext
    refine wpAny_bind (wpAny_attempt (wpAny_callSpecial?_slot (name := Str.ofString "__next__") hT F.slot_enumerate_next
      (wpAny_call_entry F.slot_enumerate_next hT F.entry_enumerate_next ?_ (F.args_enumerate_next_1 _))))
    show wpAny _ _ (field (.ref e) 2 >>= _) _ _ _
    refine wpAny_bind (wpAny_field he rfl (x := .ref it) rfl ?_)
    refine wpAny_bind (wpAny_nextOf_tuple_end hh hit p (by simp; omega) fun h' x eb hx' => ?_)
    obtain ⟨o, ho, hcl⟩ := hx'
    refine wpAny_bind (wpAny_isInstance (T := "StopIteration") (b := true) ⟨o, ho, hcl⟩ isSubtype_stop ?_)
    exact wpAny_pure ⟨rfl, I.turned (t' := s.toks) (fun b o hb q => eb b o hb q) f0 f1 f3 f4 f5⟩
  self := fun A i s Q E st h => let ⟨⟨_, he⟩, _⟩ := st; wpAny_pyIter_enum he h
def iEnumT (K : PySem.W.Frag) (ta : TA) : TI := fun σ H R => ta σ H fun vs H1 => ∃ a xs, vs = [.ref a] ∧ SqT K H1 a xs ∧ R (IteT K a) H1
theorem pi_enumT {X : Cx} {e : Expr} {ta : TA} {p pos tpos : Pos} {elts : List Expr} {kk : Nat} (hg : Gl X "enumerate") (hm : X.mg "enumerate" = none) (ha : PA X [e] ta) (hs : starEach [e] X.env = [(false, eval e X.env)] := by rfl) :
    PI X (.Tuple elts kk tpos) (.Call (.Name "enumerate" p) [e] [] pos) (iEnumT X.K ta) := by
  refine ⟨fun pins s σ H R I h => ?_⟩
  refine Call_ (ld_blt I hg hm boot_enumerate (PyProof.Rows.callWith_type1 (thn (ha.run pos pins s σ H _ I h) fun us s1 ⟨vs, H1, I1, r1, q1⟩ => ?_) hs rfl))
  obtain ⟨a, xs, ex, hq, q⟩ := q1
  subst ex
  cases r1 with
  | cons r rr =>
    cases rr
    cases r
    obtain ⟨its, rv, p', hz⟩ := I1.tuple hq
    refine call_enumerate_tuple p' fun h' he hit hsz hk => wpAny_pyIter_enum he ?_
    have I2 : Inv X pins σ H1 { s1 with heap := h' } := I1.kept (t' := s1.toks) hk
    refine ⟨s1.heap.objs.size + 1, [s1.heap.objs.size + 1, s1.heap.objs.size], _, _, H1, rfl, I2, turn_enumT a (s1.heap.objs.size + 1) s1.heap.objs.size, ⟨⟨.none, he⟩, hit, Nat.succ_ne_self _⟩, fun b hb => ?_, q⟩
    have e' : b = s1.heap.objs.size + 1 ∨ b = s1.heap.objs.size := by simpa using hb
    have hle : s1.heap.objs.size ≤ b := by
      rcases e' with z | z
      · rw [z]; exact Nat.le_add_right _ _
      · rw [z]; exact Nat.le_refl _
    exact I1.fpOk hle (I1.hok.fresh hle)
theorem walk_enumT {K : PySem.W.Frag} {a : Addr} {xs : List V} : Walk (IteT K a) xs.length (fun H => SqT K H a xs) (YPair (fun i => some (.int (i : Nat))) (fun i => xs[i]?)) := by
  refine ⟨fun i _ hi q => ⟨xs, xs[i], q, by simp [hi]⟩, fun _ q => ⟨xs, q, Nat.le_refl _⟩, fun i H v H' _ q y => ?_⟩
  obtain ⟨T, x, h1, h2, h3, h4⟩ := y
  exact ⟨T, .int (i : Nat), x, h1, h2, h3, rfl, h4 xs q⟩
end OO

/-! Error classes of a program's own that store what they are made of: made and raised, their field read off where they are caught. -/
namespace OO
open PySem PySem.Spec PyProof.Rows L2 GG
structure ExT (K : PySem.W.Frag) (mg : Str → Option Value) (nm fld : Str) (S fI : Addr) : Prop where
  g : mg nm = some (.ref S)
  o : OexC K S
  no : PySem.W.findIn K (.ref S) fld = some none
  x : XfC K S
  i : PySem.W.findIn K (.ref S) "__init__" = some (some (.ref fI))
  t : PySem.W.typeIn K (.ref fI) = some (.type "function")
  te : PySem.W.exmOne K (.ref S) (.ref S) = some true
def spExI (S : Addr) (fld : Str) : Sp := fun vs H Q _ => ∃ (a : Addr) (v : V), vs = [.ref a, v] ∧ H a = some (exo a S none) ∧ ∀ dx, H dx = none → dx ≠ a → Q .non (upd (upd H dx (exd dx [(fld, v)])) a (exo a S (some dx)))
theorem mko {S : Addr} {fld : Str} {v : V} {H1 : Hp} {Q : XK} (q : ∀ (d : Addr) (H' : Hp), H1 d = none → Same H1 H' → H' d = some (.xd [(fld, v)]) → Q (.ref S) (some d) H') :
    [v].length ≤ 1000 ∧ ∀ a, H1 a = none → spExI S fld (.ref a :: ([v] ++ [])) (upd H1 a (exo a S none))
      (fun v' H2 => v' = .non ∧ ∃ (d : Addr) (fs : List (Str × V)), H2 a = some (exo a S (some d)) ∧ H2 d = some (exd d fs) ∧ H1 d = none ∧ Q (.ref S) (some d) (upd (del H2 a) d (.xd fs))) (fun _ _ _ => False) := by
  refine ⟨by show 1 ≤ 1000; decide, fun a ha => ⟨a, v, rfl, upd_same, fun dx hdx hne => ?_⟩⟩
  have hd : H1 dx = none := by
    rw [upd_ne hne] at hdx
    exact hdx
  refine ⟨rfl, dx, [(fld, v)], upd_same, by rw [upd_ne hne]; exact upd_same, hd, q dx _ hd (fun b o e => ?_) upd_same⟩
  have h1 : b ≠ dx := ne_of_none e hd
  have h2 : b ≠ a := ne_of_none e ha
  rw [upd_ne h1, del_ne h2, upd_ne h2, upd_ne h1, upd_ne h2]
  exact e
/-- what is known of the class, in one fact for each part -/
theorem exT_of {K : PySem.W.Frag} {h : Heap} {mg : Str → Option Value} {nm fld : Str} {S fI : Addr} (X : K.In h) (G : h.Ns mainGlobals mg) {nn q : Str} {N : Addr} {bs bm : List Value} {sn : List Str} {sub : List Value} {ab : Bool} {col : Option Bool} {dd : Option Addr} {k0 k1 k2 k3 k5 : Option Value}
    (a : PySem.W.nsIn K mainGlobals nm = some (some (.ref S))) (l : K.lookup S = some (excClassObj nn q S N bs bm true sn sub ab col dd k0 k1 k2 k3 k5 "ValueError.__new__")) (hb : PySem.HandSPX.refsVE bm = true)
    (sa : PySem.W.findIn K (.ref S) "__setattr__" = some (some (.builtin "object.__setattr__"))) (ex : PySem.W.subIn K (.ref S) (.type "BaseException") = some true) (ty : PySem.W.typeIn K (.ref S) = some (.type "type")) (kp : PySem.W.keepIn K (.ref S) = true)
    (no : PySem.W.findIn K (.ref S) fld = some none) (ga : PySem.W.findIn K (.ref S) "__getattribute__" = some (some (.builtin "BaseException.__getattribute__"))) (gg : PySem.W.findIn K (.ref S) "__getattr__" = some none) (hd : PySem.W.hasDictIn K S = true)
    (i : PySem.W.findIn K (.ref S) "__init__" = some (some (.ref fI))) (t : PySem.W.typeIn K (.ref fI) = some (.type "function")) (ic : PySem.W.isClsIn K S = true) (ss : PySem.W.subIn K (.ref S) (.ref S) = some true) : ExT K mg nm fld S fI where
  g := PySem.W.mg_of X G a
  o := ⟨⟨_, _, _, _, _, _, _, _, _, _, _, _, _, _, _, l, hb⟩, sa, ex, ty, kp⟩
  no := no
  x := ⟨ga, gg, ex, hd⟩
  i := i
  t := t
  te := by
    have e1 : (PySem.W.subIn K (.ref S) (.type "BaseException") == some true) = true := by rw [ex] <;> rfl
    have e2 : ((PySem.W.clsIn K S).isSome && PySem.W.typeIn K (.ref S) == some (.type "type")) = true := by
      have h2' : (PySem.W.clsIn K S).isSome = true := ic
      rw [h2', ty] <;> rfl
    show (if (PySem.W.subIn K (.ref S) (.type "BaseException") == some true) = true then (if ((PySem.W.clsIn K S).isSome && PySem.W.typeIn K (.ref S) == some (.type "type")) = true then PySem.W.subIn K (.ref S) (.ref S) else none) else none) = some true
    rw [if_pos e1, if_pos e2]
    exact ss
/-- at x: an instance of the class at C with such attributes -/
def At (C : Addr) (H : Hp) (x : Addr) (fs : List (Str × V)) : Prop := ∃ dx, H x = some (.ins C dx fs)
theorem At.same {C : Addr} {H H' : Hp} {x : Addr} {fs : List (Str × V)} (h : At C H x fs) (s : Same H H') : At C H' x fs := by
  obtain ⟨dx, h⟩ := h
  exact ⟨dx, s _ _ h⟩
end OO

/-! Defs with a star parameter as they stand in the text. -/
namespace OO
open PySem PySem.Spec PyProof.Rows L2 GG
/-! ### data apart from an object that is changed -/
theorem rd_keep {x : Addr} {H H' : Hp} {C dx : Addr} {fs : List (Str × V)} (k : Keep x H H') (hx : H x = some (.ins C dx fs)) {a : Addr} {o : HO} (ho : ∀ C dx fs, o ≠ .ins C dx fs) (h : Rd H a o) : Rd H' a o := by
  rcases h with h | ⟨u, h⟩
  · refine .inl (k a (fun e => ?_) _ h)
    rw [e, hx] at h
    exact ho _ _ _ (Option.some.inj h).symm
  · refine .inr ⟨u, k a (fun e => ?_) _ h⟩
    rw [e, hx] at h
    cases h
mutual
theorem dp_keep {K : PySem.W.Frag} {x : Addr} {H H' : Hp} {C dx : Addr} {fs : List (Str × V)} (k : Keep x H H') (hx : H x = some (.ins C dx fs)) : ∀ (d : PyData) (v : V), Dp K H v d → Dp K H' v d
  | .none, _, h => by cases h; exact .non
  | .bool b, _, h => by cases h; exact .bl b
  | .int i, _, h => by cases h; exact .int i
  | .str z, _, h => by cases h; exact .str z
  | .list ds, _, h => by
    cases h with
    | lst hs ha => exact .lst (hs.elim (fun z => .inl (rd_keep k hx (fun _ _ _ e => by cases e) z)) .inr) (dpAll_keep k hx ds _ ha)
  | .tuple ds, _, h => by
    cases h with
    | tup hs ha => exact .tup (hs.elim (fun z => .inl (rd_keep k hx (fun _ _ _ e => by cases e) z)) .inr) (dpAll_keep k hx ds _ ha)
  | .dict _, _, h => by cases h
theorem dpAll_keep {K : PySem.W.Frag} {x : Addr} {H H' : Hp} {C dx : Addr} {fs : List (Str × V)} (k : Keep x H H') (hx : H x = some (.ins C dx fs)) : ∀ (ds : List PyData) (vs : List V), DpAll K H vs ds → DpAll K H' vs ds
  | [], _, h => by cases h; exact .nil
  | d :: ds, _, h => by
    cases h with
    | cons h1 h2 => exact .cons (dp_keep k hx d _ h1) (dpAll_keep k hx ds _ h2)
end
theorem val_keep {K : PySem.W.Frag} {x : Addr} {H H' : Hp} {C dx : Addr} {fs : List (Str × V)} {v : V} {d : PyData} (h : Val K H v d) (k : Keep x H H') (hx : H x = some (.ins C dx fs)) : Val K H' v d := by
  rcases h with ⟨h, g⟩ | ⟨rfl, a, kvs, rfl, h⟩
  · exact .inl ⟨dp_keep k hx d v h, g⟩
  · refine .inr ⟨rfl, a, kvs, rfl, k a (fun e => ?_) _ h⟩
    rw [e, hx] at h
    cases h
/-- the promise of a def f(a, .., *v), told of its positional arguments; the tuple of what is left over is known as the object it is -/
def spStar (n : Nat) (sp : Sp) : Sp := fun vs H Q E => ∃ ws rest, vs = ws ++ rest ∧ ws.length = n ∧ rest.length ≤ sizeLine ∧ ∀ (p : Addr) (ob : Obj), H p = none → ob.cls = .type "tuple" → ob.dict = none → sp (ws ++ [V.ref p]) (upd H p (.frz ob (.tup rest))) Q E
section
variable {P : Program} {w : World} {K : PySem.W.Frag} {mg : Str → Option Value} {base : Heap}
/-- a def whose arguments beyond the first ones go into a tuple, by the facts of its record -/
theorem star_raw {CX : CXT} {k : Nat} {f : Addr} {nm ql : Str} {pa : Arguments} {bd : List Stmt} {sc : Scope} {v1 v2 v3 v4 v5 v6 v7 : Value} {o1 o2 : Option Addr} {sl : Array (Option Value)} {N qs : List Str} {sp : Sp} {pv : Str}
    (hl : K.lookup f = some ⟨v7, o2, .func (PySem.W.fnOf nm ql pa bd sc v1 v2 v3 v4 o1 v5 v6), sl⟩) (hc : PySem.W.codeIn K v5 ql = true) (S : FnScope N (qs ++ [pv]) sc) (up : StX.CXUp CX)
    (hb : ∀ fst rst : List Value, fst.length = qs.length → bindArgs (PySem.W.fnOf nm ql pa bd sc v1 v2 v3 v4 o1 v5 v6) ⟨fst ++ rst, []⟩ = (newTuple rst >>= fun t => pure (qs.zip fst ++ [(pv, t)])))
    (body : ∀ (A : Around) (outer : List Env) (s : Shared) (H : Hp) (vs : List V) (Q : VK) (E : XK), Room k (A.deeper (envOfC ql sc s.heap.objs.size f v5)) → sp vs H Q E →
      ∃ t, PSs (cxOf CX P w K mg base N ql sc f v5 A outer s H E) bd t ∧ t { nx := fun _ H' => Q .non H', rt := Q } (start N vs) H) :
    FnR P w K mg base CX (k + 1) f (spStar qs.length sp) := by
  rintro A outer s H all _ Q E room e0 rel ⟨ws, rst, rfl, len, fits, want⟩
  obtain ⟨fst, snd, rfl, rel1, rel2⟩ := StX.vals_split rel
  have lfst : fst.length = qs.length := rel1.length.symm.trans len
  have fits2 : snd.length ≤ sizeLine := rel2.length ▸ fits
  have nw : H s.heap.objs.size = none := e0.hok.fresh (Nat.le_refl _)
  refine StX.run_bnd hl hc S room e0 (G := fun xs Hx => ∃ (p : Addr) (ob : Obj), H p = none ∧ ob.cls = .type "tuple" ∧ ob.dict = none ∧ xs = ws ++ [V.ref p] ∧ Hx = upd H p (.frz ob (.tup rst))) ?_ ?_
  · intro A' Ex Q' good
    rw [hb fst snd lfst]
    refine wpAny_bind (wpAny_newTuple (wpAny_pure ?_) fits2)
    have at_ : (s.heap.push ({ cls := .type "tuple", data := .seq snd.toArray } : Obj)).get? s.heap.objs.size = some ({ cls := .type "tuple", data := .seq snd.toArray } : Obj) := Heap.get?_push_size _ rfl
    have un := StX.un_laid (fs := frs outer) (s := s) (o := ({ cls := .type "tuple", data := .seq snd.toArray } : Obj)) (u := .frz ({ cls := .type "tuple", data := .seq snd.toArray } : Obj) (.tup rst)) nw
    have fine := good _ _ (ws ++ [V.ref s.heap.objs.size]) (fst ++ [Value.ref s.heap.objs.size]) (StX.env0_laid (u := .frz ({ cls := .type "tuple", data := .seq snd.toArray } : Obj) (.tup rst)) e0 ⟨at_, fits, snd, rel2, ⟨_, at_, rfl, _, rfl⟩⟩) un rfl
      (fun e s' => up outer s H _ _ E e s' un (fun _ _ z => Heap.get?_push_of_some _ z) rfl) (rel1.append (.cons rfl .nil)) (by simp only [List.length_append, List.length_singleton, len]) ⟨_, _, nw, rfl, rfl, rfl, rfl⟩
    rwa [List.zip_append lfst.symm] at fine
  · rintro s2 _ _ ⟨p, ob, np, hcl, hd, rfl, rfl⟩ room'
    exact body A outer s2 _ _ Q E room' (want p ob np hcl hd)
theorem Fun.star1 {CX : CXT} {x ql : Str} {st : Stmt} {f : Addr} {fd : FuncData} {N : List Str} {p1 pv : Str} {k : Nat} {sp : Sp} (F : Fun K x ql st f fd) (S : FnScope N [p1, pv] (defScope st)) (up : StX.CXUp CX)
    (h0 : ∀ (b c d : Value) (e : Option Addr) (g h u : Value), bindArgs (PySem.W.fnOf x ql (defArgs st) (defBody st) (defScope st) .none b c d e g h) ⟨[u], []⟩ = (newTuple [] >>= fun t => pure [(p1, u), (pv, t)]))
    (h1 : ∀ (b c d : Value) (e : Option Addr) (g h u r : Value) (rs : List Value), bindArgs (PySem.W.fnOf x ql (defArgs st) (defBody st) (defScope st) .none b c d e g h) ⟨u :: r :: rs, []⟩ = (newTuple (r :: rs) >>= fun t => pure [(p1, u), (pv, t)]))
    (body : ∀ (cd : Value) (A : Around) (outer : List Env) (s : Shared) (H : Hp) (vs : List V) (Q : VK) (E : XK), Room k (A.deeper (envOfC ql (defScope st) s.heap.objs.size f cd)) → sp vs H Q E →
      ∃ t, PSs (cxOf CX P w K mg base N ql (defScope st) f cd A outer s H E) (defBody st) t ∧ t { nx := fun _ H' => Q .non H', rt := Q } (start N vs) H) :
    FnR P w K mg base CX (k + 1) f (spStar 1 sp) := by
  obtain ⟨oc, od, b, c, d, e, g, h, osl, rfl, lk, hcd⟩ := F.ex
  exact star_raw (qs := [p1]) lk hcd S up (StX.bind_star1 (B := fun us => bindArgs (PySem.W.fnOf x ql (defArgs st) (defBody st) (defScope st) .none b c d e g h) ⟨us, []⟩) (h0 b c d e g h) (h1 b c d e g h)) (body g)
theorem Fun.star2 {CX : CXT} {x ql : Str} {st : Stmt} {f : Addr} {fd : FuncData} {N : List Str} {p1 p2 pv : Str} {k : Nat} {sp : Sp} (F : Fun K x ql st f fd) (S : FnScope N [p1, p2, pv] (defScope st)) (up : StX.CXUp CX)
    (h0 : ∀ (b c d : Value) (e : Option Addr) (g h u v : Value), bindArgs (PySem.W.fnOf x ql (defArgs st) (defBody st) (defScope st) .none b c d e g h) ⟨[u, v], []⟩ = (newTuple [] >>= fun t => pure [(p1, u), (p2, v), (pv, t)]))
    (h1 : ∀ (b c d : Value) (e : Option Addr) (g h u v r : Value) (rs : List Value), bindArgs (PySem.W.fnOf x ql (defArgs st) (defBody st) (defScope st) .none b c d e g h) ⟨u :: v :: r :: rs, []⟩ = (newTuple (r :: rs) >>= fun t => pure [(p1, u), (p2, v), (pv, t)]))
    (body : ∀ (cd : Value) (A : Around) (outer : List Env) (s : Shared) (H : Hp) (vs : List V) (Q : VK) (E : XK), Room k (A.deeper (envOfC ql (defScope st) s.heap.objs.size f cd)) → sp vs H Q E →
      ∃ t, PSs (cxOf CX P w K mg base N ql (defScope st) f cd A outer s H E) (defBody st) t ∧ t { nx := fun _ H' => Q .non H', rt := Q } (start N vs) H) :
    FnR P w K mg base CX (k + 1) f (spStar 2 sp) := by
  obtain ⟨oc, od, b, c, d, e, g, h, osl, rfl, lk, hcd⟩ := F.ex
  exact star_raw (qs := [p1, p2]) lk hcd S up (StX.bind_star2 (B := fun us => bindArgs (PySem.W.fnOf x ql (defArgs st) (defBody st) (defScope st) .none b c d e g h) ⟨us, []⟩) (h0 b c d e g h) (h1 b c d e g h)) (body g)
/-- t.m(e), t a tuple that is known as the object it is -/
def tTupM (r : V → List V → Hp → VK → Prop) (to : TE) (t : TA) : TE := fun σ H Q => to σ H fun x H1 => ∃ (p : Addr) (ob : Obj) (ys : List V), x = .ref p ∧ H1 p = some (.frz ob (.tup ys)) ∧ ob.cls = .type "tuple" ∧ ob.dict = none ∧ t σ H1 fun vs H2 => r x vs H2 Q
theorem pe_tupM {X : Cx} {nm : Str} {id : String} {r : V → List V → Hp → VK → Prop} {o e : Expr} {es : List Expr} {to : TE} {t : TA} {ap cp : Pos} (slot : Slot "tuple" nm id) (ty : typeOf (.builtin id) = pure (.type "method_descriptor")) (hm : MtR X id r) (ho : PE X o to) (ha : PA X (e :: es) t)
    (h1 : attributeBase o nm X.env (eval o X.env) = eval o X.env := by rfl)
    (h2 : ((backTo cp (starEach (e :: es) X.env)).all (fun x => !x.1) && (backToKw cp (keywordEach [] X.env)).all (fun x => x.1.isSome) && decide ((e :: es).length + ([] : List Keyword).length + (if ([] : List Keyword).isEmpty then 0 else 1) < 30)) = true := by rfl)
    (h3 : (ap.endLine == cp.line) = true := by rfl) (h4 : starEach (e :: es) X.env = (false, eval e X.env) :: starEach es X.env := by rfl) (h5 : (backTo cp (starEach es X.env)).any (·.1) = false := by rfl) :
    PE X (.Call (.Attribute o nm ap) (e :: es) [] cp) (tTupM r to t) := by
  refine ⟨fun pins s σ H Q I h => wpAny_Call_method_late h1 h2 h3 rfl (thn (ho.run pins s σ H _ I h) ?_)⟩
  rintro v s1 ⟨x, H1, I1, rx, p, ob, ys, rfl, hp, hcl, hd, q⟩
  cases (show v = Value.ref p from rx)
  obtain ⟨hg, _⟩ := (show ObjOk X.prog X.w H1 s1.heap p (.frz ob (.tup ys)) from I1.hok p _ hp)
  refine ⟨"tuple", id, PySem.F.plainAttrs_tuple, slot, ty, ⟨ob, hg, hcl⟩, fun a ea => ?_, ?_⟩
  · cases ea
    exact ⟨ob, hg, hd⟩
  have z := ha.run cp pins s1 σ H1 _ I1 q
  rw [h4] at z ⊢
  refine Calls.callWith_builtin (by show (false || (backTo cp (starEach es X.env)).any (·.1)) = false; rw [h5]; rfl) (Calls.evalArgs_plain (thn z ?_))
  rintro us s2 ⟨vs, H2, I2, rv, q2⟩
  exact hm pins s2 σ H2 (.ref p) vs (.ref p) us Q I2 rfl rv q2
/-- what is raised in a callee passes out of the def -/
theorem passX {X : Cx} {E : XK} (tk : Takes X (fun cls d _ H => E cls d H)) : Passes (L2.CX X.prog X.w) X E := passes_call tk fun _ _ _ _ h => h
end
end OO

/-! Promises of defs that are called where no object is being written out (A.guards = some []): so repr of containers may be asked. -/
namespace OO
open PySem PySem.Spec PyProof.Rows L2 TL GG
/-- as FnOk, where nothing is being written out -/
structure FnG (P : Program) (w : World) (K : PySem.W.Frag) (mg : Str → Option Value) (base : Heap) (CX : CXT) (k : Nat) (f : Addr) (fd : FuncData) (ps : List Str) (sp : Sp) : Prop where
  num : ∀ xs G R Y, sp xs G R Y → xs.length = ps.length
  go : ∀ (B : Around) (out : List Env) (st : Shared) (G : Hp) (as : Args) (ws : List Value) (xs : List V) (R : VK) (Y : XK), Room k B → B.guards = some [] → Env0 P w K mg base B out st G → BindsTo st fd as (ps.zip ws) → Vals xs ws →
    sp xs G R Y → codeAny (model P w) B (.call (.ref f) as) (CR CX out P w G st R Y) st
theorem FnOk.toG {P : Program} {w : World} {K : PySem.W.Frag} {mg : Str → Option Value} {base : Heap} {CX : CXT} {k : Nat} {f : Addr} {fd : FuncData} {ps : List Str} {sp : Sp} (F : FnOk P w K mg base CX k f fd ps sp) : FnG P w K mg base CX k f fd ps sp :=
  ⟨F.len, fun B out st G as ws xs R Y hr _ => F.run B out st G as ws xs R Y hr⟩
section
variable {P : Program} {w : World} {K : PySem.W.Frag} {mg : Str → Option Value} {base : Heap}
/-- the rule for a def, told of its body with the guards known -/
theorem Fun.okG {x qual : Str} {st : Stmt} {f : Addr} {fd : FuncData} {N ps : List Str} {k : Nat} {sp : Sp} (F : Fun K x qual st f fd) (S : FnScope N ps (defScope st)) (len : ∀ vs H Q E, sp vs H Q E → vs.length = ps.length)
    (body : ∀ (cdv : Value) (A : Around) (outer : List Env) (s : Shared) (H : Hp) (vs : List V) (Q : VK) (E : XK), Room k (A.deeper (envOfC qual (defScope st) s.heap.objs.size f cdv)) → A.guards = some [] → sp vs H Q E →
      ∃ t, PSs (cxOf CX0 P w K mg base N qual (defScope st) f cdv A outer s H E).nox (defBody st) t ∧ t { nx := fun _ H' => Q .non H', rt := Q } (start N vs) H) : FnG P w K mg base CX0 (k + 1) f fd ps sp := by
  obtain ⟨oc, od, kV, doc, pm, an, cdv, ct, osl, rfl, rec_, hcode⟩ := F.ex
  refine ⟨len, fun B out st1 G as ws xs R Y hr gd en bnd rel wish => ?_⟩
  have nn := len _ _ _ _ wish
  have inK : K.In st1.heap := en.mod.kin.keeps fun b o z => (en.bs b o z).1
  have room : st1.heap.NoLimit := en.mod.nolimit.keeps fun b o z => (en.bs b o z).1
  refine codeAny_call_function hr.depth (inK _ _ rec_) rfl S.co S.gen rfl (PySem.W.codeRec_of inK hcode) (bnd _ _ _ _ ?_)
  refine wpAny_newFunctionEnv_cells S.kind (fun ⟨n, v⟩ hy => (S.par n (List.of_mem_zip hy).1).imp id fun q => ⟨q, PySem.W.cellsFrom_some _ _ _ (.inl q)⟩) fun env henv st2 inside => ?_
  subst henv
  refine ⟨room.keeps inside.toInCall.keep, codeAny_func ?_⟩
  obtain ⟨t, runs, asked⟩ := body cdv B out st1 G xs R Y (hr.deeper _) gd wish
  have J0 : Inv (cxOf CX0 P w K mg base N qual (defScope st) f cdv B out st1 G Y) [] (start N xs) G st2 := inv_start S hr.hd en nn rel inside
  refine wpAny_mono (runs.nox.run [] st2 (start N xs) G _ J0 asked) (fun way st3 told => ?_) fun _ _ z => z
  cases way with
  | brk =>
    obtain ⟨_, _, _, no⟩ := told
    exact no.elim
  | cont =>
    obtain ⟨_, _, _, no⟩ := told
    exact no.elim
  | next =>
    obtain ⟨σ2, G2, J, z⟩ := told
    exact ⟨V.non, G2, J.os, J.bare, J.base, J.hok, rfl, z⟩
  | ret u =>
    obtain ⟨v, σ2, G2, J, ru, z⟩ := told
    exact ⟨v, G2, J.os, J.bare, J.base, J.hok, ru, z⟩
end
section
variable {X : Cx} {CX : CXT} {k : Nat} {f : Addr} {fd : FuncData} {ps : List Str} {sp : Sp} {x : Str} {p pos : Pos} {e : Expr} {es : List Expr} {t : TA}
theorem run_fnG {pins : List (Addr × Obj)} {σ : L2.St} {H : Hp} {s : Shared} {Q : VK} {us : List Value} {vs : List V} {E : XK} (F : FnG X.prog X.w X.K X.mg X.base CX k f fd ps sp) (gd : X.A.guards = some []) (hr : Room k X.A) (hb : Binds X.K fd ps []) (hx : Passes CX X E)
    (I : Inv X pins σ H s) (r : Vals vs us) (h : sp vs H Q E) : wpAny (model X.prog X.w) X.A (call (.ref f) us) (EP X pins σ Q) X.xe s := by
  have num : (us ++ []).length = ps.length := by rw [List.append_nil, ← r.length]; exact F.num _ _ _ _ h
  refine wpAny_call (codeAny_mono (F.go X.A X.stack s H ⟨us, []⟩ (us ++ []) vs Q E hr gd I.env0 (hb s us I.kIn num) (by rw [List.append_nil]; exact r) h) fun way s' told => ?_)
  rcases way with er | fl
  · exact hx pins σ H s er s' I told
  · cases fl <;> first | exact I.after told | exact told.elim
theorem pe_callG {E : XK} (F : FnG X.prog X.w X.K X.mg X.base CX k f fd ps sp) (gd : X.A.guards = some []) (hr : Room k X.A) (hg : Gl X x) (hm : X.mg x = some (.ref f)) (hk : PySem.W.keepIn X.K (.ref f) = true) (hb : Binds X.K fd ps []) (hx : Passes CX X E)
    (ha : PA X (e :: es) t) (hdb : (x == ("__debug__" : Str)) = false := by decide) (he : starEach (e :: es) X.env = (false, eval e X.env) :: starEach es X.env := by rfl) (hpl : (backTo pos (starEach es X.env)).any (·.1) = false := by rfl) :
    PE X (.Call (.Name x p) (e :: es) [] pos) ((fun σ H Q => t σ H fun vs H1 => sp vs H1 Q E)) := by
  refine ⟨fun pins s σ H Q I h => ?_⟩
  refine wpAny_Call_Name_kw (ld_glob I hg hm ?_ hdb)
  exact PySem.W.callWith_K (h₀ := X.base) I.ok.mod.kin hk (thn (ha.run pos pins s σ H _ I h) fun us s1 ⟨vs, H1, I1, r, q⟩ => ⟨I1.kIn, run_fnG F gd hr hb hx I1 r q⟩) he hpl
/-- repr of data, of an empty dict -/
def rReprD (K : PySem.W.Frag) (xs : List V) (H : Hp) (Q : VK) : Prop := (∃ v d, xs = [v] ∧ Dp K H v d ∧ d.showable = true ∧ d.shown.length ≤ sizeLine ∧ d.depth ≤ 60 ∧ Q (.str d.shown) H) ∨ ∃ a, xs = [.ref a] ∧ H a = some (.dK []) ∧ Q (.str "{}") H
end
end OO

namespace OO
open PySem PySem.Spec PyProof.Rows L2 TL GG
/-- a list, known as the object it is: the law's script -/
def SqE (K : PySem.W.Frag) (H : Hp) (a : Addr) (xs : List V) : Prop := (∃ ob, H a = some (.frz ob (.lst xs))) ∨ ∃ (vs : List Value) (n : Nat), K.lookup a = some { cls := .type "list", data := .seq vs.toArray n } ∧ Vals xs vs ∧ xs.length ≤ sizeLine
/-- script + [..] -/
def rCatE (K : PySem.W.Frag) : R2 := fun x y H Q => ∃ (l b : Addr) (xs zs : List V), x = .ref l ∧ y = .ref b ∧ SqE K H l xs ∧ H b = some (.lst zs) ∧ xs.length + zs.length ≤ sizeLine ∧ ∀ p, H p = none → Q (.ref p) (upd H p (.lst (xs ++ zs)))
theorem op_catE {X : Cx} : OpR X (binaryOp .Add) (rCatE X.K) := by
  intro pins s σ H x y v u Q I rx ry h
  obtain ⟨l, b, xs, zs, rfl, rfl, hE, hB, hz, q⟩ := h
  cases rx
  cases ry
  obtain ⟨its, n, r, e⟩ : ∃ (its : List Value) (n : Nat), Vals xs its ∧ s.heap.get? l = some { cls := .type "list", data := .seq its.toArray n } := by
    rcases hE with ⟨ob, hf⟩ | ⟨vs, n, hk, rv, _⟩
    · obtain ⟨_, _, its, n, rv, here⟩ := (show ObjOk X.prog X.w H s.heap l (.frz ob (.lst xs)) from I.hok l _ hf)
      exact ⟨its, n, rv, here⟩
    · exact ⟨vs, n, rv, I.kIn _ _ hk⟩
  obtain ⟨z2, its2, n2, r2, hl2, e2⟩ := I.lstM hB
  refine PySem.P.add_list e e2 ?_ (by rw [List.size_toArray, List.size_toArray, ← r.length, ← r2.length]; exact hz)
  have both : its.toArray ++ its2.toArray = (its ++ its2).toArray := by simp
  rw [both]
  exact ⟨.ref _, _, I.lnew (t' := s.toks) (r.append r2) (by rw [List.length_append]; exact hz), rfl, q _ I.fresh⟩
/-- what is tracked ahead of the law: its script, where the written part doesn't hold it -/
def H1st (K : PySem.W.Frag) (a : Addr) (vs : List Value) (ns : List Int) : Hp := fun b => if b = a ∧ K.lookup a = none then some (.frz { cls := .type "list", data := .seq vs.toArray } (.lst (ns.map V.int))) else none
theorem h1st_cases (K : PySem.W.Frag) (a : Addr) (vs : List Value) (ns : List Int) (b : Addr) : H1st K a vs ns b = none ∨ (b = a ∧ K.lookup a = none ∧ H1st K a vs ns b = some (.frz { cls := .type "list", data := .seq vs.toArray } (.lst (ns.map V.int)))) := by
  unfold H1st
  by_cases h : b = a ∧ K.lookup a = none
  · exact .inr ⟨h.1, h.2, if_pos h⟩
  · exact .inl (if_neg h)
theorem law_goG {P : Program} {w : World} {K : PySem.W.Frag} {mg mb : Str → Option Value} {k : Nat} {fa a : Addr} {fd : FuncData} {x : Str} {sp : Sp} {st : Shared} {vs : List Value} {ns : List Int}
    (inK : K.In st.heap) (top : st.heap.Ns mainGlobals mg) (blt : st.heap.Ns builtinsNs mb) (boot : ∀ x : Str, x ≠ "__name__" → mb x = bootBuiltins x) (room : st.heap.NoLimit) (quiet : st.gens = #[])
    (here : st.heap.get? a = some { cls := .type "list", data := .seq vs.toArray }) (are : IntsAre vs ns) (len : ns.length ≤ sizeLine) (hr : Room k callerA)
    (F : ∀ base : Heap, K.In base → base.Ns mainGlobals mg → FnG P w K mg base CX0 k fa fd [x] sp) (bnd : ∀ (s : Shared) (u : Value), BindsTo s fd ⟨[u], []⟩ [(x, u)])
    (wish : ∀ H : Hp, SqL K H a (ns.map V.int) → SqE K H a (ns.map V.int) → sp [.ref a] H (fun v _ => v = .bl true) fun _ _ _ => False) :
    codeAny (model P w) callerA (.call (.ref fa) ⟨[.ref a], []⟩) (fun r s' => r = .ok (.ret (.bool true)) ∧ OldK st.heap s'.heap ∧ s'.os = st.os ∧ AllBare s'.gens) st := by
  have rel := vals_ints are
  have size := are.length
  have hS : SqL K (H1st K a vs ns) a (ns.map V.int) := by
    cases q : K.lookup a with
    | none => exact .inl (.inr ⟨{ cls := .type "list", data := .seq vs.toArray }, if_pos ⟨rfl, q⟩⟩)
    | some o =>
      have z := inK a o q
      rw [here] at z
      cases z
      exact .inr ⟨_, vs.toArray, _, q, rfl, rfl, rfl, by rw [List.size_toArray, size]; exact len, by simpa using rel⟩
  have hE : SqE K (H1st K a vs ns) a (ns.map V.int) := by
    cases q : K.lookup a with
    | none => exact .inl ⟨{ cls := .type "list", data := .seq vs.toArray }, if_pos ⟨rfl, q⟩⟩
    | some o =>
      have z := inK a o q
      rw [here] at z
      cases z
      exact .inr ⟨vs, _, q, rel, by rw [List.length_map]; exact len⟩
  have hok : HOk P w (H1st K a vs ns) st.heap := fun b u z => by
    rcases h1st_cases K a vs ns b with n | ⟨rfl, _, y⟩
    · rw [n] at z
      cases z
    · rw [y] at z
      cases z
      exact ⟨here, by rw [List.length_map]; exact len, vs, _, rel, here⟩
  have nsT : ∀ {b : Addr} {m : Str → Option Value}, st.heap.Ns b m → (hidT st.heap (H1st K a vs ns)).Ns b m := fun {b m} ⟨o, es, ep, e, d, r⟩ => ⟨o, es, ep, hidT_get e (by
    rcases h1st_cases K a vs ns b with n | ⟨rfl, _, _⟩
    · exact n
    · rw [here] at e
      cases e
      exact nomatch (show Data.seq vs.toArray _ = Data.dict es ep from d)), d, r⟩
  have inT : K.In (hidT st.heap (H1st K a vs ns)) := fun b o e => hidT_get (inK b o e) (by
    rcases h1st_cases K a vs ns b with n | ⟨rfl, n, _⟩
    · exact n
    · rw [n] at e
      cases e)
  have md : Mod K mg (hidT st.heap (H1st K a vs ns)) := ⟨inT, nsT top, ⟨mb, nsT blt, boot⟩, let ⟨mc, h1, h2⟩ := room; ⟨mc, nsT h1, h2⟩⟩
  have en : Env0 P w K mg (hidT st.heap (H1st K a vs ns)) callerA [] st (H1st K a vs ns) := ⟨rfl, md, fun b o e => of_hidT e, Nat.le_of_eq (hidT_size _ _), trivial, fun b hb => absurd (show b ∈ ([] : List Addr) from hb) (by simp), hok, AllBare.of_eq quiet⟩
  refine codeAny_mono ((F _ inT (nsT top)).go callerA [] st _ ⟨[.ref a], []⟩ [.ref a] [.ref a] _ _ hr rfl en (bnd st (.ref a)) (.cons rfl .nil) (wish _ hS hE)) fun way s' told => ?_
  rcases way with er | fl
  · exact told.elim
  · cases fl with
    | next => exact told.elim
    | brk => exact told.elim
    | cont => exact told.elim
    | ret u =>
      obtain ⟨v, H', os, bare, un, hok', rv, ev⟩ := told
      cases ev
      cases (show u = Value.bool true from rv)
      refine ⟨rfl, OldK.of_keep fun b o e => ?_, os, bare⟩
      rcases h1st_cases K a vs ns b with n | ⟨rfl, _, y⟩
      · exact un.keep b o e n (fun z => nomatch z) (by simp)
      · have z1 := (hok b _ y).1
        rw [e] at z1
        cases z1
        exact (hok' b _ (un.frzs b _ _ y)).1
theorem walk_G {l : PySem.W.OpenLaw} {n k : Nat} {q : Program} {loose : List Str} {XP : (Str → Option Value) → Heap → Prop} {YP : World → Heap → Prop} {d : DefRec} {K : Params → PySem.W.Frag} {sp : World → Sp} {x : Str}
    (hn : l.most = some n) (hn2 : n ≤ sizeLine) (hdf : d.params.defaults = []) (hr : Room k callerA) (hY : ∀ (w : World) (h : Heap), YP w h → (K w.params).In h)
    (F : ∀ (w : World) (mg : Str → Option Value) (fa : Addr) (h : Heap), (K w.params).In h → h.Ns mainGlobals mg → mg d.name = some (.ref fa) →
      ∃ fd : FuncData, (∀ (s : Shared) (u : Value), BindsTo s fd ⟨[u], []⟩ [(x, u)]) ∧ ∀ base : Heap, (K w.params).In base → base.Ns mainGlobals mg → FnG l.prog w (K w.params) mg base CX0 k fa fd [x] (sp w))
    (wish : ∀ (w : World) (H : Hp) (a : Addr) (ns : List Int), ns.length ≤ n → SqL (K w.params) H a (ns.map V.int) → SqE (K w.params) H a (ns.map V.int) → sp w [.ref a] H (fun v _ => v = .bl true) fun _ _ _ => False) :
    PySem.W.WalkO q loose XP YP l.row.toRowW d [] (fun f vs => PySem.call f vs) := by
  refine Att.attach_call hn hdf fun w s₀ st mg mb fa o pm cd doc a vs ns G Y ho hd hcd hmg hobj hints hlen hg => ?_
  obtain ⟨fd, hb, hF⟩ := F w mg fa _ (hY w _ Y) G.T.g hmg
  exact law_goG (hY w _ Y) G.T.g G.T.b G.T.builtins G.T.nolimit hg hobj hints (Nat.le_trans hlen hn2) hr hF hb fun H hS hE => wish w H a ns hlen hS hE
section
variable {X : Cx}
mutual
theorem dp_noDict {K : PySem.W.Frag} {H : Hp} : ∀ (d : PyData) (v : V), Dp K H v d → d.hasDict = false
  | .none, _, _ => by simp only [PyData.hasDict]
  | .bool _, _, _ => by simp only [PyData.hasDict]
  | .int _, _, _ => by simp only [PyData.hasDict]
  | .str _, _, _ => by simp only [PyData.hasDict]
  | .list ds, _, h => by
    cases h with
    | lst _ ha =>
      simp only [PyData.hasDict]
      exact dpAll_noDict ds _ ha
  | .tuple ds, _, h => by
    cases h with
    | tup _ ha =>
      simp only [PyData.hasDict]
      exact dpAll_noDict ds _ ha
  | .dict _, _, h => by cases h
theorem dpAll_noDict {K : PySem.W.Frag} {H : Hp} : ∀ (ds : List PyData) (vs : List V), DpAll K H vs ds → PyData.hasDictAll ds = false
  | [], _, _ => by simp only [PyData.hasDictAll]
  | d :: ds, _, h => by
    cases h with
    | cons h1 h2 => simp only [PyData.hasDictAll, dp_noDict d _ h1, dpAll_noDict ds _ h2, Bool.or_self]
end
/-- repr(x) of data -/
theorem call_reprD (gd : X.A.guards = some []) (hu : X.A.units + 65 < cLine) : CallR X (.builtin "repr") (rReprD X.K) := by
  intro pins s σ H xs us Q I r h
  rcases h with ⟨v, d, rfl, hd, hs, hz, hdp, q⟩ | ⟨a, rfl, hk, q⟩
  · obtain ⟨u, rfl, ru⟩ := vals1 r
    cases hd with
    | non =>
      cases (show u = Value.none from ru)
      exact PySem.P.repr_of_none ⟨.str _, H, I.tok _, ⟨_, rfl⟩, q⟩
    | bl b =>
      cases (show u = Value.bool b from ru)
      refine PySem.P.repr_of_bool ⟨.str _, H, I.tok _, ⟨_, rfl⟩, ?_⟩
      cases b <;> exact q
    | int i =>
      obtain ⟨t, rfl⟩ := ru
      have hi : i.natAbs.log2 < 1920 := by simpa [PyData.showable] using hs
      exact PySem.P.repr_of_int hi ⟨.str _, H, I.tok _, ⟨_, rfl⟩, q⟩
    | str y =>
      obtain ⟨t, rfl⟩ := ru
      exact PySem.P.repr_of_str ⟨.str _, H, I.tok _, ⟨_, rfl⟩, q⟩ hz
    | lst hl ha =>
      cases (show u = Value.ref _ from ru)
      obtain ⟨as, rd⟩ := Dp.reads I _ _ _ (.lst hl ha) rfl
      exact PySem.repr_of_reads' rd hs (PyData.noDict_hsm (dp_noDict _ _ (.lst hl ha))) gd (by omega) (fun _ _ z => z) (fun h' u tk hk => ⟨.str _, H, I.kept (t' := tk) hk, ⟨_, rfl⟩, q⟩) hz
    | tup hl ha =>
      cases (show u = Value.ref _ from ru)
      obtain ⟨as, rd⟩ := Dp.reads I _ _ _ (.tup hl ha) rfl
      exact PySem.repr_of_reads' rd hs (PyData.noDict_hsm (dp_noDict _ _ (.tup hl ha))) gd (by omega) (fun _ _ z => z) (fun h' u tk hk => ⟨.str _, H, I.kept (t' := tk) hk, ⟨_, rfl⟩, q⟩) hz
  · obtain ⟨u, rfl, ru⟩ := vals1 r
    cases (show u = Value.ref a from ru)
    obtain ⟨_, hne, vs, kv, o, es, ep, ho, ex, hd, _, pr, _⟩ := dk_of I.hok hk
    cases kv
    have he : es.toList = [] := by cases hes : es.toList with
      | nil => rfl
      | cons _ _ =>
        rw [hes] at pr
        cases pr
    have rd : Reads s.heap (.ref a) (.dict []) [a] := Reads.dict (as := []) (bs := []) (kvs := []) ho ex.1 hd (by rw [he]; exact .nil) (by rw [he]; exact .nil)
    exact PySem.repr_of_reads' rd rfl (fun _ hm => by
      rcases List.mem_cons.mp hm with e | e
      · rw [← e] at hne
        exact absurd (beq_self_eq_true _) (by rw [hne]; exact Bool.false_ne_true)
      · exact nomatch e) gd (by show X.A.units + (PyData.depth (.dict []) + 1) < cLine; have : PyData.depth (.dict []) ≤ 2 := (by decide +kernel); omega) (fun _ _ z => z) (fun h' u tk hk => ⟨.str _, H, I.kept (t' := tk) hk, ⟨_, rfl⟩, q⟩) (by decide +kernel)
end
end OO

/-! Operators of a program's own objects: ==, !=, in, not in, [] by their own methods. -/
namespace PySem.W
open PySem PySem.Calls PyProof.Rows Builtin
section
variable {prog : Program} {w : World} {A : Around} {E : Value → Shared → Prop} {s : Shared} {K : Frag} {x C f : Addr} {ox : Obj} {od : Option Obj} {b tb : Value}
/-- a built-in method of the class, bound where it is there -/
theorem boundB {M : Model} {name : Str} {id : String} {args : List Value} {Q : Option Value → Shared → Prop} (X : K.In s.heap) (I : InstAt s.heap x ox C od) (there : findIn K (.ref C) name = some (some (.builtin id))) (bnd : ∀ self, bindSpecial (.builtin id) self = pure (.builtin id, [self]))
    (z : wpAny M A (call (.builtin id) (.ref x :: args)) (fun v => Q (some v)) E s) : wpAny M A (callSpecialIfBound? (.ref x) name args) Q E s := by
  have lk : Looks M s.heap (bindSpecial (.builtin id) (.ref x)) (.builtin id, [.ref x]) := .of_pure (bnd _)
  simp only [callSpecialIfBound?, bindSpecialIfBound?]
  refine wpAny_holding (wpAny_bind (wpAny_bind (wpAny_bind (I.type.here ((looks_findIn X there).here ?_)))))
  refine wpAny_bind (wpAny_askSetting (wpAny_ite ?_))
  have rest : wpAny M A (call (.builtin id) ([.ref x] ++ args) >>= fun v => pure (some v)) Q E s := wpAny_bind (wpAny_mono z (fun v s' y => wpAny_pure y) fun _ _ y => y)
  split
  · exact wpAny_bind (lk.here (wpAny_pure (by exact rest)))
  · exact wpAny_tryCatch (wpAny_bind (lk.here (wpAny_pure (by exact rest))))
/-- != by the own __eq__, where the class has no __ne__ -/
theorem ne_own {Q : Value → Shared → Prop} (hu : A.units + 1 < cLine) (X : K.In s.heap) (I : InstAt s.heap x ox C od) (hb : Looks (model prog w) s.heap (typeOf b) tb) (hn : notFirst K C tb = true) (no : findIn K (.ref C) "__ne__" = some (some (.builtin "object.__ne__")))
    (ob : mroIn K C (.type "object") = some true) (eq_ : findIn K (.ref C) "__eq__" = some (some (.ref f))) (fn : isFn K (.ref f) = true)
    (z : wpAny (model prog w) A.in1 (call (.ref f) [.ref x, b]) (fun v s' => ∃ c : Bool, v = .bool c ∧ Q (.bool (!c)) s') E s) : wpAny (model prog w) A (richCompare .NotEq (.ref x) b) Q E s := by
  have sub : Looks (model prog w) s.heap (isInstance (.ref x) (.type "object")) true := I.type.andThen (looks_mroIn X ob)
  have one : wpAny (model prog w) A (tryCompare (.ref x) "__ne__" b) (fun r s' => ∃ v, r = some v ∧ Q v s') E s := by
    unfold tryCompare
    refine wpAny_bind (boundB X I no F.cmp_object.ne.bind (wpAny_call (codeAny_call_builtin F.cmp_object.ne.plain F.cmpEntry_ne (check_slot F.cmpKind_ne F.cmpSplit_ne sub (F.cmpArgs_ne _ _) ?_))))
    unfold Builtin.«object.__ne__»
    repeat (first
      | with_reducible refine wpAny_cRoomFor (show A.in1.units < cLine from hu) ?_
      | (refine wpAny_bind (m := callSpecialIfBound? (.ref x) (Str.ofString "__eq__") [b]) (ifBound_K X I eq_ fn (wpAny_mono z (fun r s' hr => by
            obtain ⟨c, rfl, q⟩ := hr
            repeat (first | exact ⟨_, rfl, wpAny_pure ⟨_, rfl, q⟩⟩ | exact wpAny_pure ⟨_, rfl, q⟩ | exact ⟨_, rfl, q⟩ | (refine wpAny_bind (m := truthy (.bool _)) (wpAny_truthy_bool ?_)) | wp_step)) fun _ _ y => y)))
      | wp_step)
  unfold richCompare
  simp only [oneThing_ref]
  refine wpAny_holding (wpAny_bind (wpAny_cRoomFor (Nat.lt_of_succ_lt hu) ?_))
  refine wpAny_bind (I.type.here (wpAny_bind (hb.here ?_)))
  split
  · rename_i q
    have e : subIn K tb (.ref C) = some false := by
      rcases Bool.or_eq_true_iff.mp hn with e | e
      · rw [beq_iff_eq.mp e] at q; simp at q
      · exact beq_iff_eq.mp e
    refine wpAny_bind ((looks_subIn X e).here ?_)
    simp only [Bool.false_eq_true, if_false]
    refine wpAny_bind (wpAny_mono one (fun r s' y => ?_) fun _ _ y => y)
    obtain ⟨v, rfl, q2⟩ := y
    exact wpAny_pure q2
  · refine wpAny_bind (wpAny_pure ?_)
    simp only [Bool.false_eq_true, if_false]
    refine wpAny_bind (wpAny_mono one (fun r s' y => ?_) fun _ _ y => y)
    obtain ⟨v, rfl, q2⟩ := y
    exact wpAny_pure q2
end
end PySem.W
namespace OO
open PySem PySem.Spec PyProof.Rows L2 TL GG
section
variable {X : Cx} {k : Nat} {g C : Addr} {sp : Sp} {pins : List (Addr × Obj)} {σ : L2.St} {H : Hp} {s : Shared} {y : V} {u t : Value}
theorem looksY (I : Inv X pins σ H s) (r : RelV y u) (ty : TyX X.K H y t) {M : Model} : PySem.W.Looks M s.heap (typeOf u) t := by
  obtain ⟨P, z, p, _⟩ := kit_of I r ty
  exact z.ty M s.heap I.kIn p
/-- x == y, x != y, x an instance of the class at C, by its __eq__ -/
def rCmpO (K : PySem.W.Frag) (C : Addr) (sp : Sp) (neg : Bool) : R2 := fun x y H Q => ∃ (a dx : Addr) (fs : List (Str × V)) (t : Value), x = .ref a ∧ H a = some (.ins C dx fs) ∧ TyX K H y t ∧ PySem.W.notFirst K C t = true ∧
  sp [.ref a, y] H (fun v H' => ∃ b : Bool, v = .bl b ∧ Q (.bl (if neg = true then !b else b)) H') E0
theorem op_eqO (F : FnR X.prog X.w X.K X.mg X.base CX0 k g sp) (hr : Room k X.A) (hs : PySem.W.findIn X.K (.ref C) "__eq__" = some (some (.ref g))) (hf : PySem.W.isFn X.K (.ref g) = true) : OpR X (compareOp .Eq) (rCmpO X.K C sp false) := by
  intro pins s σ H x y v u Q I rx ry h
  obtain ⟨a, dx, fs, t, rfl, ha, ty, nf, h⟩ := h
  cases (show v = Value.ref a from rx)
  obtain ⟨mA, O, _⟩ := ins_get I.hok ha
  obtain ⟨od, J, _⟩ := O.look
  obtain ⟨m, fr⟩ := I.fr
  show wpAny _ _ (richCompare .Eq (.ref a) u) _ _ _
  refine PySem.W.cmp_K (op := .Eq) (Nat.lt_of_le_of_lt (Nat.le_add_right _ _) hr.units) fr I.ok.mod.kin J (looksY I ry ty) nf hs hf (wpAny_call (codeAny_mono (F X.A X.stack s H [.ref a, u] [.ref a, y] _ E0 hr I.env0 (.cons rfl (.cons ry .nil)) h) fun way s' told => ?_))
  rcases way with er | fl
  · exact told.elim
  · cases fl with
    | next => exact told.elim
    | brk => exact told.elim
    | cont => exact told.elim
    | ret u2 =>
      obtain ⟨v2, H2, I2, r2, b, rfl, q⟩ := I.after told
      cases (show u2 = Value.bool b from r2)
      exact ⟨.bl b, H2, I2, rfl, q⟩
theorem op_neO (F : FnR X.prog X.w X.K X.mg X.base CX0 k g sp) (hr : Room (k + 1) X.A) (no : PySem.W.findIn X.K (.ref C) "__ne__" = some (some (.builtin "object.__ne__"))) (ob : PySem.W.mroIn X.K C (.type "object") = some true)
    (hs : PySem.W.findIn X.K (.ref C) "__eq__" = some (some (.ref g))) (hf : PySem.W.isFn X.K (.ref g) = true) : OpR X (compareOp .NotEq) (rCmpO X.K C sp true) := by
  intro pins s σ H x y v u Q I rx ry h
  obtain ⟨a, dx, fs, t, rfl, ha, ty, nf, h⟩ := h
  cases (show v = Value.ref a from rx)
  obtain ⟨mA, O, _⟩ := ins_get I.hok ha
  obtain ⟨od, J, _⟩ := O.look
  show wpAny _ _ (richCompare .NotEq (.ref a) u) _ _ _
  refine PySem.W.ne_own (Nat.lt_of_le_of_lt (Nat.add_le_add_left (by decide : 1 ≤ 64) _) hr.units) I.kIn J (looksY I ry ty) nf no ob hs hf (wpAny_call (codeAny_mono (F X.A.in1 X.stack s H [.ref a, u] [.ref a, y] _ E0 hr.in1 I.env0.in1 (.cons rfl (.cons ry .nil)) h) fun way s' told => ?_))
  rcases way with er | fl
  · exact told.elim
  · cases fl with
    | next => exact told.elim
    | brk => exact told.elim
    | cont => exact told.elim
    | ret u2 =>
      obtain ⟨v2, H2, I2, r2, b, rfl, q⟩ := I.after told
      cases (show u2 = Value.bool b from r2)
      exact ⟨b, rfl, .bl (!b), H2, I2, rfl, q⟩
/-- x in y, x not in y, y an instance of the class at C, by its __contains__ -/
def rInO (C : Addr) (sp : Sp) (neg : Bool) : R2 := fun x y H Q => ∃ (a dx : Addr) (fs : List (Str × V)), y = .ref a ∧ H a = some (.ins C dx fs) ∧ sp [.ref a, x] H (fun v H' => ∃ b : Bool, v = .bl b ∧ Q (.bl (if neg = true then !b else b)) H') E0
theorem op_inO (F : FnR X.prog X.w X.K X.mg X.base CX0 k g sp) (hr : Room k X.A) (hs : PySem.W.findIn X.K (.ref C) "__contains__" = some (some (.ref g))) (hf : PySem.W.isFn X.K (.ref g) = true) : OpR X (compareOp .In) (rInO C sp false) := by
  intro pins s σ H x y v u Q I rx ry h
  obtain ⟨a, dx, fs, rfl, ha, h⟩ := h
  cases (show u = Value.ref a from ry)
  obtain ⟨mA, O, _⟩ := ins_get I.hok ha
  obtain ⟨od, J, _⟩ := O.look
  obtain ⟨m, fr⟩ := I.fr
  refine PySem.W.in_K fr I.ok.mod.kin J hs hf (wpAny_call (codeAny_mono (F X.A X.stack s H [.ref a, v] [.ref a, x] _ E0 hr I.env0 (.cons rfl (.cons rx .nil)) h) fun way s' told => ?_))
  rcases way with er | fl
  · exact told.elim
  · cases fl with
    | next => exact told.elim
    | brk => exact told.elim
    | cont => exact told.elim
    | ret u2 =>
      obtain ⟨v2, H2, I2, r2, b, rfl, q⟩ := I.after told
      cases (show u2 = Value.bool b from r2)
      exact wpAny_truthy_bool ⟨.bl b, H2, I2, rfl, q⟩
theorem op_notInO (F : FnR X.prog X.w X.K X.mg X.base CX0 k g sp) (hr : Room k X.A) (hs : PySem.W.findIn X.K (.ref C) "__contains__" = some (some (.ref g))) (hf : PySem.W.isFn X.K (.ref g) = true) : OpR X (compareOp .NotIn) (rInO C sp true) := by
  intro pins s σ H x y v u Q I rx ry h
  obtain ⟨a, dx, fs, rfl, ha, h⟩ := h
  cases (show u = Value.ref a from ry)
  obtain ⟨mA, O, _⟩ := ins_get I.hok ha
  obtain ⟨od, J, _⟩ := O.look
  obtain ⟨m, fr⟩ := I.fr
  refine PySem.W.notIn_K fr I.ok.mod.kin J hs hf (wpAny_call (codeAny_mono (F X.A X.stack s H [.ref a, v] [.ref a, x] _ E0 hr I.env0 (.cons rfl (.cons rx .nil)) h) fun way s' told => ?_))
  rcases way with er | fl
  · exact told.elim
  · cases fl with
    | next => exact told.elim
    | brk => exact told.elim
    | cont => exact told.elim
    | ret u2 =>
      obtain ⟨v2, H2, I2, r2, b, rfl, q⟩ := I.after told
      cases (show u2 = Value.bool b from r2)
      exact wpAny_truthy_bool ⟨.bl (!b), H2, I2, rfl, q⟩
/-- x[i], x an instance of the class at C, by its __getitem__ -/
def tIxO (C : Addr) (sp : Sp) (E : L2.St → XK) (ta tb : TE) : TE := fun σ H Q => ta σ H fun x H1 => tb σ H1 fun y H2 => ∃ (a dx : Addr) (fs : List (Str × V)), x = .ref a ∧ H2 a = some (.ins C dx fs) ∧ sp [.ref a, y] H2 Q (E σ)
theorem pe_ixO {CX : CXT} {E : L2.St → XK} {a b : Expr} {ta tb : TE} {pos : Pos} (F : FnR X.prog X.w X.K X.mg X.base CX k g sp) (hr : Room (k + 1) X.A) (hx : ∀ σ, PassesAt CX X σ (E σ)) (ha : PE X a ta) (hb : PE X b tb) (hs : PySem.W.findIn X.K (.ref C) "__getitem__" = some (some (.ref g)))
    (hk : PySem.W.fnIn X.K g = true) (hf : PySem.W.isFn X.K (.ref g) = true) (hsl : ∀ v i : Value, subscripted b true v i = runValue (.builtin "lifetime.subscript" ⟨[v, i], []⟩) := by intro _ _; rfl) : PE X (.Subscript a b pos) (tIxO C sp E ta tb) := by
  refine ⟨fun pins s σ H Q I h => ?_⟩
  refine Subscript_ (binT ha hb I (R := fun x y H2 => ∃ (a dx : Addr) (fs : List (Str × V)), x = .ref a ∧ H2 a = some (.ins C dx fs) ∧ sp [.ref a, y] H2 Q (E σ)) h fun v u s2 x y H2 I2 rx ry q => ?_)
  obtain ⟨p, dx, fs, rfl, hp, q⟩ := q
  cases (show v = Value.ref p from rx)
  obtain ⟨mA, O, _⟩ := ins_get I2.hok hp
  obtain ⟨od, J, _⟩ := O.look
  obtain ⟨m, fr⟩ := I2.fr
  refine PySem.W.sub_K fr I2.ok.mod.kin J hs hk hf (wpAny_call (codeAny_mono (F X.A.in1 X.stack s2 H2 [.ref p, u] [.ref p, y] _ (E σ) hr.in1 I2.env0.in1 (.cons rfl (.cons ry .nil)) q) fun way s' told => ?_)) (hsl _ _)
  rcases way with er | fl
  · exact hx σ pins H2 s2 er s' I2 told
  · cases fl <;> first | exact I2.after told | exact told.elim
end
end OO

/-! How a row lies: its items one after another with those of ways out, where each place leads, what one that stands there has; that rows that keep the rules are let by. No program's own. -/
namespace LY
open PySem PySem.Spec PyProof.Rows L2 TL GG
/-- the way out of an ask -/
def wayOf : PyData → Option (List PyData)
  | .tuple [_, _, .tuple o] => some o
  | _ => none
def way (d : PyData) : List PyData := (wayOf d).getD []
/-- all items, with those of ways out -/
def spread (ds : List PyData) : List PyData := ds.flatMap fun d => d :: way d
/-- where the n items of a way out lead, the first at o -/
def chain (e : Nat) : Nat → Nat → List (List Nat)
  | _, 0 => []
  | _, 1 => [[e]]
  | o, n + 2 => [o + 1] :: chain e (o + 1) (n + 1)
/-- where the places lead, the first at o, the end e -/
def leads (e : Nat) : Nat → List PyData → List (List Nat)
  | _, [] => []
  | o, d :: r => match wayOf d with
    | none => [o + 1] :: leads e (o + 1) r
    | some w => [o + 1 + w.length, if w.length = 0 then e else o + 1] :: (chain e (o + 1) w.length ++ leads e (o + 1 + w.length) r)
/-- holds, under way, has the lock -/
abbrev St3 := Bool × Bool × Bool
/-- behind an item of such a word -/
def stB (s : St3) (w : Str) : St3 :=
  if w = "hold" then (true, s.2) else if w = "try" then (true, s.2) else if w = "let" then (false, s.2) else if w = "enter" then (s.1, true, s.2.2) else if w = "leave" then (s.1, false, s.2.2) else if w = "lock" then (s.1, s.2.1, true)
  else if w = "unlock" then (s.1, s.2.1, false) else s
def may (u l : Bool) (w : Str) : Bool := if w = "enter" then !u else if w = "leave" then u else if w = "lock" then !l else if w = "unlock" then l else true
def setAll (S : List St3) (bs : List Nat) (v : St3) : List St3 := bs.foldl (fun S b => S.set b v) S
/-- what stands at each place, place by place -/
def runs (S : List St3) : Nat → List (PyData × List Nat) → List St3
  | _, [] => S
  | i, (d, bs) :: r => runs (setAll S bs (stB (S.getD i (false, false, false)) (headW d))) (i + 1) r
/-- a place that is let by -/
def okAt (e : Nat) (d : PyData) (bs : List Nat) (s : St3) : Prop := may s.2.1 s.2.2 (headW d) = true ∧ (headW d = "let" → bs = [e]) ∧ (e ∈ bs → (stB s (headW d)).2 = (false, false))
/-- each place is let by when it is come to, and leads on only -/
def Good (e : Nat) : Nat → List (PyData × List Nat) → List St3 → Prop
  | _, [], _ => True
  | i, (d, bs) :: r, S => okAt e d bs (S.getD i (false, false, false)) ∧ (∀ b ∈ bs, i < b) ∧ Good e (i + 1) r (setAll S bs (stB (S.getD i (false, false, false)) (headW d)))
/-- rows that keep the rules, by their words; a: asks may be there -/
inductive RowG : Bool → Bool → Bool → List PyData → Prop
  | nil {a} : RowG a false false []
  | lets {a} : RowG a false false [T1 "let"]
  | item {a u l d r} : wayOf d = none → headW d ≠ "let" → may u l (headW d) = true → RowG a (stB (false, u, l) (headW d)).2.1 (stB (false, u, l) (headW d)).2.2 r → RowG a u l (d :: r)
  | ask {u l d w r} : wayOf d = some w → headW d = "ask" → RowG false u l w → RowG true u l r → RowG true u l (d :: r)
theorem stB_snd (h u l : Bool) (w : Str) : (stB (h, u, l) w).2 = (stB (false, u, l) w).2 := by
  unfold stB
  repeat (first | rfl | split)
theorem rowG_nil {a u l : Bool} (h : RowG a u l []) : u = false ∧ l = false := by
  cases h
  exact ⟨rfl, rfl⟩
theorem setAll_len (S : List St3) (v : St3) : ∀ bs : List Nat, (setAll S bs v).length = S.length := by
  intro bs
  unfold setAll
  induction bs generalizing S with
  | nil => rfl
  | cons b bs ih => rw [List.foldl_cons, ih, List.length_set]
theorem setAll_ne (v : St3) (j : Nat) : ∀ (bs : List Nat) (S : List St3), j ∉ bs → (setAll S bs v)[j]? = S[j]?
  | [], _, _ => rfl
  | b :: bs, S, h => by
    have h1 : b ≠ j := fun z => h (by rw [z]; exact List.mem_cons_self)
    have h2 : j ∉ bs := fun z => h (List.mem_cons_of_mem _ z)
    have := setAll_ne v j bs (S.set b v) h2
    unfold setAll at this ⊢
    rw [List.foldl_cons, this, List.getElem?_set_ne h1]
theorem setAll_in (v : St3) (j : Nat) : ∀ (bs : List Nat) (S : List St3), j ∈ bs → j < S.length → (setAll S bs v)[j]? = some v
  | [], _, h, _ => nomatch h
  | b :: bs, S, h, hj => by
    by_cases hb : j ∈ bs
    · have := setAll_in v j bs (S.set b v) hb (by rw [List.length_set]; exact hj)
      unfold setAll at this ⊢
      rw [List.foldl_cons, this]
    · have e : j = b := (List.mem_cons.mp h).resolve_right hb
      subst e
      have := setAll_ne v j bs (S.set j v) hb
      unfold setAll at this ⊢
      rw [List.foldl_cons, this, List.getElem?_set_self hj]
theorem getD_of {S : List St3} {i : Nat} {s : St3} (h : S[i]? = some s) : S.getD i (false, false, false) = s := by rw [List.getD_eq_getElem?_getD, h]; rfl
/-- what was passed stays -/
theorem runs_keep (e : Nat) : ∀ (L : List (PyData × List Nat)) (i : Nat) (S : List St3), Good e i L S → ∀ j, j ≤ i → (runs S i L)[j]? = S[j]?
  | [], _, _, _, _, _ => rfl
  | (d, bs) :: r, i, S, h, j, hj => by
    obtain ⟨_, h2, h3⟩ := h
    show (runs _ (i + 1) r)[j]? = _
    rw [runs_keep e r (i + 1) _ h3 j (by omega)]
    exact setAll_ne _ _ _ _ fun z => by have := h2 j z; omega
/-- at the end each place is let by -/
theorem good_at (e : Nat) : ∀ (L : List (PyData × List Nat)) (i : Nat) (S : List St3), Good e i L S → ∀ k d bs, L[k]? = some (d, bs) → okAt e d bs ((runs S i L).getD (i + k) (false, false, false))
  | [], _, _, _, _, _, _, hk => nomatch hk
  | (d0, b0) :: r, i, S, h, 0, d, bs, hk => by
    have hp : (d0, b0) = (d, bs) := Option.some.inj hk
    rw [hp] at h ⊢
    have e1 := runs_keep e ((d, bs) :: r) i S h i (Nat.le_refl _)
    have := h.1
    rw [List.getD_eq_getElem?_getD] at this ⊢
    rw [Nat.add_zero, e1]
    exact this
  | (d0, b0) :: r, i, S, h, k + 1, d, bs, hk => by
    have := good_at e r (i + 1) _ h.2.2 k d bs hk
    rw [show i + (k + 1) = i + 1 + k by omega]
    exact this
theorem good_app (e : Nat) : ∀ (A B : List (PyData × List Nat)) (i : Nat) (S : List St3), Good e i A S → Good e (i + A.length) B (runs S i A) → Good e i (A ++ B) S
  | [], _, _, _, _, h => h
  | (d, bs) :: r, B, i, S, h, k => ⟨h.1, h.2.1, good_app e r B (i + 1) _ h.2.2 (by
      have : i + ((d, bs) :: r).length = i + 1 + r.length := by rw [List.length_cons]; omega
      rw [this] at k
      exact k)⟩
theorem runs_len : ∀ (L : List (PyData × List Nat)) (i : Nat) (S : List St3), (runs S i L).length = S.length
  | [], _, _ => rfl
  | (d, bs) :: r, i, S => by
    show (runs _ (i + 1) r).length = _
    rw [runs_len r (i + 1), setAll_len]
/-- a place that nothing leads to stays -/
theorem runs_ne (j : Nat) : ∀ (L : List (PyData × List Nat)) (i : Nat) (S : List St3), (∀ p ∈ L, j ∉ p.2) → (runs S i L)[j]? = S[j]?
  | [], _, _, _ => rfl
  | (d, bs) :: r, i, S, h => by
    show (runs _ (i + 1) r)[j]? = _
    rw [runs_ne j r (i + 1) _ fun p hp => h p (List.mem_cons_of_mem _ hp)]
    exact setAll_ne _ _ _ _ (h (d, bs) List.mem_cons_self)
theorem chain_len (e : Nat) : ∀ n o : Nat, (chain e o n).length = n
  | 0, _ => rfl
  | 1, _ => rfl
  | n + 2, o => by
    show (chain e (o + 1) (n + 1)).length + 1 = _
    rw [chain_len e (n + 1)]
theorem chain_mem (e : Nat) : ∀ (n o : Nat) (bs : List Nat), bs ∈ chain e o n → ∀ b ∈ bs, b = e ∨ (o < b ∧ b < o + n)
  | 0, _, _, h, _, _ => nomatch h
  | 1, _, bs, h, b, hb => by
    have e1 : bs = [e] := List.mem_singleton.mp h
    rw [e1] at hb
    exact .inl (List.mem_singleton.mp hb)
  | n + 2, o, bs, h, b, hb => by
    rcases List.mem_cons.mp h with rfl | h
    · have := List.mem_singleton.mp hb
      exact .inr ⟨by omega, by omega⟩
    · rcases chain_mem e (n + 1) (o + 1) bs h b hb with h | ⟨h1, h2⟩
      · exact .inl h
      · exact .inr ⟨by omega, by omega⟩
/-- a way out -/
theorem inner (e : Nat) : ∀ (w : List PyData) (u l : Bool), RowG false u l w → ∀ (o : Nat) (S : List St3), o + w.length ≤ e → S.length = e + 1 → (w ≠ [] → ∃ h, S[o]? = some (h, u, l)) → Good e o (w.zip (chain e o w.length)) S
  | [], _, _, _, _, _, _, _, _ => trivial
  | [d], u, l, h, o, S, he, hS, h0 => by
    obtain ⟨hh, h0⟩ := h0 (by simp)
    refine ⟨?_, fun b hb => ?_, trivial⟩
    · rw [getD_of h0]
      cases h with
      | lets => exact ⟨rfl, fun _ => rfl, fun _ => rfl⟩
      | item h1 h2 h3 h4 =>
        obtain ⟨k1, k2⟩ := rowG_nil h4
        exact ⟨h3, fun z => absurd z h2, fun _ => by rw [stB_snd]; exact Prod.ext k1 k2⟩
    · have : b = e := List.mem_singleton.mp hb
      have : o + 1 ≤ e := he
      omega
  | d :: d2 :: r, u, l, h, o, S, he, hS, h0 => by
    obtain ⟨hh, h0⟩ := h0 (by simp)
    have he : o + (r.length + 2) ≤ e := he
    cases h with
    | item h1 h2 h3 h4 =>
      refine ⟨?_, fun b hb => ?_, ?_⟩
      · rw [getD_of h0]
        refine ⟨h3, fun z => absurd z h2, fun z => ?_⟩
        have : e = o + 1 := List.mem_singleton.mp z
        omega
      · have : b = o + 1 := List.mem_singleton.mp hb
        omega
      · rw [getD_of h0]
        refine inner e (d2 :: r) _ _ h4 (o + 1) _ (by show o + 1 + (r.length + 1) ≤ e; omega) (by rw [setAll_len]; exact hS) fun _ => ⟨(stB (hh, u, l) (headW d)).1, ?_⟩
        rw [setAll_in _ (o + 1) [o + 1] S (List.mem_singleton.mpr rfl) (by omega)]
        congr 1
        exact Prod.ext rfl (stB_snd hh u l (headW d))
theorem leads_none {e o : Nat} {d : PyData} {r : List PyData} (h : wayOf d = none) : leads e o (d :: r) = [o + 1] :: leads e (o + 1) r := by
  rw [leads, h]
theorem leads_some {e o : Nat} {d : PyData} {r w : List PyData} (h : wayOf d = some w) : leads e o (d :: r) = [o + 1 + w.length, if w.length = 0 then e else o + 1] :: (chain e (o + 1) w.length ++ leads e (o + 1 + w.length) r) := by
  rw [leads, h]
theorem leads_len (e : Nat) : ∀ (r : List PyData) (o : Nat), (leads e o r).length = (spread r).length
  | [], _ => rfl
  | d :: r, o => by
    have es : spread (d :: r) = d :: (way d ++ spread r) := rfl
    rw [es, List.length_cons, List.length_append]
    cases h : wayOf d with
    | none =>
      have hw : way d = [] := by unfold way; rw [h]; rfl
      rw [leads_none h, List.length_cons, leads_len e r, hw]
      simp
    | some w =>
      have hw : way d = w := by unfold way; rw [h]; rfl
      rw [leads_some h, List.length_cons, List.length_append, chain_len, leads_len e r, hw]
theorem spread_cons (d : PyData) (r : List PyData) : spread (d :: r) = d :: (way d ++ spread r) := rfl
/-- the row itself -/
theorem outer (e : Nat) : ∀ (r : List PyData) (u l : Bool), RowG true u l r → ∀ (o : Nat) (S : List St3), o + (spread r).length = e → S.length = e + 1 → (r ≠ [] → ∃ h, S[o]? = some (h, u, l)) → Good e o ((spread r).zip (leads e o r)) S
  | [], _, _, _, _, _, _, _, _ => trivial
  | d :: r, u, l, h, o, S, he, hS, h0 => by
    obtain ⟨hh, g0⟩ := h0 (by simp)
    rw [spread_cons] at he ⊢
    rw [List.length_cons, List.length_append] at he
    have cl : ∀ {u' l' : Bool}, RowG true u' l' r → (spread r).length = 0 → u' = false ∧ l' = false := fun {u' l'} k z => by
      cases r with
      | nil => exact rowG_nil k
      | cons a b => rw [spread_cons] at z; simp at z
    cases h with
    | lets =>
      refine ⟨?_, fun b hb => ?_, trivial⟩
      · rw [getD_of g0]
        have e1 : o + 1 = e := he
        exact ⟨rfl, fun _ => by rw [e1], fun _ => rfl⟩
      · have : b = o + 1 := List.mem_singleton.mp hb
        omega
    | item h1 h2 h3 h4 =>
      have hw : way d = [] := by unfold way; rw [h1]; rfl
      have hL := leads_none (e := e) (o := o) (r := r) h1
      rw [hw] at he ⊢
      rw [hL]
      have he : o + 1 + (spread r).length = e := by simp at he; omega
      refine ⟨?_, fun b hb => ?_, ?_⟩
      · rw [getD_of g0]
        refine ⟨h3, fun z => absurd z h2, fun z => ?_⟩
        have : e = o + 1 := List.mem_singleton.mp z
        obtain ⟨k1, k2⟩ := cl h4 (by omega)
        rw [stB_snd]
        exact Prod.ext k1 k2
      · have : b = o + 1 := List.mem_singleton.mp hb
        omega
      · rw [getD_of g0]
        refine outer e r _ _ h4 (o + 1) _ he (by rw [setAll_len]; exact hS) fun _ => ⟨(stB (hh, u, l) (headW d)).1, ?_⟩
        rw [setAll_in _ (o + 1) [o + 1] S (List.mem_singleton.mpr rfl) (by omega)]
        congr 1
        exact Prod.ext rfl (stB_snd hh u l (headW d))
    | @ask _ _ _ w _ h1 h2 h3 h4 =>
      have hw : way d = w := by unfold way; rw [h1]; rfl
      have hL := leads_some (e := e) (o := o) (r := r) h1
      rw [hw] at he ⊢
      rw [hL]
      have same : stB (hh, u, l) (headW d) = (hh, u, l) := by rw [h2]; rfl
      have hx : (if w.length = 0 then e else o + 1) = e ∧ w = [] ∨ (if w.length = 0 then e else o + 1) = o + 1 ∧ w ≠ [] := by
        cases w with
        | nil => exact .inl ⟨rfl, rfl⟩
        | cons a b => exact .inr ⟨if_neg (by simp), by simp⟩
      generalize (if w.length = 0 then e else o + 1) = x at hx ⊢
      have hxe : o < x ∧ x ≤ e := by rcases hx with ⟨rfl, _⟩ | ⟨rfl, _⟩ <;> omega
      refine ⟨?_, fun b hb => ?_, ?_⟩
      · rw [getD_of g0]
        refine ⟨by rw [h2]; rfl, fun z => absurd (h2.symm.trans z) (by decide), fun z => ?_⟩
        rw [same]
        rcases List.mem_cons.mp z with z | z
        · obtain ⟨k1, k2⟩ := cl h4 (by omega)
          exact Prod.ext k1 k2
        · have z := List.mem_singleton.mp z
          rcases hx with ⟨_, rfl⟩ | ⟨k, kw⟩
          · obtain ⟨k1, k2⟩ := rowG_nil h3
            exact Prod.ext k1 k2
          · have : w.length ≠ 0 := fun q => kw (List.length_eq_zero_iff.mp q)
            obtain ⟨k1, k2⟩ := cl h4 (by omega)
            exact Prod.ext k1 k2
      · rcases List.mem_cons.mp hb with rfl | hb
        · omega
        · have := List.mem_singleton.mp hb
          omega
      · rw [getD_of g0, same]
        have hT : (setAll S [o + 1 + w.length, x] (hh, u, l)).length = e + 1 := by rw [setAll_len]; exact hS
        have z1 : w ≠ [] → (setAll S [o + 1 + w.length, x] (hh, u, l))[o + 1]? = some (hh, u, l) := fun k => by
          rcases hx with ⟨_, q⟩ | ⟨rfl, _⟩
          · exact absurd q k
          · exact setAll_in _ _ _ S (List.mem_cons_of_mem _ (List.mem_singleton.mpr rfl)) (by omega)
        have z2 : (setAll S [o + 1 + w.length, x] (hh, u, l))[o + 1 + w.length]? = some (hh, u, l) := setAll_in _ _ _ S List.mem_cons_self (by omega)
        generalize setAll S [o + 1 + w.length, x] (hh, u, l) = T at hT z1 z2 ⊢
        have hz : (w ++ spread r).zip (chain e (o + 1) w.length ++ leads e (o + 1 + w.length) r) = w.zip (chain e (o + 1) w.length) ++ (spread r).zip (leads e (o + 1 + w.length) r) := List.zip_append (by rw [chain_len])
        show Good e (o + 1) ((w ++ spread r).zip (chain e (o + 1) w.length ++ leads e (o + 1 + w.length) r)) T
        rw [hz]
        refine good_app e _ _ (o + 1) T (inner e w u l h3 (o + 1) T (by omega) hT fun k => ⟨hh, z1 k⟩) ?_
        have hl : (w.zip (chain e (o + 1) w.length)).length = w.length := by rw [List.length_zip, chain_len, Nat.min_self]
        rw [hl]
        refine outer e r u l h4 (o + 1 + w.length) _ (by omega) (by rw [runs_len]; exact hT) fun k => ⟨hh, ?_⟩
        rw [runs_ne (o + 1 + w.length) _ _ _ fun p hp hb => ?_]
        · exact z2
        · have hr : (spread r).length ≠ 0 := by
            cases r with
            | nil => exact absurd rfl k
            | cons a b => rw [spread_cons]; simp
          rcases chain_mem e w.length (o + 1) p.2 (List.of_mem_zip hp).2 _ hb with q | ⟨q1, q2⟩ <;> omega
end LY

/-! What stands at each place of a row, told item by item. No program's own. -/
namespace LY
open PySem PySem.Spec PyProof.Rows L2 TL GG
/-- items of a way out: what stands at each -/
def stI : St3 → List PyData → List St3
  | _, [] => []
  | s, d :: r => s :: stI (stB s (headW d)) r
def stO : St3 → List PyData → List St3
  | _, [] => []
  | s, d :: r => s :: (stI (stB s (headW d)) (way d) ++ stO (stB s (headW d)) r)
def GoodT : Nat → List (PyData × List Nat) → List St3 → List St3 → Prop
  | _, [], [], _ => True
  | i, (d, bs) :: r, t :: ts, S => S[i]? = some t ∧ (∀ b ∈ bs, i < b) ∧ GoodT (i + 1) r ts (setAll S bs (stB t (headW d)))
  | _, _, _, _ => False
theorem goodT_len : ∀ (L : List (PyData × List Nat)) (ts : List St3) (i : Nat) (S : List St3), GoodT i L ts S → L.length = ts.length
  | [], [], _, _, _ => rfl
  | [], _ :: _, _, _, h => h.elim
  | _ :: _, [], _, _, h => h.elim
  | (d, bs) :: r, t :: ts, i, S, h => by
    rw [List.length_cons, List.length_cons, goodT_len r ts (i + 1) _ h.2.2]
theorem runsT_keep : ∀ (L : List (PyData × List Nat)) (ts : List St3) (i : Nat) (S : List St3), GoodT i L ts S → ∀ j, j ≤ i → (runs S i L)[j]? = S[j]?
  | [], [], _, _, _, _, _ => rfl
  | [], _ :: _, _, _, h, _, _ => h.elim
  | _ :: _, [], _, _, h, _, _ => h.elim
  | (d, bs) :: r, t :: ts, i, S, h, j, hj => by
    obtain ⟨h1, h2, h3⟩ := h
    have e : S.getD i (false, false, false) = t := getD_of h1
    show (runs (setAll S bs (stB (S.getD i (false, false, false)) (headW d))) (i + 1) r)[j]? = _
    rw [e, runsT_keep r ts (i + 1) _ h3 j (by omega)]
    exact setAll_ne _ _ _ _ fun z => by have := h2 j z; omega
theorem goodT_at : ∀ (L : List (PyData × List Nat)) (ts : List St3) (i : Nat) (S : List St3), GoodT i L ts S → ∀ k t, ts[k]? = some t → (runs S i L)[i + k]? = some t
  | [], [], _, _, _, _, _, h => nomatch h
  | [], _ :: _, _, _, h, _, _, _ => h.elim
  | _ :: _, [], _, _, h, _, _, _ => h.elim
  | (d, bs) :: r, t0 :: ts, i, S, h, 0, t, hk => by
    obtain rfl := Option.some.inj hk
    have := runsT_keep ((d, bs) :: r) (t0 :: ts) i S h i (Nat.le_refl _)
    rw [Nat.add_zero, this]
    exact h.1
  | (d, bs) :: r, t0 :: ts, i, S, h, k + 1, t, hk => by
    have e : S.getD i (false, false, false) = t0 := getD_of h.1
    have := goodT_at r ts (i + 1) _ h.2.2 k t hk
    rw [show i + (k + 1) = i + 1 + k by omega]
    show (runs (setAll S bs (stB (S.getD i (false, false, false)) (headW d))) (i + 1) r)[i + 1 + k]? = _
    rw [e]
    exact this
theorem goodT_app : ∀ (A B : List (PyData × List Nat)) (ts us : List St3) (i : Nat) (S : List St3), GoodT i A ts S → GoodT (i + A.length) B us (runs S i A) → GoodT i (A ++ B) (ts ++ us) S
  | [], B, [], us, _, _, _, h => h
  | [], _, _ :: _, _, _, _, h, _ => h.elim
  | _ :: _, _, [], _, _, _, h, _ => h.elim
  | (d, bs) :: r, B, t :: ts, us, i, S, h, k => by
    refine ⟨h.1, h.2.1, goodT_app r B ts us (i + 1) _ h.2.2 ?_⟩
    have e : S.getD i (false, false, false) = t := getD_of h.1
    have h1 : i + ((d, bs) :: r).length = i + 1 + r.length := by rw [List.length_cons]; omega
    rw [h1] at k
    have k : GoodT (i + 1 + r.length) B us (runs (setAll S bs (stB (S.getD i (false, false, false)) (headW d))) (i + 1) r) := k
    rw [e] at k
    exact k
theorem stI_len : ∀ (r : List PyData) (s : St3), (stI s r).length = r.length
  | [], _ => rfl
  | d :: r, s => by
    show (stI _ r).length + 1 = _
    rw [stI_len r]
    rfl
theorem innerT (e : Nat) : ∀ (w : List PyData) (s : St3) (o : Nat) (S : List St3), o + w.length ≤ e → S.length = e + 1 → (w ≠ [] → S[o]? = some s) → GoodT o (w.zip (chain e o w.length)) (stI s w) S
  | [], _, _, _, _, _, _ => trivial
  | [d], s, o, S, he, hS, h0 => by
    have he : o + 1 ≤ e := he
    refine ⟨h0 (by simp), fun b hb => ?_, trivial⟩
    have : b = e := List.mem_singleton.mp hb
    omega
  | d :: d2 :: r, s, o, S, he, hS, h0 => by
    have he : o + (r.length + 2) ≤ e := he
    refine ⟨h0 (by simp), fun b hb => ?_, ?_⟩
    · have : b = o + 1 := List.mem_singleton.mp hb
      omega
    · refine innerT e (d2 :: r) _ (o + 1) _ (by show o + 1 + (r.length + 1) ≤ e; omega) (by rw [setAll_len]; exact hS) fun _ => ?_
      exact setAll_in _ (o + 1) [o + 1] S (List.mem_singleton.mpr rfl) (by omega)
/-- an item of a row by its form -/
def ItF (d : PyData) : Prop := wayOf d = none ∨ ((wayOf d).isSome = true ∧ headW d = "ask")
theorem outerT (e : Nat) : ∀ (r : List PyData) (s : St3) (o : Nat) (S : List St3), (∀ d ∈ r, ItF d) → o + (spread r).length = e → S.length = e + 1 → (r ≠ [] → S[o]? = some s) → GoodT o ((spread r).zip (leads e o r)) (stO s r) S
  | [], _, _, _, _, _, _, _ => trivial
  | d :: r, s, o, S, hF, he, hS, h0 => by
    have g0 := h0 (by simp)
    have hr : ∀ d ∈ r, ItF d := fun d hd => hF d (List.mem_cons_of_mem _ hd)
    rw [spread_cons] at he ⊢
    rw [List.length_cons, List.length_append] at he
    rcases hF d List.mem_cons_self with h1 | ⟨h1, h2⟩
    · have hw : way d = [] := by unfold way; rw [h1]; rfl
      have hL := leads_none (e := e) (o := o) (r := r) h1
      have hs : stO s (d :: r) = s :: stO (stB s (headW d)) r := by
        show s :: (stI (stB s (headW d)) (way d) ++ stO (stB s (headW d)) r) = _
        rw [hw]
        rfl
      rw [hw] at he ⊢
      rw [hL, hs]
      have he : o + 1 + (spread r).length = e := by simp at he; omega
      refine ⟨g0, fun b hb => ?_, ?_⟩
      · have : b = o + 1 := List.mem_singleton.mp hb
        omega
      · refine outerT e r _ (o + 1) _ hr he (by rw [setAll_len]; exact hS) fun _ => ?_
        exact setAll_in _ (o + 1) [o + 1] S (List.mem_singleton.mpr rfl) (by omega)
    · obtain ⟨w, h1⟩ := Option.isSome_iff_exists.mp h1
      have hw : way d = w := by unfold way; rw [h1]; rfl
      have hL := leads_some (e := e) (o := o) (r := r) h1
      have same : stB s (headW d) = s := by rw [h2]; rfl
      have hs : stO s (d :: r) = s :: (stI s w ++ stO s r) := by
        show s :: (stI (stB s (headW d)) (way d) ++ stO (stB s (headW d)) r) = _
        rw [hw, same]
      rw [hw] at he ⊢
      rw [hL, hs]
      have hx : (if w.length = 0 then e else o + 1) = e ∧ w = [] ∨ (if w.length = 0 then e else o + 1) = o + 1 ∧ w ≠ [] := by
        cases w with
        | nil => exact .inl ⟨rfl, rfl⟩
        | cons a b => exact .inr ⟨if_neg (by simp), by simp⟩
      generalize (if w.length = 0 then e else o + 1) = x at hx ⊢
      refine ⟨g0, fun b hb => ?_, ?_⟩
      · rcases List.mem_cons.mp hb with rfl | hb
        · omega
        · have := List.mem_singleton.mp hb
          rcases hx with ⟨rfl, _⟩ | ⟨rfl, _⟩ <;> omega
      · rw [same]
        have hT : (setAll S [o + 1 + w.length, x] s).length = e + 1 := by rw [setAll_len]; exact hS
        have z1 : w ≠ [] → (setAll S [o + 1 + w.length, x] s)[o + 1]? = some s := fun k => by
          rcases hx with ⟨_, q⟩ | ⟨rfl, _⟩
          · exact absurd q k
          · exact setAll_in _ _ _ S (List.mem_cons_of_mem _ (List.mem_singleton.mpr rfl)) (by omega)
        have z2 : (setAll S [o + 1 + w.length, x] s)[o + 1 + w.length]? = some s := setAll_in _ _ _ S List.mem_cons_self (by omega)
        generalize setAll S [o + 1 + w.length, x] s = T at hT z1 z2 ⊢
        have hz : (w ++ spread r).zip (chain e (o + 1) w.length ++ leads e (o + 1 + w.length) r) = w.zip (chain e (o + 1) w.length) ++ (spread r).zip (leads e (o + 1 + w.length) r) := List.zip_append (by rw [chain_len])
        show GoodT (o + 1) ((w ++ spread r).zip (chain e (o + 1) w.length ++ leads e (o + 1 + w.length) r)) (stI s w ++ stO s r) T
        rw [hz]
        refine goodT_app _ _ _ _ (o + 1) T (innerT e w s (o + 1) T (by omega) hT z1) ?_
        have hl : (w.zip (chain e (o + 1) w.length)).length = w.length := by rw [List.length_zip, chain_len, Nat.min_self]
        rw [hl]
        refine outerT e r s (o + 1 + w.length) _ hr (by omega) (by rw [runs_len]; exact hT) fun k => ?_
        rw [runs_ne (o + 1 + w.length) _ _ _ fun p hp hb => ?_]
        · exact z2
        · obtain ⟨p1, p2⟩ := p
          have hp2 := (List.of_mem_zip hp).2
          rcases chain_mem e w.length (o + 1) p2 hp2 _ hb with q | ⟨q1, q2⟩
          · cases r with
            | nil => exact k rfl
            | cons a b => rw [spread_cons] at he; simp at he; omega
          · omega
/-! ### a row laid, entry by entry -/
/-- an entry: the item, its first and second next places, what stands there -/
abbrev Ent := PyData × Nat × Nat × St3
def entI (e : Nat) : Nat → St3 → List PyData → List Ent
  | _, _, [] => []
  | _, s, [d] => [(d, e, e, s)]
  | o, s, d :: d2 :: r => (d, o + 1, o + 1, s) :: entI e (o + 1) (stB s (headW d)) (d2 :: r)
def entO (e : Nat) : Nat → St3 → List PyData → List Ent
  | _, _, [] => []
  | o, s, d :: r => (d, o + 1 + (way d).length, (if (way d).length = 0 then e else o + 1), s) :: (entI e (o + 1) (stB s (headW d)) (way d) ++ entO e (o + 1 + (way d).length) (stB s (headW d)) r)
/-- what a place is told by an entry: an ask has two next places -/
def EntR (x : Ent) (d : PyData) (bs : List Nat) (t : St3) : Prop := x.1 = d ∧ x.2.2.2 = t ∧ bs = (if headW d = "ask" then [x.2.1, x.2.2.1] else [x.2.1])
theorem entI_len (e : Nat) : ∀ (r : List PyData) (o : Nat) (s : St3), (entI e o s r).length = r.length
  | [], _, _ => rfl
  | [d], _, _ => rfl
  | d :: d2 :: r, o, s => by
    show (entI e (o + 1) _ (d2 :: r)).length + 1 = _
    rw [entI_len e (d2 :: r)]
    rfl
theorem entO_len (e : Nat) : ∀ (r : List PyData) (o : Nat) (s : St3), (entO e o s r).length = (spread r).length
  | [], _, _ => rfl
  | d :: r, o, s => by
    show (entI e (o + 1) (stB s (headW d)) (way d) ++ entO e (o + 1 + (way d).length) (stB s (headW d)) r).length + 1 = _
    rw [List.length_append, entI_len, entO_len e r, spread_cons, List.length_cons, List.length_append]
theorem entI_at (e : Nat) : ∀ (r : List PyData) (o : Nat) (s : St3), (∀ d ∈ r, headW d ≠ "ask") → ∀ (i : Nat) (x : Ent), (entI e o s r)[i]? = some x → ∃ d bs t, r[i]? = some d ∧ (chain e o r.length)[i]? = some bs ∧ (stI s r)[i]? = some t ∧ EntR x d bs t
  | [], _, _, _, _, _, h => nomatch h
  | [d], o, s, hn, i, x, h => by
    cases i with
    | zero =>
      obtain rfl := Option.some.inj h
      exact ⟨d, [e], s, rfl, rfl, rfl, rfl, rfl, by rw [if_neg (hn d List.mem_cons_self)]⟩
    | succ i => cases h
  | d :: d2 :: r, o, s, hn, i, x, h => by
    cases i with
    | zero =>
      obtain rfl := Option.some.inj h
      exact ⟨d, [o + 1], s, rfl, rfl, rfl, rfl, rfl, by rw [if_neg (hn d List.mem_cons_self)]⟩
    | succ i =>
      obtain ⟨d', bs, t, h1, h2, h3, h4⟩ := entI_at e (d2 :: r) (o + 1) (stB s (headW d)) (fun d hd => hn d (List.mem_cons_of_mem _ hd)) i x h
      exact ⟨d', bs, t, h1, h2, h3, h4⟩
theorem entO_at (e : Nat) : ∀ (r : List PyData) (o : Nat) (s : St3), (∀ d ∈ r, ItF d ∧ (wayOf d = none → headW d ≠ "ask") ∧ ∀ z ∈ way d, headW z ≠ "ask") → ∀ (i : Nat) (x : Ent), (entO e o s r)[i]? = some x → ∃ d bs t, (spread r)[i]? = some d ∧ (leads e o r)[i]? = some bs ∧ (stO s r)[i]? = some t ∧ EntR x d bs t
  | [], _, _, _, _, _, h => nomatch h
  | d :: r, o, s, hF, i, x, h => by
    obtain ⟨hf, hn, hz⟩ := hF d List.mem_cons_self
    rw [spread_cons]
    have hLe : leads e o (d :: r) = (if headW d = "ask" then [o + 1 + (way d).length, if (way d).length = 0 then e else o + 1] else [o + 1 + (way d).length]) :: (chain e (o + 1) (way d).length ++ leads e (o + 1 + (way d).length) r) := by
      rcases hf with h1 | ⟨h1, h2⟩
      · have hw : way d = [] := by unfold way; rw [h1]; rfl
        rw [leads_none h1, hw, if_neg (hn h1)]
        rfl
      · obtain ⟨w, h1⟩ := Option.isSome_iff_exists.mp h1
        have hw : way d = w := by unfold way; rw [h1]; rfl
        rw [leads_some h1, hw, if_pos h2]
    rw [hLe]
    cases i with
    | zero =>
      obtain rfl := Option.some.inj h
      exact ⟨d, _, s, rfl, rfl, rfl, rfl, rfl, rfl⟩
    | succ i =>
      have h : (entI e (o + 1) (stB s (headW d)) (way d) ++ entO e (o + 1 + (way d).length) (stB s (headW d)) r)[i]? = some x := h
      show ∃ d' bs t, (way d ++ spread r)[i]? = some d' ∧ (chain e (o + 1) (way d).length ++ leads e (o + 1 + (way d).length) r)[i]? = some bs ∧ (stI (stB s (headW d)) (way d) ++ stO (stB s (headW d)) r)[i]? = some t ∧ EntR x d' bs t
      by_cases hi : i < (way d).length
      · rw [List.getElem?_append_left (by rw [entI_len]; exact hi)] at h
        obtain ⟨d', bs, t, h1, h2, h3, h4⟩ := entI_at e (way d) (o + 1) _ hz i x h
        exact ⟨d', bs, t, by rw [List.getElem?_append_left hi]; exact h1, by rw [List.getElem?_append_left (by rw [chain_len]; exact hi)]; exact h2, by rw [List.getElem?_append_left (by rw [stI_len]; exact hi)]; exact h3, h4⟩
      · have hi : (way d).length ≤ i := by omega
        rw [List.getElem?_append_right (by rw [entI_len]; exact hi), entI_len] at h
        obtain ⟨d', bs, t, h1, h2, h3, h4⟩ := entO_at e r (o + 1 + (way d).length) _ (fun d hd => hF d (List.mem_cons_of_mem _ hd)) (i - (way d).length) x h
        exact ⟨d', bs, t, by rw [List.getElem?_append_right hi]; exact h1, by rw [List.getElem?_append_right (by rw [chain_len]; exact hi), chain_len]; exact h2, by rw [List.getElem?_append_right (by rw [stI_len]; exact hi), stI_len]; exact h3, h4⟩
end LY

namespace K04
open PySem PySem.Spec PyProof.Rows L2 TL GG OO LY
def topS (i : Nat) : Stmt := PySem.Challenge.pw_pulledout_k04_whole_rows_of_hands_and_wo.main.body.getD i (.Pass ⟨0, 0, 0, 0⟩)
abbrev s_PullError : Stmt := topS 1
abbrev s_InvalidItem : Stmt := topS 2
abbrev s_InvalidNumber : Stmt := topS 3
abbrev s_is_name : Stmt := topS 6
abbrev s_is_integer : Stmt := topS 7
abbrev s_is_item : Stmt := topS 14
abbrev s_is_way_item : Stmt := topS 15
abbrev s_is_ask_head : Stmt := topS 16
abbrev s_is_ask : Stmt := topS 17
abbrev s_is_bare : Stmt := topS 18
abbrev s_is_named : Stmt := topS 19
abbrev s_is_word : Stmt := topS 20
abbrev s_Layout : Stmt := topS 27
abbrev s_check_items : Stmt := topS 28
abbrev s_opening_of : Stmt := topS 29
abbrev s_check_places : Stmt := topS 30
abbrev s_check_way_out : Stmt := topS 31
abbrev s_way_out_of : Stmt := topS 32
abbrev s_spread : Stmt := topS 33
abbrev s_leads : Stmt := topS 34
abbrev s_standings : Stmt := topS 35
abbrev s_standing_behind : Stmt := topS 36
abbrev s_may_stand : Stmt := topS 37
abbrev s_ends_badly : Stmt := topS 38
abbrev s_HandRow : Stmt := topS 42
abbrev s_WorkRow : Stmt := topS 43
abbrev s_checked : Stmt := topS 44
abbrev s_checked_place : Stmt := topS 45
abbrev s_standing : Stmt := topS 46
abbrev s_places_of : Stmt := topS 47
abbrev s_l_numbers : Stmt := topS 49
abbrev s_l_pool : Stmt := topS 50
abbrev s_l_draw : Stmt := topS 51
abbrev s_l_pick : Stmt := topS 52
abbrev s_l_closing : Stmt := topS 53
abbrev s_l_way_out : Stmt := topS 54
abbrev s_l_body : Stmt := topS 55
abbrev s_l_hand : Stmt := topS 56
abbrev s_l_work : Stmt := topS 57
abbrev s_l_laid : Stmt := topS 58
abbrev s_l_flags : Stmt := topS 59
abbrev s_l_entry_right : Stmt := topS 60
abbrev s_l_refused : Stmt := topS 61
abbrev s_l_row_right : Stmt := topS 62
abbrev s_law : Stmt := topS 63
/-- built-ins by their names -/
structure Blt (K : PySem.W.Frag) (mg : Str → Option Value) : Prop where
  m_max : mg "max" = none
  m_range : mg "range" = none
  m_len : mg "len" = none
  m_int : mg "int" = none
  m_bool : mg "bool" = none
  m_isinstance : mg "isinstance" = none
  m_str : mg "str" = none
  m_all : mg "all" = none
  m_any : mg "any" = none
  m_tuple : mg "tuple" = none
  m_list : mg "list" = none
  m_enumerate : mg "enumerate" = none
  m_repr : mg "repr" = none
  m_min : mg "min" = none
  m_dict : mg "dict" = none
section
variable {P : Program} {w : World} {K : PySem.W.Frag} {mg : Str → Option Value} {base : Heap}
def spNum (K : PySem.W.Frag) : Sp := fun vs H Q _ => ∃ (c s : Int) (a : Addr) (zs : List Int), vs = [.int c, .int s, .ref a] ∧ SqL K H a (zs.map V.int) ∧ (0 ≤ s ∧ s ≤ 100000) ∧ zs.length ≤ 1000 ∧ (∀ z ∈ zs, 0 < z ∧ z < 1000000) ∧
  ∀ (H' : Hp) (p : Addr) (ns : List Int), Same H H' → H p = none → H' p = some (.lst (ns.map V.int)) → ns.length = zs.length → Below zs ns → Q (.ref p) H'
theorem small_mod (x : Int) : (x % 2147483629).natAbs < 2 ^ 64 := by
  have h1 := Int.emod_nonneg x (show (2147483629 : Int) ≠ 0 by decide)
  have h2 := Int.emod_lt_of_pos x (show (0 : Int) < 2147483629 by decide)
  omega
theorem scNum : FnScope ["_law_cell", "_law_salt", "_law_sizes", "_law_whole", "_law_left", "_law_result", "_law_k", "_law_one"] ["_law_cell", "_law_salt", "_law_sizes"] (defScope s_l_numbers) := ⟨rfl, rfl, rfl, by decide +kernel, rfl, by decide +kernel, by decide +kernel⟩
theorem ok_num {f : Addr} {fd : FuncData} (F : Fun K "_law_numbers" "_law_numbers" s_l_numbers f fd) (mm : mg "max" = none) (mr : mg "range" = none) (ml : mg "len" = none) : FnOk P w K mg base CX0 1 f fd ["_law_cell", "_law_salt", "_law_sizes"] (spNum K) := by
  refine F.ok scNum (fun vs H Q E h => ?_) (fun cdv A outer s H vs Q E hr h => ?_)
  · obtain ⟨c, s, a, zs, rfl, _⟩ := h
    rfl
  · obtain ⟨c, sa, a, zs, rfl, hS, ⟨hs0, hs1⟩, hlen, hz, q⟩ := h
    refine ⟨_, (pss_cons (ps_set (i := 3) scNum.nd rfl (.inl rfl) (pe_callB (call_max2 rfl) (by rfl) mm (by decide +kernel) (pa_cons (pv 0) (pa_cons (pe_op op_sub (pe_un un_neg pe_int) (pv 0)) pa_nil)))) 
        (pss_cons (ps_set (i := 4) scNum.nd rfl (.inl rfl) (pv 3)) 
        (pss_cons (ps_set (i := 5) scNum.nd rfl (.inl rfl) (pe_lst pa_nil)) 
        (pss_cons (ps_for PassesOwn.never rfl (pi_range1 rfl mr (pa_cons (pe_callB call_len_seq (by rfl) ml PySem.boot_len (pa_cons (pv 2) pa_nil)) pa_nil)) (pg_name (i := 6) scNum.nd rfl (.inl rfl)) 
          (pss_one (ps_if (PW.pt (pw_and (pt_cmpR op_ge (pv 3) (pe_op op_pow pe_int pe_int) (nomark _)) (pw_and1 (pt_cmpR op_gt (pv 4) pe_int (nomark _))))) 
            (pss_cons (ps_expr (pe_bm PySem.F.plainAttrs_list PySem.F.slot_list_append PySem.F.type_list_append mt_append (pv 5) (pa_cons (pe_op op_mod (pv 4) (pe_ix ix_list (pv 2) (pv 6) (fun _ _ => rfl))) pa_nil))) 
            (pss_one (ps_set (i := 4) scNum.nd rfl (.inl rfl) (pe_op op_fdivN (pv 4) (pe_ix ix_list (pv 2) (pv 6) (fun _ _ => rfl)))))) 
            (pss_cons (ps_set (i := 7) scNum.nd rfl (.inl rfl) (pe_op op_mod (pe_op op_pow (pe_op op_add (pe_op op_add (pe_op op_mod (pv 3) pe_int) (pe_op op_mul pe_int (pv 1))) pe_int) pe_int) pe_int)) 
            (pss_cons (ps_set (i := 7) scNum.nd rfl (.inl rfl) (pe_op op_mod (pe_op op_mul (pe_op op_add (pv 7) (pe_op op_mul pe_int (pe_op op_add (pv 6) pe_int))) (pe_op op_add (pv 6) pe_int)) pe_int)) 
            (pss_cons (ps_set (i := 7) scNum.nd rfl (.inl rfl) (pe_op op_mod (pe_op op_mul (pe_op op_mod (pe_op op_pow (pv 7) pe_int) pe_int) pe_int) pe_int)) 
            (pss_one (ps_expr (pe_bm PySem.F.plainAttrs_list PySem.F.slot_list_append PySem.F.type_list_append mt_append (pv 5) (pa_cons (pe_op op_mod (pe_op op_fdivN (pv 7) pe_int) (pe_ix ix_list (pv 2) (pv 6) (fun _ _ => rfl))) pa_nil)))))))))) 
        (pss_one (ps_ret (pv 5))))))), ?_⟩
    -- whole = max(cell, -1 - cell); left = whole; result = []
    refine ⟨_, rfl, _, rfl, _, rfl, _, _, rfl, rfl, _, _, rfl, _, rfl, ?_⟩
    generalize hwh : (if -1 - c > c then -1 - c else c) = wh
    refine ⟨Nat.zero_le _, fun p hp => ?_⟩
    have s0 : Same H (upd H p (.lst [])) := same_upd hp
    refine ⟨_, rfl, a, zs.map V.int, rfl, .inl (s0.seq hS), _, rfl, by rw [List.length_map]; omega, by rw [List.length_map]; omega, for_range (lo := 0) (fun i σ H' => ∃ (left : Int) (ns : List Int) (y6 y7 : Option V), σ = [some (.int c), some (.int sa), some (.ref a), some (.int wh), some (.int left), some (.ref p), y6, y7] ∧ Same H H' ∧ H' p = some (.lst (ns.map V.int)) ∧ ns.length = i ∧ Below zs ns)
      ⟨wh, [], none, none, rfl, s0, upd_same, rfl, fun i z n _ h => by simp at h⟩ ?_ ?_⟩
    · rintro i σ H' hi ⟨left, ns, y6, y7, rfl, s1, hp1, hn, hb⟩
      have hi2 : i < zs.length := by
        rw [List.length_map] at hi
        omega
      have hzi : zs[i]? = some zs[i] := List.getElem?_eq_getElem hi2
      obtain ⟨hz0, hz1⟩ := hz zs[i] (List.getElem_mem hi2)
      have hat : atI (zs.map V.int) (0 + (i : Int)) = some (.int zs[i]) := by
        rw [Int.zero_add]
        exact atI_nat (by rw [List.getElem?_map, hzi]; rfl)
      have fin : ∀ (r : Int), 0 ≤ r → r < zs[i] → ns.length < sizeLine ∧ Same H (upd H' p (.lst (ns.map V.int ++ [V.int r]))) ∧ (upd H' p (.lst (ns.map V.int ++ [V.int r]))) p = some (.lst ((ns ++ [r]).map V.int)) ∧ (ns ++ [r]).length = i + 1 ∧ Below zs (ns ++ [r]) := fun r h0 h1 =>
        ⟨small1000 (by omega), same_st s1 hp, by rw [upd_same, List.map_append]; rfl, by rw [List.length_append, List.length_singleton, hn], below_snoc hb (by rw [hn]; exact hzi) h0 h1⟩
      refine ⟨_, rfl, _, _, rfl, rfl, ⟨by decide, by decide, by decide⟩, _, _, rfl, rfl, _, rfl, ite2 (fun _ => ⟨_, rfl, _, _, rfl, rfl, _, rfl, ite2 (fun _ => ?thn) (fun _ => ?els1)⟩) (fun _ => iteF ?els2)⟩
      case thn =>
        obtain ⟨f1, f2, f3, f4, f5⟩ := fin (left % zs[i]) (Int.emod_nonneg _ (by omega)) (Int.emod_lt_of_pos _ hz0)
        refine ⟨_, rfl, .inl ⟨rfl, _, .inl (.inl hp1)⟩, _, rfl, _, rfl, _, rfl, a, zs.map V.int, _, _, rfl, rfl, s1.seq hS, hat, _, _, rfl, rfl, hz0, p, _, _, rfl, rfl, hp1, (by rw [List.length_map]; exact f1), ?_⟩
        refine ⟨_, rfl, _, rfl, _, rfl, a, zs.map V.int, _, _, rfl, rfl, f2.seq hS, hat, _, _, rfl, rfl, ⟨by omega, by omega⟩, ?_⟩
        exact ⟨_, _, _, _, rfl, f2, f3, f4, f5⟩
      all_goals
        refine ⟨_, rfl, _, _, rfl, rfl, by show (0 : Int) < 2147483629; decide, _, rfl, _, _, rfl, rfl, .inl ⟨by decide, by decide⟩, _, _, rfl, rfl, _, _, rfl, rfl, _, _, rfl, rfl, ⟨by decide, by decide, ?b1⟩, _, _, rfl, rfl, by show (0 : Int) < 2147483647; decide, ?_⟩
        case b1 =>
          have h1 := Int.emod_nonneg wh (show (2147483629 : Int) ≠ 0 by decide)
          have h2 := Int.emod_lt_of_pos wh (show (0 : Int) < 2147483629 by decide)
          show (wh % 2147483629 + 7919 * sa + 1).natAbs < 2 ^ 64
          omega
        refine ⟨_, rfl, _, rfl, _, _, rfl, rfl, _, _, rfl, rfl, .inl ⟨by decide, by decide⟩, _, _, rfl, rfl, _, rfl, _, _, rfl, rfl, _, _, rfl, rfl, .inr ⟨?b2, ?b3⟩, _, _, rfl, rfl, by show (0 : Int) < 2147483629; decide, ?_⟩
        case b2 =>
          show -(2 ^ 64) < (0 + (i : Int)) + 3
          omega
        case b3 =>
          show (0 + (i : Int)) + 3 < 2 ^ 64
          omega
        refine ⟨_, rfl, _, _, rfl, rfl, ⟨by decide, by decide, small_mod _⟩, _, _, rfl, rfl, by show (0 : Int) < 2147483647; decide, _, _, rfl, rfl, .inr ⟨by decide, by decide⟩, _, _, rfl, rfl, by show (0 : Int) < 2147483629; decide, ?_⟩
        have fe := fun r : Int => fin (r % zs[i]) (Int.emod_nonneg _ (by omega)) (Int.emod_lt_of_pos _ hz0)
        refine ⟨_, rfl, .inl ⟨rfl, _, .inl (.inl hp1)⟩, _, rfl, _, _, rfl, rfl, ⟨by decide, by decide⟩, _, rfl, _, rfl, a, zs.map V.int, _, _, rfl, rfl, s1.seq hS, hat, _, _, rfl, rfl, hz0, p, _, _, rfl, rfl, hp1, (by rw [List.length_map]; exact (fe 0).1), ?_⟩
        exact ⟨_, _, _, _, rfl, (fe _).2.1, (fe _).2.2.1, (fe _).2.2.2.1, (fe _).2.2.2.2⟩
    · rintro σ H' ⟨left, ns, y6, y7, rfl, s1, hp1, hn, hb⟩
      exact ⟨_, rfl, q H' p ns s1 hp hp1 (by rw [hn, List.length_map]; omega) hb⟩
def spPool (K : PySem.W.Frag) : Sp := fun vs H Q _ => ∃ (c sa m : Int), vs = [.int c, .int sa, .int m] ∧ (0 ≤ sa ∧ sa ≤ 100000) ∧ (0 ≤ m ∧ m ≤ 1000) ∧ ∀ R H' p, Same H R → Rest p R H' → Same H H' → Q (.ref p) H'
def spDraw (K : PySem.W.Frag) : Sp := fun vs H Q _ => ∃ (p : Addr) (m : Int) (R : Hp), vs = [.ref p, .int m] ∧ 0 < m ∧ Rest p R H ∧ ∀ r H', 0 ≤ r → r < m → Go p R H R H' → Q (.int r) H'
def spPick (K : PySem.W.Frag) : Sp := fun vs H Q _ => ∃ (p a : Addr) (R : Hp) (xs : List V), vs = [.ref p, .ref a] ∧ SqL K R a xs ∧ 0 < xs.length ∧ Rest p R H ∧ ∀ x H', x ∈ xs → Go p R H R H' → Q x H'
theorem sc_l_pool : FnScope ["_law_cell", "_law_salt", "_law_many"] ["_law_cell", "_law_salt", "_law_many"] (defScope s_l_pool) := ⟨rfl, rfl, rfl, by decide +kernel, rfl, by decide +kernel, by decide +kernel⟩
theorem ok_l_pool {f : Addr} {fd : FuncData} (F : Fun K "_law_pool" "_law_pool" s_l_pool f fd) (T : Blt K mg) {f1 : Addr} {fd1 : FuncData} (F_l_numbers : Fun K "_law_numbers" "_law_numbers" s_l_numbers f1 fd1) (b_l_numbers : Binds K fd1 ["_law_cell", "_law_salt", "_law_sizes"] []) (g_l_numbers : mg "_law_numbers" = some (.ref f1)) (G_l_numbers : FnOk P w K mg base CX0 1 f1 fd1 ["_law_cell", "_law_salt", "_law_sizes"] (spNum K)) : FnOk P w K mg base CX0 2 f fd ["_law_cell", "_law_salt", "_law_many"] (spPool K) := by
  refine F.ok sc_l_pool (fun vs H Q E h => ?_) (fun cdv A outer s H vs Q E hr h => ?_)
  · obtain ⟨c, sa, m, rfl, _⟩ := h
    rfl
  · obtain ⟨c, sa, m, rfl, hsa, ⟨hm0, hm1⟩, q⟩ := h
    refine ⟨_, (pss_one (ps_ret (pe_lst (pa_cons (pe_call G_l_numbers hr (by rfl) g_l_numbers F_l_numbers.kp b_l_numbers .nil pass0 (pa_cons (pv 0) (pa_cons (pv 1) (pa_cons (pe_op op_rep (pe_lst (pa_cons pe_int pa_nil)) (pv 2)) pa_nil)))) (pa_cons pe_int pa_nil))))), ?_⟩
    have em : (m.toNat : Int) = m := by omega
    refine ⟨_, rfl, _, rfl, (by show 1 ≤ sizeLine; decide), fun l hl => ⟨_, rfl, l, m, [V.int 420], rfl, rfl, upd_same, by omega, by omega, ?z1, fun r hr => ?_⟩⟩
    case z1 =>
      show 1 * m.toNat ≤ sizeLine
      exact Nat.le_of_lt (small1000 (by omega))
    have el : (List.replicate m.toNat [V.int 420]).flatten = (List.replicate m.toNat (420 : Int)).map V.int := by
      generalize m.toNat = j
      induction j with
      | zero => rfl
      | succ j ih =>
        rw [List.replicate_succ, List.replicate_succ, List.flatten_cons, ih]
        rfl
    have s1 : Same H (upd (upd H l (.lst [V.int 420])) r (.lst (List.replicate m.toNat [V.int 420]).flatten)) := (same_upd hl).trans (same_upd hr)
    refine ⟨c, sa, r, List.replicate m.toNat 420, rfl, .inl (.inl (by rw [upd_same, el])), hsa, by rw [List.length_replicate]; omega, (fun z hz => by rw [(List.mem_replicate.mp hz).2]; decide), fun H3 d ds s9 hdn ed hdl hb => ?_⟩
    refine ⟨(by show 2 ≤ sizeLine; decide), fun p hp => ?_⟩
    have s3 : Same H H3 := s1.trans s9
    have hHd : H d = none := s1.free hdn
    have hpd : d ≠ p := fun e => by
      rw [e, hp] at ed
      cases ed
    refine q (upd H d (.lst (ds.map V.int))) _ p (same_upd hHd) ⟨fun b x e => ?_, ?_, d, ds, 0, upd_same, upd_same, by decide⟩ (s3.trans (same_upd hp))
    · by_cases h : b = d
      · rw [h, upd_same] at e
        rw [h, upd_ne hpd, ed, e]
      · rw [upd_ne h] at e
        exact (s3.trans (same_upd hp)) b x e
    · rw [upd_ne hpd.symm]
      exact s3.free hp
theorem sc_l_draw : FnScope ["_law_pool_here", "_law_many", "_law_at"] ["_law_pool_here", "_law_many"] (defScope s_l_draw) := ⟨rfl, rfl, rfl, by decide +kernel, rfl, by decide +kernel, by decide +kernel⟩
theorem ok_l_draw {f : Addr} {fd : FuncData} (F : Fun K "_law_draw" "_law_draw" s_l_draw f fd) (T : Blt K mg) : FnOk P w K mg base CX0 1 f fd ["_law_pool_here", "_law_many"] (spDraw K) := by
  refine F.ok sc_l_draw (fun vs H Q E h => ?_) (fun cdv A outer s H vs Q E hr h => ?_)
  · obtain ⟨p, m, R, rfl, _⟩ := h
    rfl
  · obtain ⟨p, m, R, rfl, hm, k, q⟩ := h
    refine ⟨_, (pss_cons (ps_set (i := 2) sc_l_draw.nd rfl (.inl rfl) (pe_ix ix_list (pv 0) pe_int (fun _ _ => rfl))) 
        (pss_cons (ps_asg (pe_op op_add (pv 2) pe_int) (pg_sub (pv 0) pe_int set_list)) 
        (pss_one (ps_ret (pe_ifExp (pt_cmpR op_lt (pv 2) (pe_callB call_len_seq (by rfl) T.m_len PySem.boot_len (pa_cons (pe_ix ix_list (pv 0) pe_int (fun _ _ => rfl)) pa_nil)) (nomark _)) (pe_op op_mod (pe_callTy call_int1 (by rfl) T.m_int (by decide +kernel) (pa_cons (pe_ix ix_seq (pe_ix ix_list (pv 0) pe_int (fun _ _ => rfl)) (pv 2) (fun _ _ => rfl)) pa_nil)) (pv 1)) pe_int))))), ?_⟩
    obtain ⟨s0, hRp, d, ns, n, hp, hd, hn⟩ := id k
    have hdp : d ≠ p := fun e => by
      rw [e, hRp] at hd
      cases hd
    have g : Go p R H R (upd H p (.lst [.ref d, .int (n + 1)])) := ⟨Same.refl _, ⟨same_st s0 hRp, hRp, d, ns, n + 1, upd_same, hd, by omega⟩, fun b hb o e => by rw [upd_ne hb]; exact e, fun _ _ _ h => h⟩
    have hd' : SqL K (upd H p (.lst [.ref d, .int (n + 1)])) d (ns.map V.int) := .inl (.inl (g.rest.1 _ _ hd))
    refine ⟨_, rfl, p, _, _, _, rfl, rfl, .inl (.inl hp), rfl, ?_⟩
    refine ⟨_, rfl, _, _, rfl, rfl, _, rfl, p, _, _, 1, rfl, rfl, hp, rfl, ?_⟩
    refine ⟨_, rfl, _, rfl, p, _, _, _, rfl, rfl, .inl (.inl upd_same), rfl, d, _, rfl, .inl hd', _, _, rfl, rfl, _, rfl, ite2 (fun h1 => ?_) (fun h1 => ?_)⟩
    · have h1 : n < ((ns.map V.int).length : Int) := of_decide_eq_true h1
      rw [List.length_map] at h1
      have hi : n.toNat < ns.length := by omega
      obtain ⟨v, hat, hv⟩ := at_int (xs := ns.map V.int) hn (by rw [List.length_map]; exact hi)
      obtain ⟨u, _, rfl⟩ := List.mem_map.mp hv
      refine ⟨_, rfl, p, _, _, _, rfl, rfl, .inl (.inl upd_same), rfl, _, rfl, .inl ⟨d, _, _, _, rfl, rfl, hd', hat, .inl ⟨_, rfl, _, rfl, _, _, rfl, rfl, hm, ?_⟩⟩⟩
      exact q _ _ (Int.emod_nonneg _ (by omega)) (Int.emod_lt_of_pos _ hm) g
    · exact q 0 _ (by decide) hm g
theorem sc_l_pick : FnScope ["_law_pool_here", "_law_some"] ["_law_pool_here", "_law_some"] (defScope s_l_pick) := ⟨rfl, rfl, rfl, by decide +kernel, rfl, by decide +kernel, by decide +kernel⟩
theorem ok_l_pick {f : Addr} {fd : FuncData} (F : Fun K "_law_pick" "_law_pick" s_l_pick f fd) (T : Blt K mg) {f1 : Addr} {fd1 : FuncData} (F_l_draw : Fun K "_law_draw" "_law_draw" s_l_draw f1 fd1) (b_l_draw : Binds K fd1 ["_law_pool_here", "_law_many"] []) (g_l_draw : mg "_law_draw" = some (.ref f1)) (G_l_draw : FnOk P w K mg base CX0 1 f1 fd1 ["_law_pool_here", "_law_many"] (spDraw K)) : FnOk P w K mg base CX0 2 f fd ["_law_pool_here", "_law_some"] (spPick K) := by
  refine F.ok sc_l_pick (fun vs H Q E h => ?_) (fun cdv A outer s H vs Q E hr h => ?_)
  · obtain ⟨p, a, R, xs, rfl, _⟩ := h
    rfl
  · obtain ⟨p, a, R, xs, rfl, hxs, hpos, k, q⟩ := h
    refine ⟨_, (pss_one (ps_ret (pe_ix ix_list (pv 1) (pe_call G_l_draw hr (by rfl) g_l_draw F_l_draw.kp b_l_draw .nil pass0 (pa_cons (pv 0) (pa_cons (pe_callB call_len_seq (by rfl) T.m_len PySem.boot_len (pa_cons (pv 1) pa_nil)) pa_nil))) (fun _ _ => rfl)))), ?_⟩
    refine ⟨_, rfl, _, rfl, _, rfl, a, xs, rfl, .inl (Same.seq k.1 hxs), p, _, R, rfl, by omega, k, fun r H' h0 h1 g => ?_⟩
    have hi : r.toNat < xs.length := by omega
    obtain ⟨v, hat, hv⟩ := at_int h0 hi
    exact ⟨a, xs, r, v, rfl, rfl, Same.seq g.rest.1 hxs, hat, q _ H' hv g⟩
end
def isName (z : Str) : Bool := decide (1 ≤ (z.length : Int)) && decide ((z.length : Int) ≤ 8) && z.cps.toList.all letB
def isNameP : PyData → Bool
  | .str z => isName z
  | _ => false
def isWordP (ws : List Str) : PyData → Bool
  | .str z => ws.any (· == z)
  | _ => false
def isBareP (ws : List Str) : PyData → Bool
  | .tuple [d] => isWordP ws d
  | _ => false
def isNamedP (ws : List Str) : PyData → Bool
  | .tuple [d, e] => isWordP ws d && isNameP e
  | _ => false
def headP (ws : List Str) : PyData → Bool
  | .tuple (d :: _) => isWordP ws d
  | _ => false
abbrev wOpen : List Str := ["look", "hold", "try"]
abbrev wBare : List Str := ["let", "enter", "leave", "touch", "use", "lock", "unlock"]
abbrev wNamed : List Str := ["start"]
abbrev wAsk : List Str := ["ask"]
abbrev wSteps : List Str := ["out", "wait", "empty", "down", "let", "lock", "unlock"]
abbrev wNSteps : List Str := ["mark", "bar", "forget", "idle"]
abbrev wUItems : List Str := ["hold", "enter", "leave", "ask", "use", "start"]
abbrev wUSteps : List Str := ["mark", "wait", "empty", "bar", "forget", "idle", "let"]
def isWayItemP (d : PyData) : Bool := isBareP wBare d || isNamedP wNamed d
def isWayOutP : PyData → Bool
  | .tuple ds => decide (ds.length ≤ 4) && ds.all isWayItemP
  | _ => false
def isAskP : PyData → Bool
  | .tuple [w, m, o] => isWordP wAsk w && (isNameP m && isWayOutP o)
  | _ => false
def isItemP (d : PyData) : Bool := isBareP wOpen d || (isWayItemP d || isAskP d)
def isStepP (d : PyData) : Bool := isBareP wSteps d || isNamedP wNSteps d
def spChk (K : PySem.W.Frag) (g : PyData → Bool) : Sp := fun vs H Q _ => ∃ (x : V) (d : PyData), vs = [x] ∧ Val K H x d ∧ ∀ H', Same H H' → Q (.bl (g d)) H'
def spChkW (K : PySem.W.Frag) (g : List Str → PyData → Bool) : Sp := fun vs H Q _ => ∃ (x : V) (d : PyData) (a : Addr) (ws : List Str), vs = [x, .ref a] ∧ Val K H x d ∧ SqT K H a (ws.map V.str) ∧ ∀ H', Same H H' → Q (.bl (g ws d)) H'
abbrev wOnce : List Str := ["out", "down", "let", "mark"]
abbrev wNotB : List Str := ["look", "hold", "try"]
abbrev wNotW : List Str := ["look", "hold", "try", "let"]
/-- what the module's names hold -/
structure Txt (K : PySem.W.Frag) (mg : Str → Option Value) (lt0 lt1 lt2 lt3 lt4 : Tok) (t0 t1 t2 t3 t4 t5 t6 t7 t8 tF tO dC : Addr) : Prop extends Blt K mg where
  c_LONGEST_NAME : mg "_LONGEST_NAME" = some (.int 8 lt0)
  c_MOST_IN_WAY_OUT : mg "_MOST_IN_WAY_OUT" = some (.int 4 lt1)
  c_MOST_ITEMS : mg "_MOST_ITEMS" = some (.int 14 lt2)
  c_LONGEST_OPENING : mg "_LONGEST_OPENING" = some (.int 4 lt4)
  c_OPENERS : mg "_OPENERS" = some (.ref t0)
  c_BARE_ITEMS : mg "_BARE_ITEMS" = some (.ref t1)
  c_NAMED_ITEMS : mg "_NAMED_ITEMS" = some (.ref t2)
  c_ASKS : mg "_ASKS" = some (.ref t3)
  c_NOT_BEHIND_OPENING : mg "_NOT_BEHIND_OPENING" = some (.ref t7)
  c_NOT_IN_WORKS : mg "_NOT_IN_WORKS" = some (.ref t8)
  c_AT_FIRST : mg "_AT_FIRST" = some (.ref tF)
  c_OPENINGS : mg "_OPENINGS" = some (.ref tO)
  c_CHANGES : mg "_CHANGES" = some (.ref dC)
  w0 : ∀ H, SqT K H t0 (wOpen.map V.str)
  w1 : ∀ H, SqT K H t1 (wBare.map V.str)
  w2 : ∀ H, SqT K H t2 (wNamed.map V.str)
  w3 : ∀ H, SqT K H t3 (wAsk.map V.str)
  w7 : ∀ H, SqT K H t7 (wNotB.map V.str)
  w8 : ∀ H, SqT K H t8 (wNotW.map V.str)
  wF : ∀ H, SqT K H tF [.bl false, .bl false, .bl false]
section
variable {P : Program} {w : World} {K : PySem.W.Frag} {mg : Str → Option Value} {base : Heap} {lt0 lt1 lt2 lt3 lt4 : Tok} {t0 t1 t2 t3 t4 t5 t6 t7 t8 tF tO dC : Addr}
theorem snoc_let {z : Str} {i c : Nat} (hc : z.cps[i]? = some c) : ((z.cps.toList.take (i + 1)).map letB).map V.bl = ((z.cps.toList.take i).map letB).map V.bl ++ [V.bl (letB c)] := by
  have h : z.cps.toList[i]? = some c := by rw [Array.getElem?_toList]; exact hc
  rw [List.take_add_one, h, List.map_append, List.map_append]
  rfl
theorem sc_is_name : FnScope ["value", "letter"] ["value"] (defScope s_is_name) := ⟨rfl, rfl, rfl, by decide +kernel, rfl, by decide +kernel, by decide +kernel⟩
theorem ok_is_name {f : Addr} {fd : FuncData} (F : Fun K "is_name" "is_name" s_is_name f fd) (T : Txt K mg lt0 lt1 lt2 lt3 lt4 t0 t1 t2 t3 t4 t5 t6 t7 t8 tF tO dC) : FnOk P w K mg base CX0 1 f fd ["value"] (spChk K isNameP) := by
  refine F.ok sc_is_name (fun vs H Q E h => ?_) (fun cdv A outer s H vs Q E hr h => ?_)
  · obtain ⟨x, d, rfl, _⟩ := h
    rfl
  · obtain ⟨x, d, rfl, hv, q⟩ := h
    refine ⟨_, (pss_cons (ps_if (PW.pt (pw_or (pt_not (pt_val (pe_callB call_isi (by rfl) T.m_isinstance (by decide +kernel) (pa_cons (pv 0) (pa_cons (pe_bltn (v := .ty "str") (u := .type "str") (by rfl) T.m_str (by decide +kernel) rfl) pa_nil))))) (pw_or1 (pt_not (pt_chain op_le op_le pe_int (pe_callB call_len_str (by rfl) T.m_len PySem.boot_len (pa_cons (pv 0) pa_nil)) (pe_glob (v := .int 8) rfl T.c_LONGEST_NAME ⟨_, rfl⟩)))))) 
          (pss_one (ps_ret pe_bl)) pss_nil) 
        (pss_one (ps_ret (pe_callB (cr_all rfl) (by rfl) T.m_all (by decide +kernel) (pa_cons (pe_lc (own := [("letter", 1)]) (g := gName 1) rfl sc_is_name.nd (pi_str (pv 0)) (blkOk_by (N := ["value", "letter"]) (sc := defScope s_is_name) (by decide +kernel)) (fun _ _ _ _ _ => pg_name (i := 1) sc_is_name.nd rfl (.inl rfl)) (fun _ _ _ _ _ => pts_nil) (fun _ _ _ _ _ => (pe_chain op_le_str op_le_str pe_str (pv 1) pe_str))) pa_nil))))), ?_⟩
    cases hd : isStr d with
    | false =>
      have e : isNameP d = false := by cases d <;> first | rfl | cases hd
      have := q H (Same.refl H)
      rw [e] at this
      exact ⟨_, rfl, _, _, _, _, false, rfl, .ty "str", hv.ty, hd ▸ isi_str d, _, rfl, iteT (iteT this)⟩
    | true =>
      obtain ⟨z, rfl⟩ : ∃ z, d = .str z := by cases d <;> first | exact ⟨_, rfl⟩ | cases hd
      obtain ⟨rfl, hz, _⟩ := hv.str
      have q : ∀ H', Same H H' → Q (.bl (isName z)) H' := q
      refine ⟨_, rfl, _, _, _, _, true, rfl, .ty "str", .base (.str z), kit_ty (by decide +kernel), _, rfl, iteF ⟨_, rfl, z, rfl, Nat.le_of_lt (small1000 hz), _, _, rfl, rfl, _, rfl, ite2 (fun h1 => ⟨_, _, rfl, rfl, _, rfl, ite2 (fun h2 => ?f2) (fun h2 => ?go)⟩) (fun h1 => ⟨_, rfl, iteT ?f1⟩)⟩⟩
      case f1 =>
        have e : isName z = false := by
          unfold isName
          simp only [Bool.not_eq_true] at h1
          rw [h1]
          rfl
        have := q H (Same.refl H)
        rw [e] at this
        exact this
      case f2 =>
        have h2' : decide ((z.length : Int) ≤ 8) = false := by simpa using h2
        have e : isName z = false := by
          unfold isName
          rw [h2', Bool.and_false]
          rfl
        have := q H (Same.refl H)
        rw [e] at this
        exact this
      case go =>
        have h2' : decide ((z.length : Int) ≤ 8) = true := by simpa using h2
        refine ⟨_, rfl, z, rfl, fun D hD => lc_it walk_str (fun i H' => Same H H' ∧ H' D = some (.lst (((z.cps.toList.take i).map letB).map V.bl))) ⟨same_upd hD, upd_same⟩ (fun _ _ _ _ => trivial) ?_ ?_⟩
        · rintro i x H1 H2 hi ⟨s1, h1⟩ ⟨rfl, c, hc, rfl⟩
          have hlt : (((z.cps.toList.take i).map letB).map V.bl).length < sizeLine := by
            rw [List.length_map, List.length_map, List.length_take]
            exact Nat.lt_of_le_of_lt (Nat.min_le_right _ _) (small1000 hz)
          have fin : ∀ r : Bool, r = letB c → ∃ acc, H2 D = some (.lst acc) ∧ acc.length < sizeLine ∧ Same H (upd H2 D (.lst (acc ++ [V.bl r]))) ∧ upd H2 D (.lst (acc ++ [V.bl r])) D = some (.lst (((z.cps.toList.take (i + 1)).map letB).map V.bl)) := fun r hr =>
            ⟨_, h1, hlt, same_st s1 hD, by rw [upd_same, snoc_let hc, hr]⟩
          refine ⟨rfl, yes_then ?_⟩
          refine ⟨_, rfl, _, _, rfl, rfl, _, rfl, ite2 (fun g1 => ⟨_, _, rfl, rfl, fin _ ?_⟩) (fun g1 => fin _ ?_)⟩
          · show (!decide ([122] < [c])) = letB c
            have g1' : (!decide ([c] < [97])) = true := g1
            unfold letB
            rw [g1', Bool.true_and]
          · have g1' : (!decide ([c] < [97])) = false := by
              cases e : (!decide ([c] < [97])) with
              | true => exact absurd e g1
              | false => rfl
            unfold letB
            rw [g1', Bool.false_and]
        · rintro H1 ⟨s1, h1⟩
          refine ⟨D, z.cps.toList.map letB, rfl, .inl (.inl (by rw [h1, List.take_of_length_le (Nat.le_of_eq (Array.length_toList ..))])), ?_⟩
          have e : (z.cps.toList.map letB).all id = isName z := by
            unfold isName
            have h1' : decide (1 ≤ (z.length : Int)) = true := by assumption
            rw [h1', h2', List.all_map]
            rfl
          rw [e]
          exact q H1 s1
theorem sc_is_word : FnScope ["value", "words"] ["value", "words"] (defScope s_is_word) := ⟨rfl, rfl, rfl, by decide +kernel, rfl, by decide +kernel, by decide +kernel⟩
theorem ok_is_word {f : Addr} {fd : FuncData} (F : Fun K "_is_word" "_is_word" s_is_word f fd) (T : Txt K mg lt0 lt1 lt2 lt3 lt4 t0 t1 t2 t3 t4 t5 t6 t7 t8 tF tO dC) : FnOk P w K mg base CX0 1 f fd ["value", "words"] (spChkW K isWordP) := by
  refine F.ok sc_is_word (fun vs H Q E h => ?_) (fun cdv A outer s H vs Q E hr h => ?_)
  · obtain ⟨x, d, a, ws, rfl, _⟩ := h
    rfl
  · obtain ⟨x, d, a, ws, rfl, hv, hw, q⟩ := h
    refine ⟨_, (pss_one (ps_ret (pe_and (pe_callB call_isi (by rfl) T.m_isinstance (by decide +kernel) (pa_cons (pv 0) (pa_cons (pe_bltn (v := .ty "str") (u := .type "str") (by rfl) T.m_str (by decide +kernel) rfl) pa_nil))) (pe_one (pe_cmpR op_in_seq (pv 0) (pv 1) (by rfl)))))), ?_⟩
    refine ⟨_, rfl, _, _, _, _, _, rfl, .ty "str", hv.ty, isi_str d, _, rfl, ite2 (fun hd => ?_) (fun hd => ?_)⟩
    · obtain ⟨z, rfl⟩ : ∃ z, d = .str z := by cases d <;> first | exact ⟨_, rfl⟩ | cases hd
      obtain ⟨rfl, hz, _⟩ := hv.str
      refine ⟨_, rfl, _, rfl, a, _, rfl, .inr hw, rfl, flat_words ws, ?_⟩
      have := q H (Same.refl H)
      show Q (.bl (inV (.str z) (ws.map V.str))) H
      rw [inV_words]
      exact this
    · have e : isWordP ws d = false := by cases d <;> first | rfl | exact absurd rfl hd
      have := q H (Same.refl H)
      rw [e] at this
      exact this
theorem sc_is_bare : FnScope ["value", "words"] ["value", "words"] (defScope s_is_bare) := ⟨rfl, rfl, rfl, by decide +kernel, rfl, by decide +kernel, by decide +kernel⟩
theorem ok_is_bare {f : Addr} {fd : FuncData} (F : Fun K "_is_bare" "_is_bare" s_is_bare f fd) (T : Txt K mg lt0 lt1 lt2 lt3 lt4 t0 t1 t2 t3 t4 t5 t6 t7 t8 tF tO dC) {f1 : Addr} {fd1 : FuncData} (F_is_word : Fun K "_is_word" "_is_word" s_is_word f1 fd1) (b_is_word : Binds K fd1 ["value", "words"] []) (g_is_word : mg "_is_word" = some (.ref f1)) (G_is_word : FnOk P w K mg base CX0 1 f1 fd1 ["value", "words"] (spChkW K isWordP)) : FnOk P w K mg base CX0 2 f fd ["value", "words"] (spChkW K isBareP) := by
  refine F.ok sc_is_bare (fun vs H Q E h => ?_) (fun cdv A outer s H vs Q E hr h => ?_)
  · obtain ⟨x, d, a, ws, rfl, _⟩ := h
    rfl
  · obtain ⟨x, d, a, ws, rfl, hv, hw, q⟩ := h
    refine ⟨_, (pss_one (ps_ret (pe_and (pe_callB call_isi (by rfl) T.m_isinstance (by decide +kernel) (pa_cons (pv 0) (pa_cons (pe_bltn (v := .ty "tuple") (u := .type "tuple") (by rfl) T.m_tuple (by decide +kernel) rfl) pa_nil))) (pe_and (pe_cmpR op_eq (pe_callB call_len_seq (by rfl) T.m_len PySem.boot_len (pa_cons (pv 0) pa_nil)) pe_int (nomark _)) (pe_one (pe_call G_is_word hr (by rfl) g_is_word F_is_word.kp b_is_word .nil pass0 (pa_cons (pe_ix ix_tup (pv 0) pe_int (fun _ _ => rfl)) (pa_cons (pv 1) pa_nil)))))))), ?_⟩
    refine ⟨_, rfl, _, _, _, _, _, rfl, .ty "tuple", hv.ty, isi_tup d, _, rfl, ite2 (fun hd => ?_) (fun hd => ?_)⟩
    · obtain ⟨ds, rfl⟩ : ∃ ds, d = .tuple ds := by cases d <;> first | exact ⟨_, rfl⟩ | cases hd
      obtain ⟨b, xs, rfl, hs, ha, hl, h1000, hget⟩ := hv.tup
      refine ⟨_, rfl, b, xs, rfl, .inr hs, rfl, _, rfl, ite2 (fun h1 => ?_) (fun h1 => ?_)⟩
      · have h1 : xs.length = 1 := by
          have := V.int.inj (of_decide_eq_true h1)
          omega
        obtain ⟨e, rfl⟩ : ∃ e, ds = [e] := List.length_eq_one_iff.mp (by omega)
        obtain ⟨v, hx, hve⟩ := hget 0 e rfl
        exact ⟨_, rfl, b, xs, _, _, rfl, rfl, hs, atI_nat hx, _, rfl, v, e, a, ws, rfl, hve, hw, fun H' s' => q H' s'⟩
      · have e : isBareP ws (.tuple ds) = false := by
          have h1 : xs.length ≠ 1 := fun z => h1 (decide_eq_true (by rw [z]; rfl))
          match ds, hl with
          | [], _ => rfl
          | [_], hl => exact absurd hl h1
          | _ :: _ :: _, _ => rfl
        have := q H (Same.refl H)
        rw [e] at this
        exact this
    · have e : isBareP ws d = false := by cases d <;> first | rfl | exact absurd rfl hd
      have := q H (Same.refl H)
      rw [e] at this
      exact this
theorem sc_is_named : FnScope ["value", "words"] ["value", "words"] (defScope s_is_named) := ⟨rfl, rfl, rfl, by decide +kernel, rfl, by decide +kernel, by decide +kernel⟩
theorem ok_is_named {f : Addr} {fd : FuncData} (F : Fun K "_is_named" "_is_named" s_is_named f fd) (T : Txt K mg lt0 lt1 lt2 lt3 lt4 t0 t1 t2 t3 t4 t5 t6 t7 t8 tF tO dC) {f1 : Addr} {fd1 : FuncData} (F_is_word : Fun K "_is_word" "_is_word" s_is_word f1 fd1) (b_is_word : Binds K fd1 ["value", "words"] []) (g_is_word : mg "_is_word" = some (.ref f1)) (G_is_word : FnOk P w K mg base CX0 1 f1 fd1 ["value", "words"] (spChkW K isWordP)) {f2 : Addr} {fd2 : FuncData} (F_is_name : Fun K "is_name" "is_name" s_is_name f2 fd2) (b_is_name : Binds K fd2 ["value"] []) (g_is_name : mg "is_name" = some (.ref f2)) (G_is_name : FnOk P w K mg base CX0 1 f2 fd2 ["value"] (spChk K isNameP)) : FnOk P w K mg base CX0 2 f fd ["value", "words"] (spChkW K isNamedP) := by
  refine F.ok sc_is_named (fun vs H Q E h => ?_) (fun cdv A outer s H vs Q E hr h => ?_)
  · obtain ⟨x, d, a, ws, rfl, _⟩ := h
    rfl
  · obtain ⟨x, d, a, ws, rfl, hv, hw, q⟩ := h
    refine ⟨_, (pss_cons (ps_if (PW.pt (pw_or (pt_not (pt_val (pe_callB call_isi (by rfl) T.m_isinstance (by decide +kernel) (pa_cons (pv 0) (pa_cons (pe_bltn (v := .ty "tuple") (u := .type "tuple") (by rfl) T.m_tuple (by decide +kernel) rfl) pa_nil))))) (pw_or1 (pt_cmpR op_ne (pe_callB call_len_seq (by rfl) T.m_len PySem.boot_len (pa_cons (pv 0) pa_nil)) pe_int (nomark _))))) 
          (pss_one (ps_ret pe_bl)) pss_nil) 
        (pss_one (ps_ret (pe_and (pe_call G_is_word hr (by rfl) g_is_word F_is_word.kp b_is_word .nil pass0 (pa_cons (pe_ix ix_tup (pv 0) pe_int (fun _ _ => rfl)) (pa_cons (pv 1) pa_nil))) (pe_one (pe_call G_is_name hr (by rfl) g_is_name F_is_name.kp b_is_name .nil pass0 (pa_cons (pe_ix ix_tup (pv 0) pe_int (fun _ _ => rfl)) pa_nil))))))), ?_⟩
    cases hd : isTup d with
    | false =>
      have e : isNamedP ws d = false := by cases d <;> first | rfl | cases hd
      have := q H (Same.refl H)
      rw [e] at this
      exact ⟨_, rfl, _, _, _, _, false, rfl, .ty "tuple", hv.ty, hd ▸ isi_tup d, _, rfl, iteT (iteT this)⟩
    | true =>
      obtain ⟨ds, rfl⟩ : ∃ ds, d = .tuple ds := by cases d <;> first | exact ⟨_, rfl⟩ | cases hd
      obtain ⟨b, xs, rfl, hs, ha, hl, h1000, hget⟩ := hv.tup
      refine ⟨_, rfl, _, _, _, _, true, rfl, .ty "tuple", hv.ty, isi_tup _, _, rfl, iteF ⟨_, rfl, b, xs, rfl, .inr hs, rfl, _, rfl, ite2 (fun h1 => ?_) (fun h1 => ?_)⟩⟩
      · have e : isNamedP ws (.tuple ds) = false := by
          have h1 : xs.length ≠ 2 := fun z => by
            rw [z] at h1
            exact absurd h1 (by decide)
          match ds, hl with
          | [], _ => rfl
          | [_], _ => rfl
          | [_, _], hl => exact absurd hl h1
          | _ :: _ :: _ :: _, _ => rfl
        have := q H (Same.refl H)
        rw [e] at this
        exact this
      · have h1 : xs.length = 2 := by
          by_cases z : xs.length = 2
          · exact z
          · exfalso
            refine h1 ?_
            show (!decide (V.int (xs.length : Int) = V.int 2)) = true
            rw [decide_eq_false (fun k => z (by have := V.int.inj k; omega))]
            rfl
        obtain ⟨e, g, rfl⟩ : ∃ e g, ds = [e, g] := by
          match ds, hl with
          | [e, g], _ => exact ⟨e, g, rfl⟩
          | [], hl => rw [h1] at hl; cases hl
          | [_], hl => rw [h1] at hl; cases hl
          | _ :: _ :: _ :: _, hl => rw [h1] at hl; cases hl
        obtain ⟨v, hx, hve⟩ := hget 0 e rfl
        obtain ⟨v2, hx2, hve2⟩ := hget 1 g rfl
        refine ⟨_, rfl, b, xs, _, _, rfl, rfl, hs, atI_nat hx, _, rfl, v, e, a, ws, rfl, hve, hw, fun H' s' => ⟨_, rfl, ite2 (fun h2 => ?_) (fun h2 => ?_)⟩⟩
        · refine ⟨_, rfl, b, xs, _, _, rfl, rfl, Same.seqT s' hs, atI_nat hx2, v2, g, rfl, hve2.same s', fun H'' s'' => ?_⟩
          have := q H'' (s'.trans s'')
          have e : isNamedP ws (.tuple [e, g]) = isNameP g := by
            show (isWordP ws e && isNameP g) = _
            rw [h2, Bool.true_and]
          rw [e] at this
          exact this
        · have := q H' s'
          have e : isNamedP ws (.tuple [e, g]) = false := by
            show (isWordP ws e && isNameP g) = _
            rw [(by simpa using h2 : isWordP ws e = false), Bool.false_and]
          rw [e] at this
          exact this
theorem bf {b : Bool} (h : ¬ b = true) : b = false := by
  cases b with
  | true => exact absurd rfl h
  | false => rfl
theorem word_str {ws : List Str} {d : PyData} (h : isWordP ws d = true) : ∃ z, d = .str z := by
  cases d <;> first | exact ⟨_, rfl⟩ | cases h
theorem bare_head {ws : List Str} {d : PyData} (h : isBareP ws d = true) : ∃ z r, d = .tuple (.str z :: r) := by
  match d, h with
  | .tuple [e], h =>
    obtain ⟨z, rfl⟩ := word_str (ws := ws) (d := e) h
    exact ⟨z, [], rfl⟩
theorem named_head {ws : List Str} {d : PyData} (h : isNamedP ws d = true) : ∃ z r, d = .tuple (.str z :: r) := by
  match d, h with
  | .tuple [e, g], h =>
    obtain ⟨z, rfl⟩ := word_str (ws := ws) (d := e) (Bool.and_eq_true_iff.mp h).1
    exact ⟨z, [g], rfl⟩
theorem step_head {d : PyData} (h : isStepP d = true) : ∃ z r, d = .tuple (.str z :: r) := by
  unfold isStepP at h
  rcases Bool.or_eq_true_iff.mp h with h | h
  · exact bare_head h
  · exact named_head h
def isInt (n lo hi : Int) : Bool := decide (lo ≤ n) && decide (n ≤ hi)
def spIsInt (K : PySem.W.Frag) : Sp := fun vs H Q _ => ∃ (x : V) (lo hi : Int), vs = [x, .int lo, .int hi] ∧ ((∃ n : Int, x = .int n ∧ Q (.bl (isInt n lo hi)) H) ∨
  (∃ T : String, TyX K H x (.type T) ∧ (kitB T "int" = some false ∨ (kitB T "int" = some true ∧ kitB T "bool" = some true)) ∧ Q (.bl false) H))
theorem sc_is_integer : FnScope ["value", "lowest", "highest"] ["value", "lowest", "highest"] (defScope s_is_integer) := ⟨rfl, rfl, rfl, by decide +kernel, rfl, by decide +kernel, by decide +kernel⟩
theorem ok_is_int {f : Addr} {fd : FuncData} (F : Fun K "is_integer" "is_integer" s_is_integer f fd) (T : Txt K mg lt0 lt1 lt2 lt3 lt4 t0 t1 t2 t3 t4 t5 t6 t7 t8 tF tO dC) : FnOk P w K mg base CX0 1 f fd ["value", "lowest", "highest"] (spIsInt K) := by
  refine F.ok sc_is_integer (fun vs H Q E h => ?_) (fun cdv A outer s H vs Q E hr h => ?_)
  · obtain ⟨x, lo, hi, rfl, _⟩ := h
    rfl
  · obtain ⟨x, lo, hi, rfl, h⟩ := h
    refine ⟨_, (pss_cons (ps_if (PW.pt (pw_or (pt_not (pt_val (pe_callB call_isi (by rfl) T.m_isinstance (by decide +kernel) (pa_cons (pv 0) (pa_cons (pe_bltn (v := .ty "int") (u := .type "int") (by rfl) T.m_int (by decide +kernel) rfl) pa_nil))))) (pw_or1 (pt_val (pe_callB call_isi (by rfl) T.m_isinstance (by decide +kernel) (pa_cons (pv 0) (pa_cons (pe_bltn (v := .ty "bool") (u := .type "bool") (by rfl) T.m_bool (by decide +kernel) rfl) pa_nil))))))) 
      (pss_one (ps_ret pe_bl)) pss_nil) 
    (pss_one (ps_ret (pe_chain op_le op_le (pv 1) (pv 0) (pv 2))))), ?_⟩
    rcases h with ⟨n, rfl, q⟩ | ⟨t, hx, ht, q⟩
    · refine ⟨_, rfl, _, _, _, _, true, rfl, .ty "int", .base (.int n), kit_ty (by decide +kernel), _, rfl, iteF ⟨_, rfl, _, _, _, _, false, rfl, .ty "bool", .base (.int n), kit_ty (by decide +kernel), _, rfl, iteF ?_⟩⟩
      refine ⟨_, rfl, _, rfl, _, _, rfl, rfl, _, rfl, ite2 (fun h1 => ⟨_, rfl, _, _, rfl, rfl, ?_⟩) (fun h1 => ?_)⟩
      · have e : isInt n lo hi = decide (n ≤ hi) := by
          have h1' : decide (lo ≤ n) = true := h1
          unfold isInt
          rw [h1', Bool.true_and]
        rw [e] at q
        exact q
      · have e : isInt n lo hi = false := by
          have h1' : decide (lo ≤ n) = false := by simpa using h1
          unfold isInt
          rw [h1', Bool.false_and]
        rw [e] at q
        exact q
    · rcases ht with ht | ⟨ht, hb⟩
      · exact ⟨_, rfl, _, _, _, _, false, rfl, .ty "int", hx, kit_ty ht, _, rfl, iteT (iteT q)⟩
      · exact ⟨_, rfl, _, _, _, _, true, rfl, .ty "int", hx, kit_ty ht, _, rfl, iteF ⟨_, rfl, _, _, _, _, true, rfl, .ty "bool", hx, kit_ty hb, _, rfl, iteT q⟩⟩
end
section
variable {P : Program} {w : World} {K : PySem.W.Frag} {mg : Str → Option Value} {base : Heap} {lt0 lt1 lt2 lt3 lt4 : Tok} {t0 t1 t2 t3 t4 t5 t6 t7 t8 tF tO dC : Addr}
theorem sc_is_way_item : FnScope ["value"] ["value"] (defScope s_is_way_item) := ⟨rfl, rfl, rfl, by decide +kernel, rfl, by decide +kernel, by decide +kernel⟩
theorem ok_is_way_item {f : Addr} {fd : FuncData} (F : Fun K "is_way_item" "is_way_item" s_is_way_item f fd) (T : Txt K mg lt0 lt1 lt2 lt3 lt4 t0 t1 t2 t3 t4 t5 t6 t7 t8 tF tO dC) {f1 : Addr} {fd1 : FuncData} (F_is_bare : Fun K "_is_bare" "_is_bare" s_is_bare f1 fd1) (b_is_bare : Binds K fd1 ["value", "words"] []) (g_is_bare : mg "_is_bare" = some (.ref f1)) (G_is_bare : FnOk P w K mg base CX0 2 f1 fd1 ["value", "words"] (spChkW K isBareP)) {f2 : Addr} {fd2 : FuncData} (F_is_named : Fun K "_is_named" "_is_named" s_is_named f2 fd2) (b_is_named : Binds K fd2 ["value", "words"] []) (g_is_named : mg "_is_named" = some (.ref f2)) (G_is_named : FnOk P w K mg base CX0 2 f2 fd2 ["value", "words"] (spChkW K isNamedP)) : FnOk P w K mg base CX0 3 f fd ["value"] (spChk K isWayItemP) := by
  refine F.ok sc_is_way_item (fun vs H Q E h => ?_) (fun cdv A outer s H vs Q E hr h => ?_)
  · obtain ⟨x, d, rfl, _⟩ := h
    rfl
  · obtain ⟨x, d, rfl, hv, q⟩ := h
    refine ⟨_, (pss_one (ps_ret (pe_or (pe_call G_is_bare hr (by rfl) g_is_bare F_is_bare.kp b_is_bare .nil pass0 (pa_cons (pv 0) (pa_cons (pe_glob (v := .ref t1) rfl T.c_BARE_ITEMS rfl) pa_nil))) (pe_one (pe_call G_is_named hr (by rfl) g_is_named F_is_named.kp b_is_named .nil pass0 (pa_cons (pv 0) (pa_cons (pe_glob (v := .ref t2) rfl T.c_NAMED_ITEMS rfl) pa_nil))))))), ?_⟩
    refine ⟨_, rfl, _, d, t1, wBare, rfl, hv, T.w1 _, fun H' s' => ⟨_, rfl, ite2 (fun h1 => ?_) (fun h1 => ⟨_, rfl, _, d, t2, wNamed, rfl, hv.same s', T.w2 _, fun H'' s'' => ?_⟩)⟩⟩
    · have := q H' s'
      rw [(by unfold isWayItemP; rw [h1]; rfl : isWayItemP d = true)] at this
      exact this
    · have := q H'' (s'.trans s'')
      rw [(by unfold isWayItemP; rw [bf h1, Bool.false_or] : isWayItemP d = isNamedP wNamed d)] at this
      exact this
/-- a way out that is not too long -/
def wayLen : PyData → Bool
  | .tuple ds => decide (ds.length ≤ 4)
  | _ => false
/-- an ask but for the items of its way out -/
def isHeadP : PyData → Bool
  | .tuple [w, m, o] => isWordP wAsk w && (isNameP m && wayLen o)
  | _ => false
theorem ask_split {d : PyData} (h : isHeadP d = true) : ∃ w m os, d = .tuple [w, m, .tuple os] ∧ os.length ≤ 4 ∧ isAskP d = os.all isWayItemP := by
  match d, h with
  | .tuple [w, m, o], h =>
    have h1 : (isWordP wAsk w && (isNameP m && wayLen o)) = true := h
    rw [Bool.and_eq_true, Bool.and_eq_true] at h1
    obtain ⟨h1, h2, h3⟩ := h1
    cases o with
    | tuple os =>
      have h4 : os.length ≤ 4 := of_decide_eq_true h3
      refine ⟨w, m, os, rfl, h4, ?_⟩
      show (isWordP wAsk w && (isNameP m && (decide (os.length ≤ 4) && os.all isWayItemP))) = _
      rw [h1, h2, decide_eq_true h4]
      rfl
    | _ => cases h3
theorem ask_head_of {d : PyData} (h : isHeadP d = false) : isAskP d = false := by
  match d, h with
  | .tuple [w, m, .tuple os], h =>
    have h1 : (isWordP wAsk w && (isNameP m && decide (os.length ≤ 4))) = false := h
    show (isWordP wAsk w && (isNameP m && (decide (os.length ≤ 4) && os.all isWayItemP))) = false
    rw [← Bool.and_assoc, ← Bool.and_assoc, Bool.and_assoc (isWordP wAsk w), h1, Bool.false_and]
  | .tuple [w, m, .none], _ => show (_ && (_ && false)) = false; rw [Bool.and_false, Bool.and_false]
  | .tuple [w, m, .bool _], _ => show (_ && (_ && false)) = false; rw [Bool.and_false, Bool.and_false]
  | .tuple [w, m, .int _], _ => show (_ && (_ && false)) = false; rw [Bool.and_false, Bool.and_false]
  | .tuple [w, m, .str _], _ => show (_ && (_ && false)) = false; rw [Bool.and_false, Bool.and_false]
  | .tuple [w, m, .list _], _ => show (_ && (_ && false)) = false; rw [Bool.and_false, Bool.and_false]
  | .tuple [w, m, .dict _], _ => show (_ && (_ && false)) = false; rw [Bool.and_false, Bool.and_false]
  | .tuple [], _ => rfl
  | .tuple [_], _ => rfl
  | .tuple [_, _], _ => rfl
  | .tuple (_ :: _ :: _ :: _ :: _), _ => rfl
  | .none, _ => rfl
  | .bool _, _ => rfl
  | .int _, _ => rfl
  | .str _, _ => rfl
  | .list _, _ => rfl
  | .dict _, _ => rfl
theorem sc_is_ask_head : FnScope ["value", "word", "mark", "way_out"] ["value"] (defScope s_is_ask_head) := ⟨rfl, rfl, rfl, by decide +kernel, rfl, by decide +kernel, by decide +kernel⟩
theorem ok_is_ask_head {f : Addr} {fd : FuncData} (F : Fun K "is_ask_head" "is_ask_head" s_is_ask_head f fd) (T : Txt K mg lt0 lt1 lt2 lt3 lt4 t0 t1 t2 t3 t4 t5 t6 t7 t8 tF tO dC) {f1 : Addr} {fd1 : FuncData} (F_is_word : Fun K "_is_word" "_is_word" s_is_word f1 fd1) (b_is_word : Binds K fd1 ["value", "words"] []) (g_is_word : mg "_is_word" = some (.ref f1)) (G_is_word : FnOk P w K mg base CX0 1 f1 fd1 ["value", "words"] (spChkW K isWordP)) {f2 : Addr} {fd2 : FuncData} (F_is_name : Fun K "is_name" "is_name" s_is_name f2 fd2) (b_is_name : Binds K fd2 ["value"] []) (g_is_name : mg "is_name" = some (.ref f2)) (G_is_name : FnOk P w K mg base CX0 1 f2 fd2 ["value"] (spChk K isNameP)) : FnOk P w K mg base CX0 2 f fd ["value"] (spChk K isHeadP) := by
  refine F.ok sc_is_ask_head (fun vs H Q E h => ?_) (fun cdv A outer s H vs Q E hr h => ?_)
  · obtain ⟨x, d, rfl, _⟩ := h
    rfl
  · obtain ⟨x, d, rfl, hv, q⟩ := h
    refine ⟨_, (pss_cons (ps_if (PW.pt (pw_or (pt_not (pt_val (pe_callB call_isi (by rfl) T.m_isinstance (by decide +kernel) (pa_cons (pv 0) (pa_cons (pe_bltn (v := .ty "tuple") (u := .type "tuple") (by rfl) T.m_tuple (by decide +kernel) rfl) pa_nil))))) (pw_or1 (pt_cmpR op_ne (pe_callB call_len_seq (by rfl) T.m_len PySem.boot_len (pa_cons (pv 0) pa_nil)) pe_int (nomark _)))))
          (pss_one (ps_ret pe_bl)) pss_nil)
        (pss_cons (ps_asg (pv 0) (pg_tup rfl (pgs_cons (pg_name (i := 1) sc_is_ask_head.nd rfl (.inl rfl)) (pgs_cons (pg_name (i := 2) sc_is_ask_head.nd rfl (.inl rfl)) (pgs_cons (pg_name (i := 3) sc_is_ask_head.nd rfl (.inl rfl)) pgs_nil)))))
        (pss_cons (ps_if (PW.pt (pw_or (pt_not (pt_val (pe_call G_is_word hr (by rfl) g_is_word F_is_word.kp b_is_word .nil pass0 (pa_cons (pv 1) (pa_cons (pe_glob (v := .ref t3) rfl T.c_ASKS rfl) pa_nil))))) (pw_or1 (pt_not (pt_val (pe_call G_is_name hr (by rfl) g_is_name F_is_name.kp b_is_name .nil pass0 (pa_cons (pv 2) pa_nil)))))))
          (pss_one (ps_ret pe_bl)) pss_nil)
        (pss_one (ps_ret (pe_and (pe_callB call_isi (by rfl) T.m_isinstance (by decide +kernel) (pa_cons (pv 3) (pa_cons (pe_bltn (v := .ty "tuple") (u := .type "tuple") (by rfl) T.m_tuple (by decide +kernel) rfl) pa_nil))) (pe_one (pe_cmpR op_le (pe_callB call_len_seq (by rfl) T.m_len PySem.boot_len (pa_cons (pv 3) pa_nil)) (pe_glob (v := .int 4) rfl T.c_MOST_IN_WAY_OUT ⟨_, rfl⟩) (nomark _))))))))), ?_⟩
    cases hd : isTup d with
    | false =>
      have e : isHeadP d = false := by cases d <;> first | rfl | cases hd
      have := q H (Same.refl H)
      rw [e] at this
      exact ⟨_, rfl, _, _, _, _, false, rfl, .ty "tuple", hv.ty, hd ▸ isi_tup d, _, rfl, iteT (iteT this)⟩
    | true =>
      obtain ⟨ds, rfl⟩ : ∃ ds, d = .tuple ds := by cases d <;> first | exact ⟨_, rfl⟩ | cases hd
      obtain ⟨b, xs, rfl, hs, ha, hl, h1000, hget⟩ := hv.tup
      refine ⟨_, rfl, _, _, _, _, true, rfl, .ty "tuple", hv.ty, isi_tup _, _, rfl, iteF ⟨_, rfl, b, xs, rfl, .inr hs, rfl, _, rfl, ite2 (fun h1 => ?_) (fun h1 => ?_)⟩⟩
      · have e : isHeadP (.tuple ds) = false := by
          have h1 : xs.length ≠ 3 := fun z => by
            rw [z] at h1
            exact absurd h1 (by decide)
          match ds, hl with
          | [], _ => rfl
          | [_], _ => rfl
          | [_, _], _ => rfl
          | [_, _, _], hl => exact absurd hl h1
          | _ :: _ :: _ :: _ :: _, _ => rfl
        have := q H (Same.refl H)
        rw [e] at this
        exact this
      · have h1 : xs.length = 3 := by
          by_cases z : xs.length = 3
          · exact z
          · exfalso
            refine h1 ?_
            show (!decide (V.int (xs.length : Int) = V.int 3)) = true
            rw [decide_eq_false (fun k => z (by have := V.int.inj k; omega))]
            rfl
        obtain ⟨e1, e2, e3, rfl⟩ : ∃ e1 e2 e3, ds = [e1, e2, e3] := by
          match ds, hl with
          | [e1, e2, e3], _ => exact ⟨e1, e2, e3, rfl⟩
          | [], hl => rw [h1] at hl; cases hl
          | [_], hl => rw [h1] at hl; cases hl
          | [_, _], hl => rw [h1] at hl; cases hl
          | _ :: _ :: _ :: _ :: _, hl => rw [h1] at hl; simp at hl
        obtain ⟨v1, hx1, hv1⟩ := hget 0 e1 rfl
        obtain ⟨v2, hx2, hv2⟩ := hget 1 e2 rfl
        obtain ⟨v3, hx3, hv3⟩ := hget 2 e3 rfl
        have ex : xs = [v1, v2, v3] := by
          match xs, h1, hx1, hx2, hx3 with
          | [a1, a2, a3], _, hx1, hx2, hx3 =>
            cases hx1
            cases hx2
            cases hx3
            rfl
        subst ex
        refine ⟨_, rfl, b, _, rfl, hs, rfl, _, _, rfl, _, _, rfl, _, [], rfl, rfl, ?_⟩
        refine ⟨_, rfl, _, e1, t3, wAsk, rfl, hv1, T.w3 _, fun H' s' => ⟨_, rfl, ite2 (fun g1 => ?_) (fun g1 => ?_)⟩⟩
        · have := q H' s'
          rw [(by show (isWordP wAsk e1 && (isNameP e2 && wayLen e3)) = false; rw [(by simpa using g1 : isWordP wAsk e1 = false)]; rfl : isHeadP (.tuple [e1, e2, e3]) = false)] at this
          exact this
        · have g1 : isWordP wAsk e1 = true := by simpa using g1
          refine ⟨_, rfl, _, e2, rfl, hv2.same s', fun H'' s'' => ⟨_, rfl, ite2 (fun g2 => ?_) (fun g2 => ?_)⟩⟩
          · have := q H'' (s'.trans s'')
            rw [(by show (isWordP wAsk e1 && (isNameP e2 && wayLen e3)) = false; rw [g1, (by simpa using g2 : isNameP e2 = false)]; rfl : isHeadP (.tuple [e1, e2, e3]) = false)] at this
            exact this
          · have g2 : isNameP e2 = true := by simpa using g2
            have hv4 := hv3.same (s'.trans s'')
            have e : isHeadP (.tuple [e1, e2, e3]) = wayLen e3 := by
              show (isWordP wAsk e1 && (isNameP e2 && wayLen e3)) = _
              rw [g1, g2]
              rfl
            have := q H'' (s'.trans s'')
            rw [e] at this
            cases hd3 : isTup e3 with
            | false =>
              have e4 : wayLen e3 = false := by cases e3 <;> first | rfl | cases hd3
              rw [e4] at this
              exact ⟨_, rfl, _, _, _, _, false, rfl, .ty "tuple", hv4.ty, hd3 ▸ isi_tup e3, _, rfl, iteF this⟩
            | true =>
              obtain ⟨os, rfl⟩ : ∃ os, e3 = .tuple os := by cases e3 <;> first | exact ⟨_, rfl⟩ | cases hd3
              obtain ⟨b3, zs, rfl, hs3, _, hl3, _, _⟩ := hv4.tup
              refine ⟨_, rfl, _, _, _, _, true, rfl, .ty "tuple", hv4.ty, isi_tup _, _, rfl, iteT ⟨_, rfl, b3, zs, rfl, .inr hs3, _, _, rfl, rfl, ?_⟩⟩
              have e5 : decide ((zs.length : Int) ≤ 4) = wayLen (.tuple os) := by
                show _ = decide (os.length ≤ 4)
                rw [Bool.eq_iff_iff, decide_eq_true_iff, decide_eq_true_iff]
                omega
              show Q (V.bl (decide ((zs.length : Int) ≤ 4))) _
              rw [e5]
              exact this
theorem sc_is_ask : FnScope ["value", "item"] ["value"] (defScope s_is_ask) := ⟨rfl, rfl, rfl, by decide +kernel, rfl, by decide +kernel, by decide +kernel⟩
theorem ok_is_ask {f : Addr} {fd : FuncData} (F : Fun K "_is_ask" "_is_ask" s_is_ask f fd) (T : Txt K mg lt0 lt1 lt2 lt3 lt4 t0 t1 t2 t3 t4 t5 t6 t7 t8 tF tO dC) {f3 : Addr} {fd3 : FuncData} (F_is_ask_head : Fun K "is_ask_head" "is_ask_head" s_is_ask_head f3 fd3) (b_is_ask_head : Binds K fd3 ["value"] []) (g_is_ask_head : mg "is_ask_head" = some (.ref f3)) (G_is_ask_head : FnOk P w K mg base CX0 2 f3 fd3 ["value"] (spChk K isHeadP)) {f1 : Addr} {fd1 : FuncData} (F_is_way_item : Fun K "is_way_item" "is_way_item" s_is_way_item f1 fd1) (b_is_way_item : Binds K fd1 ["value"] []) (g_is_way_item : mg "is_way_item" = some (.ref f1)) (G_is_way_item : FnOk P w K mg base CX0 3 f1 fd1 ["value"] (spChk K isWayItemP)) : FnOk P w K mg base CX0 5 f fd ["value"] (spChk K isAskP) := by
  refine F.ok sc_is_ask (fun vs H Q E h => ?_) (fun cdv A outer s H vs Q E hr h => ?_)
  · obtain ⟨x, d, rfl, _⟩ := h
    rfl
  · obtain ⟨x, d, rfl, hv0, q0⟩ := h
    refine ⟨_, (pss_one (ps_ret (pe_and (pe_call G_is_ask_head (hr.mono (by decide)) (by rfl) g_is_ask_head F_is_ask_head.kp b_is_ask_head .nil pass0 (pa_cons (pv 0) pa_nil)) (pe_one (pe_callB (cr_all rfl) (by rfl) T.m_all (by decide +kernel) (pa_cons (pe_lc (own := [("item", 1)]) (g := gName 1) rfl sc_is_ask.nd (pi_tup (pe_ix ix_tup (pv 0) pe_int (fun _ _ => rfl))) (blkOk_by (N := ["value", "item"]) (sc := defScope s_is_ask) (by decide +kernel)) (fun _ _ _ _ _ => pg_name (i := 1) sc_is_ask.nd rfl (.inl rfl)) (fun _ _ _ _ _ => pts_nil) (fun _ _ _ _ _ => (pe_call G_is_way_item (hr.mono (by decide)) (by rfl) g_is_way_item F_is_way_item.kp b_is_way_item .nil pass0 (pa_cons (pv 1) pa_nil)))) pa_nil)))))), ?_⟩
    refine ⟨_, rfl, _, d, rfl, hv0, fun H0 s0 => ⟨_, rfl, ite2 (fun g1 => ?_) (fun g1 => ?_)⟩⟩
    · obtain ⟨w1, m1, ds, rfl, h4, eA⟩ := ask_split g1
      obtain ⟨b0, xs0, rfl, hs0, _, hl0, _, hget0⟩ := (hv0.same s0).tup
      obtain ⟨v3, hx3, hv⟩ := hget0 2 (.tuple ds) rfl
      obtain ⟨b, xs, rfl, hs, ha, hl, h1000, hget⟩ := hv.tup
      have q : ∀ H', Same H0 H' → Q (V.bl (ds.all isWayItemP)) H' := fun H' s' => by
        have := q0 H' (s0.trans s')
        rw [eA] at this
        exact this
      refine ⟨_, rfl, b0, xs0, _, _, rfl, rfl, hs0, atI_nat (j := 2) hx3, b, rfl, ⟨_, hs⟩, fun D hD => ?_⟩
      refine lc_tup (xs := xs) (fun i H' => Same H0 H' ∧ H' D = some (.lst (((ds.take i).map isWayItemP).map V.bl))) ⟨same_upd hD, upd_same⟩ (fun i H' _ h => Same.seqT h.1 hs) ?_ ?_
      · rintro i y H1 hy ⟨s1, h1D⟩
        have hi : i < ds.length := by
          have := (List.getElem?_eq_some_iff.mp hy).1
          omega
        obtain ⟨v, hxv, hve⟩ := hget i ds[i] (List.getElem?_eq_getElem hi)
        have ey : y = v := Option.some.inj (hy.symm.trans hxv)
        subst ey
        refine ⟨rfl, yes_then ?_⟩
        refine ⟨_, rfl, _, ds[i], rfl, hve.same s1, fun H2 s2 => ⟨_, s2 _ _ h1D, ?_, same_st (s1.trans s2) hD, ?_⟩⟩
        · rw [List.length_map, List.length_map, List.length_take]
          exact Nat.lt_of_le_of_lt (Nat.min_le_right _ _) (small1000 h1000)
        · rw [upd_same, List.take_add_one, List.getElem?_eq_getElem hi, List.map_append, List.map_append]
          rfl
      · rintro H1 ⟨s1, h1D⟩
        refine ⟨D, ds.map isWayItemP, rfl, .inl (.inl (by rw [h1D, List.take_of_length_le (by omega)])), ?_⟩
        have e : ds.all isWayItemP = (ds.map isWayItemP).all id := by
          rw [List.all_map]
          rfl
        have := q H1 s1
        rw [e] at this
        exact this
    · have := q0 H0 s0
      rw [ask_head_of (by simpa using g1)] at this
      exact this
theorem sc_is_item : FnScope ["value"] ["value"] (defScope s_is_item) := ⟨rfl, rfl, rfl, by decide +kernel, rfl, by decide +kernel, by decide +kernel⟩
theorem ok_is_item {f : Addr} {fd : FuncData} (F : Fun K "is_item" "is_item" s_is_item f fd) (T : Txt K mg lt0 lt1 lt2 lt3 lt4 t0 t1 t2 t3 t4 t5 t6 t7 t8 tF tO dC) {f1 : Addr} {fd1 : FuncData} (F_is_bare : Fun K "_is_bare" "_is_bare" s_is_bare f1 fd1) (b_is_bare : Binds K fd1 ["value", "words"] []) (g_is_bare : mg "_is_bare" = some (.ref f1)) (G_is_bare : FnOk P w K mg base CX0 2 f1 fd1 ["value", "words"] (spChkW K isBareP)) {f2 : Addr} {fd2 : FuncData} (F_is_way_item : Fun K "is_way_item" "is_way_item" s_is_way_item f2 fd2) (b_is_way_item : Binds K fd2 ["value"] []) (g_is_way_item : mg "is_way_item" = some (.ref f2)) (G_is_way_item : FnOk P w K mg base CX0 3 f2 fd2 ["value"] (spChk K isWayItemP)) {f3 : Addr} {fd3 : FuncData} (F_is_ask : Fun K "_is_ask" "_is_ask" s_is_ask f3 fd3) (b_is_ask : Binds K fd3 ["value"] []) (g_is_ask : mg "_is_ask" = some (.ref f3)) (G_is_ask : FnOk P w K mg base CX0 5 f3 fd3 ["value"] (spChk K isAskP)) : FnOk P w K mg base CX0 6 f fd ["value"] (spChk K isItemP) := by
  refine F.ok sc_is_item (fun vs H Q E h => ?_) (fun cdv A outer s H vs Q E hr h => ?_)
  · obtain ⟨x, d, rfl, _⟩ := h
    rfl
  · obtain ⟨x, d, rfl, hv, q⟩ := h
    refine ⟨_, (pss_one (ps_ret (pe_or (pe_call G_is_bare (hr.mono (by decide)) (by rfl) g_is_bare F_is_bare.kp b_is_bare .nil pass0 (pa_cons (pv 0) (pa_cons (pe_glob (v := .ref t0) rfl T.c_OPENERS rfl) pa_nil))) (pe_or (pe_call G_is_way_item (hr.mono (by decide)) (by rfl) g_is_way_item F_is_way_item.kp b_is_way_item .nil pass0 (pa_cons (pv 0) pa_nil)) (pe_one (pe_call G_is_ask hr (by rfl) g_is_ask F_is_ask.kp b_is_ask .nil pass0 (pa_cons (pv 0) pa_nil))))))), ?_⟩
    refine ⟨_, rfl, _, d, t0, wOpen, rfl, hv, T.w0 _, fun H' s' => ⟨_, rfl, ite2 (fun h1 => ?_) (fun h1 => ⟨_, rfl, _, d, rfl, hv.same s', fun H'' s'' => ⟨_, rfl, ite2 (fun h2 => ?_) (fun h2 => ⟨_, rfl, _, d, rfl, hv.same (s'.trans s''), fun H3 s3 => ?_⟩)⟩⟩)⟩⟩
    · have := q H' s'
      rw [(by unfold isItemP; rw [h1]; rfl : isItemP d = true)] at this
      exact this
    · have := q H'' (s'.trans s'')
      rw [(by unfold isItemP; rw [bf h1, h2]; rfl : isItemP d = true)] at this
      exact this
    · have := q H3 ((s'.trans s'').trans s3)
      rw [(by unfold isItemP; rw [bf h1, bf h2]; rfl : isItemP d = isAskP d)] at this
      exact this
end
end K04

namespace K04
open PySem PySem.Spec PyProof.Rows L2 TL GG
section
variable {P : Program} {w : World} {K : PySem.W.Frag} {mg : Str → Option Value} {base : Heap}
def spClosing (K : PySem.W.Frag) : Sp := fun vs H Q _ => ∃ (p : Addr) (u l t : Bool) (m : Int) (R : Hp), vs = [.ref p, .bl u, .bl l, .bl t, .int m] ∧ 0 < m ∧ Rest p R H ∧ ∀ x R' H' c, Go p R H R' H' → LD K R' x c → IsClosing u l t c → Q x H'
theorem sc_l_closing : FnScope ["_law_pool_here", "_law_under", "_law_locked", "_law_lets", "_law_leak", "_law_found"] ["_law_pool_here", "_law_under", "_law_locked", "_law_lets", "_law_leak"] (defScope s_l_closing) := ⟨rfl, rfl, rfl, by decide +kernel, rfl, by decide +kernel, by decide +kernel⟩
theorem ok_l_closing {f : Addr} {fd : FuncData} (F : Fun K "_law_closing" "_law_closing" s_l_closing f fd) (T : Blt K mg) {f1 : Addr} {fd1 : FuncData} (F_l_draw : Fun K "_law_draw" "_law_draw" s_l_draw f1 fd1) (b_l_draw : Binds K fd1 ["_law_pool_here", "_law_many"] []) (g_l_draw : mg "_law_draw" = some (.ref f1)) (G_l_draw : FnOk P w K mg base CX0 1 f1 fd1 ["_law_pool_here", "_law_many"] (spDraw K)) : FnOk P w K mg base CX0 2 f fd ["_law_pool_here", "_law_under", "_law_locked", "_law_lets", "_law_leak"] (spClosing K) := by
  refine F.ok sc_l_closing (fun vs H Q E h => ?_) (fun cdv A outer s H vs Q E hr h => ?_)
  · obtain ⟨p, u, l, t, m, R, rfl, _⟩ := h
    rfl
  · obtain ⟨p, u, l, t, m, R, rfl, hm, k, q⟩ := h
    refine ⟨_, (pss_cons (ps_set (i := 5) sc_l_closing.nd rfl (.inl rfl) (pe_op op_cat (pe_op op_rep (pe_lst (pa_cons (pe_tup (pa_cons pe_str pa_nil)) pa_nil)) (pe_callTy call_int1 (by rfl) T.m_int (by decide +kernel) (pa_cons (pv 2) pa_nil))) (pe_op op_rep (pe_lst (pa_cons (pe_tup (pa_cons pe_str pa_nil)) pa_nil)) (pe_callTy call_int1 (by rfl) T.m_int (by decide +kernel) (pa_cons (pv 1) pa_nil))))) 
        (pss_cons (ps_if (PW.pt (pw_and (pt_cmpR op_eq (pe_callB call_len_seq (by rfl) T.m_len PySem.boot_len (pa_cons (pv 5) pa_nil)) pe_int (nomark _)) (pw_and1 (pt_cmpR op_eq (pe_call G_l_draw hr (by rfl) g_l_draw F_l_draw.kp b_l_draw .nil pass0 (pa_cons (pv 0) (pa_cons pe_int pa_nil))) pe_int (nomark _))))) 
          (pss_one (ps_set (i := 5) sc_l_closing.nd rfl (.inl rfl) (pe_revL (pv 5)))) pss_nil) 
        (pss_one (ps_ret (pe_op op_cat (pv 5) (pe_op op_rep (pe_lst (pa_cons (pe_tup (pa_cons pe_str pa_nil)) pa_nil)) (pe_callTy call_int1 (by rfl) T.m_int (by decide +kernel) (pa_cons (pe_and (pv 3) (pe_one (pe_cmpR op_gt (pe_call G_l_draw hr (by rfl) g_l_draw F_l_draw.kp b_l_draw .nil pass0 (pa_cons (pv 0) (pa_cons (pv 4) pa_nil))) pe_int (nomark _)))) pa_nil)))))))), ?_⟩
    refine ⟨(by show 1 ≤ sizeLine; decide), fun u1 hu1 => ?_⟩
    obtain ⟨gi, d1⟩ := tup_new (K := K) (vs := [.str "unlock"]) (ds := [.str "unlock"]) k hu1 (.cons (.str _) .nil)
    have g := gi
    refine ⟨(by show 1 ≤ sizeLine; decide), fun l1 hl1 => ?_⟩
    obtain ⟨gi, f1⟩ := new1 g.rest d1 hl1
    replace g := g.trans gi
    refine ⟨_, rfl, .inr ⟨_, rfl, repL (K := K) g.rest f1 (by decide) fun x1 Ri Hi gi f1 => ?_⟩⟩
    replace g := g.trans gi
    refine ⟨(by show 1 ≤ sizeLine; decide), fun u2 hu2 => ?_⟩
    obtain ⟨gi, d2⟩ := tup_new (K := K) (vs := [.str "leave"]) (ds := [.str "leave"]) g.rest hu2 (.cons (.str _) .nil)
    replace g := g.trans gi
    replace f1 := f1.same gi.same
    refine ⟨(by show 1 ≤ sizeLine; decide), fun l2 hl2 => ?_⟩
    obtain ⟨gi, f2⟩ := new1 g.rest d2 hl2
    replace g := g.trans gi
    replace f1 := f1.same gi.same
    refine ⟨_, rfl, .inr ⟨_, rfl, repL (K := K) g.rest f2 (by decide) fun x2 Ri Hi gi f2 => ?_⟩⟩
    replace g := g.trans gi
    replace f1 := f1.same gi.same
    refine catL (K := K) g.rest f1 f2 (by cases l <;> cases u <;> decide) fun x3 Ri Hi gi f3 => ?_
    replace g := g.trans gi
    obtain ⟨a3, vs3, rfl, h3, h3'⟩ := id f3
    have hb : ((if l = true then [T1 "unlock"] else []) ++ (if u = true then [T1 "leave"] else []) : List PyData) = (if l = true then [T1 "unlock"] else []) ++ (if u = true then [T1 "leave"] else []) := rfl
    refine ⟨_, rfl, a3, vs3, rfl, .inl (.inl (.inl (g.rest.1 _ _ h3))), rfl, _, rfl, ite2 (fun _ => ⟨_, rfl, p, 2, _, rfl, by decide, g.rest, fun r Hr r0 r1 gi => ⟨rfl, _, rfl, ite2 (fun _ => ?rev) (fun _ => ?k1)⟩⟩) (fun _ => iteF ?k2)⟩
    case k1 =>
      replace g := g.trans gi
      replace f3 := f3.same gi.same
      have hq : ∀ k' : List PyData, (k' = [] ∨ (t = true ∧ k' = [T1 "let"])) → IsClosing u l t (((if l = true then [T1 "unlock"] else []) ++ (if u = true then [T1 "leave"] else [])) ++ k') := fun k' hk => ⟨_, k', rfl, hk, .inl rfl⟩
      have hbl : ((if l = true then [T1 "unlock"] else []) ++ (if u = true then [T1 "leave"] else []) : List PyData).length ≤ 10 := by cases l <;> cases u <;> decide
      refine ⟨_, rfl, (by show 1 ≤ sizeLine; decide), fun u5 hu5 => ?_⟩
      obtain ⟨gi, d5⟩ := tup_new (K := K) (vs := [.str "let"]) (ds := [.str "let"]) g.rest hu5 (.cons (.str _) .nil)
      replace g := g.trans gi
      replace f3 := f3.same gi.same
      refine ⟨(by show 1 ≤ sizeLine; decide), fun l6 hl6 => ?_⟩
      obtain ⟨gi, f6⟩ := new1 g.rest d5 hl6
      replace g := g.trans gi
      replace f3 := f3.same gi.same
      refine ⟨_, rfl, _, rfl, ite2 (fun ht => ⟨_, rfl, _, rfl, p, m, _, rfl, hm, g.rest, fun r2 Hr2 r20 r21 gi => ⟨_, _, rfl, rfl, .inr ⟨_, rfl, closeLast q (g.trans gi) (f3.same gi.same) (f6.same gi.same) hbl hq _ (fun _ => ht)⟩⟩⟩) (fun ht => .inr ⟨_, rfl, closeLast q g f3 f6 hbl hq false (fun h => by cases h)⟩)⟩
    case k2 =>
      have hq : ∀ k' : List PyData, (k' = [] ∨ (t = true ∧ k' = [T1 "let"])) → IsClosing u l t (((if l = true then [T1 "unlock"] else []) ++ (if u = true then [T1 "leave"] else [])) ++ k') := fun k' hk => ⟨_, k', rfl, hk, .inl rfl⟩
      have hbl : ((if l = true then [T1 "unlock"] else []) ++ (if u = true then [T1 "leave"] else []) : List PyData).length ≤ 10 := by cases l <;> cases u <;> decide
      refine ⟨_, rfl, (by show 1 ≤ sizeLine; decide), fun u5 hu5 => ?_⟩
      obtain ⟨gi, d5⟩ := tup_new (K := K) (vs := [.str "let"]) (ds := [.str "let"]) g.rest hu5 (.cons (.str _) .nil)
      replace g := g.trans gi
      replace f3 := f3.same gi.same
      refine ⟨(by show 1 ≤ sizeLine; decide), fun l6 hl6 => ?_⟩
      obtain ⟨gi, f6⟩ := new1 g.rest d5 hl6
      replace g := g.trans gi
      replace f3 := f3.same gi.same
      refine ⟨_, rfl, _, rfl, ite2 (fun ht => ⟨_, rfl, _, rfl, p, m, _, rfl, hm, g.rest, fun r2 Hr2 r20 r21 gi => ⟨_, _, rfl, rfl, .inr ⟨_, rfl, closeLast q (g.trans gi) (f3.same gi.same) (f6.same gi.same) hbl hq _ (fun _ => ht)⟩⟩⟩) (fun ht => .inr ⟨_, rfl, closeLast q g f3 f6 hbl hq false (fun h => by cases h)⟩)⟩
    case rev =>
      replace g := g.trans gi
      replace h3 := gi.same _ _ h3
      replace h3' := dpAll_same gi.same _ _ h3'
      refine ⟨_, rfl, a3, vs3, rfl, .inl (.inl (g.rest.1 _ _ h3)), fun l4 hl4 => ?_⟩
      have gi := Go.new (o := .lst vs3.reverse) g.rest hl4
      have f3 := revL g.rest hl4 h3'
      replace g := g.trans gi
      have hq : ∀ k' : List PyData, (k' = [] ∨ (t = true ∧ k' = [T1 "let"])) → IsClosing u l t ((((if l = true then [T1 "unlock"] else []) ++ (if u = true then [T1 "leave"] else []))).reverse ++ k') := fun k' hk => ⟨_, k', rfl, hk, .inr (by cases l <;> cases u <;> rfl)⟩
      have hbl : (((if l = true then [T1 "unlock"] else []) ++ (if u = true then [T1 "leave"] else []) : List PyData).reverse).length ≤ 10 := by cases l <;> cases u <;> decide
      refine ⟨_, rfl, (by show 1 ≤ sizeLine; decide), fun u5 hu5 => ?_⟩
      obtain ⟨gi, d5⟩ := tup_new (K := K) (vs := [.str "let"]) (ds := [.str "let"]) g.rest hu5 (.cons (.str _) .nil)
      replace g := g.trans gi
      replace f3 := f3.same gi.same
      refine ⟨(by show 1 ≤ sizeLine; decide), fun l6 hl6 => ?_⟩
      obtain ⟨gi, f6⟩ := new1 g.rest d5 hl6
      replace g := g.trans gi
      replace f3 := f3.same gi.same
      refine ⟨_, rfl, _, rfl, ite2 (fun ht => ⟨_, rfl, _, rfl, p, m, _, rfl, hm, g.rest, fun r2 Hr2 r20 r21 gi => ⟨_, _, rfl, rfl, .inr ⟨_, rfl, closeLast q (g.trans gi) (f3.same gi.same) (f6.same gi.same) hbl hq _ (fun _ => ht)⟩⟩⟩) (fun ht => .inr ⟨_, rfl, closeLast q g f3 f6 hbl hq false (fun h => by cases h)⟩)⟩
def spWayOut (K : PySem.W.Frag) : Sp := fun vs H Q _ => ∃ (p : Addr) (u l t : Bool) (R : Hp), vs = [.ref p, .bl u, .bl l, .bl t] ∧ Rest p R H ∧ ∀ x R' H' o, Go p R H R' H' → Dp K R' x (.tuple o) → (∀ ns ms, RowOk ns ms t false u l o) → o.length ≤ 4 → Q x H'
theorem sc_l_way_out : FnScope ["_law_pool_here", "_law_under", "_law_locked", "_law_lets", "_law_extra"] ["_law_pool_here", "_law_under", "_law_locked", "_law_lets"] (defScope s_l_way_out) := ⟨rfl, rfl, rfl, by decide +kernel, rfl, by decide +kernel, by decide +kernel⟩
theorem ok_l_way_out {f : Addr} {fd : FuncData} (F : Fun K "_law_way_out" "_law_way_out" s_l_way_out f fd) (T : Blt K mg) {f1 : Addr} {fd1 : FuncData} (F_l_draw : Fun K "_law_draw" "_law_draw" s_l_draw f1 fd1) (b_l_draw : Binds K fd1 ["_law_pool_here", "_law_many"] []) (g_l_draw : mg "_law_draw" = some (.ref f1)) (G_l_draw : FnOk P w K mg base CX0 1 f1 fd1 ["_law_pool_here", "_law_many"] (spDraw K)) {f2 : Addr} {fd2 : FuncData} (F_l_closing : Fun K "_law_closing" "_law_closing" s_l_closing f2 fd2) (b_l_closing : Binds K fd2 ["_law_pool_here", "_law_under", "_law_locked", "_law_lets", "_law_leak"] []) (g_l_closing : mg "_law_closing" = some (.ref f2)) (G_l_closing : FnOk P w K mg base CX0 2 f2 fd2 ["_law_pool_here", "_law_under", "_law_locked", "_law_lets", "_law_leak"] (spClosing K)) : FnOk P w K mg base CX0 3 f fd ["_law_pool_here", "_law_under", "_law_locked", "_law_lets"] (spWayOut K) := by
  refine F.ok sc_l_way_out (fun vs H Q E h => ?_) (fun cdv A outer s H vs Q E hr h => ?_)
  · obtain ⟨p, u, l, t, R, rfl, _⟩ := h
    rfl
  · obtain ⟨p, u, l, t, R, rfl, k, q⟩ := h
    refine ⟨_, (pss_cons (ps_set (i := 4) sc_l_way_out.nd rfl (.inl rfl) (pe_ix ix_list (pe_lst (pa_cons (pe_lst pa_nil) (pa_cons (pe_lst pa_nil) (pa_cons (pe_lst (pa_cons (pe_tup (pa_cons pe_str pa_nil)) pa_nil)) (pa_cons (pe_lst (pa_cons (pe_tup (pa_cons pe_str pa_nil)) pa_nil)) pa_nil))))) (pe_call G_l_draw (hr.mono (by decide)) (by rfl) g_l_draw F_l_draw.kp b_l_draw .nil pass0 (pa_cons (pv 0) (pa_cons pe_int pa_nil))) (fun _ _ => rfl))) 
        (pss_one (ps_ret (pe_callTy call_tuple_of (by rfl) T.m_tuple (by decide +kernel) (pa_cons (pe_op op_cat (pv 4) (pe_call G_l_closing hr (by rfl) g_l_closing F_l_closing.kp b_l_closing .nil pass0 (pa_cons (pv 0) (pa_cons (pv 1) (pa_cons (pv 2) (pa_cons (pv 3) (pa_cons pe_int pa_nil))))))) pa_nil))))), ?_⟩
    refine ⟨Nat.zero_le _, fun e1 he1 => ?_⟩
    have gi := Go.new (o := .lst []) k he1
    have f1 : LD K (upd R e1 (.lst [])) (.ref e1) [] := ⟨e1, _, rfl, upd_same, .nil⟩
    have g := gi
    refine ⟨Nat.zero_le _, fun e2 he2 => ?_⟩
    have f2 : LD K (upd _ e2 (.lst [])) (.ref e2) [] := ⟨e2, _, rfl, upd_same (H := upd R e1 (.lst [])), .nil⟩
    have gi := Go.new (o := .lst []) g.rest he2
    replace g := g.trans gi
    replace f1 := f1.same gi.same
    refine ⟨(by show 1 ≤ sizeLine; decide), fun u3 hu3 => ?_⟩
    obtain ⟨gi, d3⟩ := tup_new (K := K) (vs := [.str "touch"]) (ds := [.str "touch"]) g.rest hu3 (.cons (.str _) .nil)
    replace g := g.trans gi
    replace f1 := f1.same gi.same
    replace f2 := f2.same gi.same
    refine ⟨(by show 1 ≤ sizeLine; decide), fun l3 hl3 => ?_⟩
    obtain ⟨gi, f3⟩ := new1 g.rest d3 hl3
    replace g := g.trans gi
    replace f1 := f1.same gi.same
    replace f2 := f2.same gi.same
    refine ⟨(by show 1 ≤ sizeLine; decide), fun u4 hu4 => ?_⟩
    obtain ⟨gi, d4⟩ := tup_new (K := K) (vs := [.str "use"]) (ds := [.str "use"]) g.rest hu4 (.cons (.str _) .nil)
    replace g := g.trans gi
    replace f1 := f1.same gi.same
    replace f2 := f2.same gi.same
    replace f3 := f3.same gi.same
    refine ⟨(by show 1 ≤ sizeLine; decide), fun l4 hl4 => ?_⟩
    obtain ⟨gi, f4⟩ := new1 g.rest d4 hl4
    replace g := g.trans gi
    replace f1 := f1.same gi.same
    replace f2 := f2.same gi.same
    replace f3 := f3.same gi.same
    refine ⟨(by show 4 ≤ sizeLine; decide), fun l5 hl5 => ?_⟩
    obtain ⟨gi, k5⟩ := lst_raw [.ref e1, .ref e2, .ref l3, .ref l4] g.rest hl5
    replace g := g.trans gi
    replace f1 := f1.same gi.same
    replace f2 := f2.same gi.same
    replace f3 := f3.same gi.same
    replace f4 := f4.same gi.same
    refine ⟨_, rfl, p, 4, _, rfl, by decide, g.rest, fun r1 H1 r10 r11 gi => ?_⟩
    replace g := g.trans gi
    obtain ⟨v, hat, hv⟩ := at_int (xs := [V.ref e1, .ref e2, .ref l3, .ref l4]) r10 (by show r1.toNat < 4; omega)
    refine ⟨l5, _, r1, v, rfl, rfl, .inl (.inl (g.rest.1 _ _ k5)), hat, ?_⟩
    obtain ⟨ex, fv, hex⟩ := four_of f1 f2 f3 f4 hv
    refine ⟨_, rfl, _, rfl, _, rfl, _, rfl, _, rfl, p, u, l, t, 9, _, rfl, by decide, g.rest, fun x R' H' c gi fc hc => ?_⟩
    replace g := g.trans gi
    replace fv := fv.same gi.same
    have hex1 : ex.length ≤ 1 := by rcases hex with rfl | rfl | rfl <;> decide
    have hc3 : c.length ≤ 3 := (hc.ok (ns := []) (ms := []) (a := false)).2.2
    refine catL (K := K) g.rest fv fc (by omega) fun y Ri Hi gi fy => ?_
    replace g := g.trans gi
    obtain ⟨ay, vy, rfl, h1, h2⟩ := fy
    refine ⟨ay, vy, rfl, .inl ⟨.inl (.inl (g.rest.1 _ _ h1)), fun z hz => ?_⟩⟩
    obtain ⟨gi, dz⟩ := tup_new (K := K) g.rest hz h2
    refine q _ _ _ _ (g.trans gi) dz (fun ns ms => ?_) (by rw [List.length_append]; omega)
    have h := (hc.ok (ns := ns) (ms := ms) (a := false)).1
    rcases hex with rfl | rfl | rfl
    · exact h
    · exact .plain (by decide) h
    · exact .plain (by decide) h
def spBody (K : PySem.W.Frag) : Sp := fun vs H Q _ => ∃ (p nm n0 n1 : Addr) (room : Int) (t : Bool) (R : Hp) (ns ms : List Str), vs = [.ref p, .ref nm, .int room, .bl t] ∧ Rest p R H ∧ (R nm = some (.lst [.ref n0, .ref n1]) ∧ R n0 = some (.lst (ns.map V.str)) ∧ R n1 = some (.lst (ms.map V.str))) ∧
  (0 < ms.length ∧ ms.length ≤ 100 ∧ ns.length ≤ 100 ∧ (∀ n ∈ ns, Sane n)) ∧ (3 ≤ room ∧ room ≤ 14) ∧ ∀ x R' H' ds, Go p R H R' H' → LD K R' x ds → RowOk ns ms t true false false ds → (sizeR ds : Int) ≤ room → Q x H'
theorem sc_l_body : FnScope ["_law_pool_here", "_law_names", "_law_room", "_law_lets", "_law_items", "_law_under", "_law_locked", "_law_left", "_law_turn", "_law_way", "_law_item", "_law_size"] ["_law_pool_here", "_law_names", "_law_room", "_law_lets"] (defScope s_l_body) := ⟨rfl, rfl, rfl, by decide +kernel, rfl, by decide +kernel, by decide +kernel⟩
theorem ok_l_body {f : Addr} {fd : FuncData} (F : Fun K "_law_body" "_law_body" s_l_body f fd) (T : Blt K mg) {f1 : Addr} {fd1 : FuncData} (F_l_draw : Fun K "_law_draw" "_law_draw" s_l_draw f1 fd1) (b_l_draw : Binds K fd1 ["_law_pool_here", "_law_many"] []) (g_l_draw : mg "_law_draw" = some (.ref f1)) (G_l_draw : FnOk P w K mg base CX0 1 f1 fd1 ["_law_pool_here", "_law_many"] (spDraw K)) {f2 : Addr} {fd2 : FuncData} (F_l_pick : Fun K "_law_pick" "_law_pick" s_l_pick f2 fd2) (b_l_pick : Binds K fd2 ["_law_pool_here", "_law_some"] []) (g_l_pick : mg "_law_pick" = some (.ref f2)) (G_l_pick : FnOk P w K mg base CX0 2 f2 fd2 ["_law_pool_here", "_law_some"] (spPick K)) {f3 : Addr} {fd3 : FuncData} (F_l_way_out : Fun K "_law_way_out" "_law_way_out" s_l_way_out f3 fd3) (b_l_way_out : Binds K fd3 ["_law_pool_here", "_law_under", "_law_locked", "_law_lets"] []) (g_l_way_out : mg "_law_way_out" = some (.ref f3)) (G_l_way_out : FnOk P w K mg base CX0 3 f3 fd3 ["_law_pool_here", "_law_under", "_law_locked", "_law_lets"] (spWayOut K)) {f4 : Addr} {fd4 : FuncData} (F_l_closing : Fun K "_law_closing" "_law_closing" s_l_closing f4 fd4) (b_l_closing : Binds K fd4 ["_law_pool_here", "_law_under", "_law_locked", "_law_lets", "_law_leak"] []) (g_l_closing : mg "_law_closing" = some (.ref f4)) (G_l_closing : FnOk P w K mg base CX0 2 f4 fd4 ["_law_pool_here", "_law_under", "_law_locked", "_law_lets", "_law_leak"] (spClosing K)) : FnOk P w K mg base CX0 4 f fd ["_law_pool_here", "_law_names", "_law_room", "_law_lets"] (spBody K) := by
  refine F.ok sc_l_body (fun vs H Q E h => ?_) (fun cdv A outer s H vs Q E hr h => ?_)
  · obtain ⟨p, nm, n0, n1, room, t, R, ns, ms, rfl, _⟩ := h
    rfl
  · obtain ⟨p, nm, n0, n1, room, t, R, ns, ms, rfl, k, ⟨knm, kn0, kn1⟩, ⟨hms, hms2, hns2, hsane⟩, ⟨hr3, hr14⟩, q⟩ := h
    refine ⟨_, (pss_cons (ps_asg (pe_tup (pa_cons (pe_lst pa_nil) (pa_cons pe_bl (pa_cons pe_bl (pa_cons (pv 2) pa_nil))))) (pg_tup rfl (pgs_cons (pg_name (i := 4) sc_l_body.nd rfl (.inl rfl)) (pgs_cons (pg_name (i := 5) sc_l_body.nd rfl (.inl rfl)) (pgs_cons (pg_name (i := 6) sc_l_body.nd rfl (.inl rfl)) (pgs_cons (pg_name (i := 7) sc_l_body.nd rfl (.inl rfl)) pgs_nil)))))) 
        (pss_cons (ps_for PassesOwn.never rfl (pi_range1 rfl T.m_range (pa_cons (pe_call G_l_draw (hr.mono (by decide)) (by rfl) g_l_draw F_l_draw.kp b_l_draw .nil pass0 (pa_cons (pv 0) (pa_cons pe_int pa_nil))) pa_nil)) (pg_name (i := 8) sc_l_body.nd rfl (.inl rfl)) 
          (pss_cons (ps_set (i := 9) sc_l_body.nd rfl (.inl rfl) (pe_call G_l_draw (hr.mono (by decide)) (by rfl) g_l_draw F_l_draw.kp b_l_draw .nil pass0 (pa_cons (pv 0) (pa_cons pe_int pa_nil)))) 
          (pss_cons (ps_set (i := 10) sc_l_body.nd rfl (.inl rfl) (pe_ix ix_list (pe_lst (pa_cons (pe_tup (pa_cons pe_str pa_nil)) (pa_cons (pe_tup (pa_cons pe_str pa_nil)) pa_nil))) (pe_call G_l_draw (hr.mono (by decide)) (by rfl) g_l_draw F_l_draw.kp b_l_draw .nil pass0 (pa_cons (pv 0) (pa_cons pe_int pa_nil))) (fun _ _ => rfl))) 
          (pss_cons (ps_if (pt_cmpR op_in_seq (pv 9) (pe_lst (pa_cons pe_int (pa_cons pe_int pa_nil))) (by rfl)) 
            (pss_one (ps_set (i := 10) sc_l_body.nd rfl (.inl rfl) (pe_ix ix_list (pe_lst (pa_cons (pe_tup (pa_cons pe_str pa_nil)) (pa_cons (pe_tup (pa_cons pe_str pa_nil)) pa_nil))) (pe_callTy call_int1 (by rfl) T.m_int (by decide +kernel) (pa_cons (pv 5) pa_nil)) (fun _ _ => rfl)))) pss_nil) 
          (pss_cons (ps_if (pt_cmpR op_eq (pv 9) pe_int (nomark _)) 
            (pss_one (ps_set (i := 10) sc_l_body.nd rfl (.inl rfl) (pe_ix ix_list (pe_lst (pa_cons (pe_tup (pa_cons pe_str pa_nil)) (pa_cons (pe_tup (pa_cons pe_str pa_nil)) pa_nil))) (pe_callTy call_int1 (by rfl) T.m_int (by decide +kernel) (pa_cons (pv 6) pa_nil)) (fun _ _ => rfl)))) pss_nil) 
          (pss_cons (ps_if (PW.pt (pw_and (pt_cmpR op_eq (pv 9) pe_int (nomark _)) (pw_and1 (pt_cmpR (op_neD hr.units) (pe_ix ix_list (pv 1) pe_int (fun _ _ => rfl)) (pe_lst pa_nil) (nomark _))))) 
            (pss_one (ps_set (i := 10) sc_l_body.nd rfl (.inl rfl) (pe_tup (pa_cons pe_str (pa_cons (pe_call G_l_pick (hr.mono (by decide)) (by rfl) g_l_pick F_l_pick.kp b_l_pick .nil pass0 (pa_cons (pv 0) (pa_cons (pe_ix ix_list (pv 1) pe_int (fun _ _ => rfl)) pa_nil))) pa_nil))))) pss_nil) 
          (pss_cons (ps_if (pt_cmpR op_gt (pv 9) pe_int (nomark _)) 
            (pss_one (ps_set (i := 10) sc_l_body.nd rfl (.inl rfl) (pe_tup (pa_cons pe_str (pa_cons (pe_call G_l_pick (hr.mono (by decide)) (by rfl) g_l_pick F_l_pick.kp b_l_pick .nil pass0 (pa_cons (pv 0) (pa_cons (pe_ix ix_list (pv 1) pe_int (fun _ _ => rfl)) pa_nil))) (pa_cons (pe_call G_l_way_out hr (by rfl) g_l_way_out F_l_way_out.kp b_l_way_out .nil pass0 (pa_cons (pv 0) (pa_cons (pv 5) (pa_cons (pv 6) (pa_cons (pv 3) pa_nil))))) pa_nil)))))) pss_nil) 
          (pss_cons (ps_set (i := 11) sc_l_body.nd rfl (.inl rfl) (pe_op op_add pe_int (pe_callB call_len_seq (by rfl) T.m_len PySem.boot_len (pa_cons (pe_andT (pe_slice sl_tupA (pv 10) (po_some pe_int) po_none) (pe_one (pe_ix ix_tup (pv 10) pe_int (fun _ _ => rfl)))) pa_nil)))) 
          (pss_one (ps_if (pt_cmpR op_ge (pe_op op_sub (pv 7) (pv 11)) pe_int (nomark _)) 
            (pss_cons (ps_set (i := 7) sc_l_body.nd rfl (.inl rfl) (pe_op op_sub (pv 7) (pv 11))) 
            (pss_cons (ps_expr (pe_bm PySem.F.plainAttrs_list PySem.F.slot_list_append PySem.F.type_list_append mt_append (pv 4) (pa_cons (pv 10) pa_nil))) 
            (pss_cons (ps_set (i := 5) sc_l_body.nd rfl (.inl rfl) (pe_cmpR op_ne (pv 5) (pe_cmpR op_in_seq (pe_ix ix_tup (pv 10) pe_int (fun _ _ => rfl)) (pe_lst (pa_cons pe_str (pa_cons pe_str pa_nil))) (by rfl)) (nomark _))) 
            (pss_one (ps_set (i := 6) sc_l_body.nd rfl (.inl rfl) (pe_cmpR op_ne (pv 6) (pe_cmpR op_in_seq (pe_ix ix_tup (pv 10) pe_int (fun _ _ => rfl)) (pe_lst (pa_cons pe_str (pa_cons pe_str pa_nil))) (by rfl)) (nomark _))))))) pss_nil)))))))))) 
        (pss_one (ps_ret (pe_op op_cat (pv 4) (pe_call G_l_closing (hr.mono (by decide)) (by rfl) g_l_closing F_l_closing.kp b_l_closing .nil pass0 (pa_cons (pv 0) (pa_cons (pv 5) (pa_cons (pv 6) (pa_cons (pv 3) (pa_cons pe_int pa_nil))))))))))), ?_⟩
    refine ⟨Nat.zero_le _, fun li hl0 => ⟨_, rfl, (by show 4 ≤ sizeLine; decide), fun tp htp => ?_⟩⟩
    have hne := k.ne hl0
    have hRl0 : R li = none := k.1.free hl0
    have g : Go p R H R (upd H li (.lst [])) := go_hid k hl0
    have gi := Go.new (o := .tup [.ref li, .bl false, .bl false, .int room]) g.rest htp
    have hli := gi.keep li hne _ (upd_same (H := H) (a := li) (o := .lst []))
    have hRl := gi.fresh li _ (upd_same (H := H) (a := li) (o := .lst [])) hRl0
    replace g := g.trans gi
    replace knm := gi.same _ _ knm
    replace kn0 := gi.same _ _ kn0
    replace kn1 := gi.same _ _ kn1
    refine ⟨tp, _, rfl, .inl (.inl upd_same), rfl, _, _, rfl, _, _, rfl, _, _, rfl, _, [], rfl, rfl, ?_⟩
    refine ⟨_, rfl, p, 7, _, rfl, by decide, g.rest, fun r1 H1 r10 r11 gi => ⟨_, rfl, by omega, by omega, ?_⟩⟩
    replace g := g.trans gi
    replace hli := gi.keep li hne _ hli
    refine for_range (lo := 0) (fun i σ H' => ∃ (R1 : Hp) (u l : Bool) (left : Int) (y8 y9 y10 y11 : Option V) (vs : List V) (ds : List PyData), σ = [some (.ref p), some (.ref nm), some (.int room), some (.bl t), some (.ref li), some (.bl u), some (.bl l), some (.int left), y8, y9, y10, y11] ∧ Go p R H R1 H' ∧ R1 li = none ∧ H' li = some (.lst vs) ∧ DpAll K R1 vs ds ∧
      (R1 nm = some (.lst [.ref n0, .ref n1]) ∧ R1 n0 = some (.lst (ns.map V.str)) ∧ R1 n1 = some (.lst (ms.map V.str))) ∧ Pfx ns ms t true ds u l ∧ (sizeR ds : Int) + left = room ∧ 3 ≤ left ∧ vs.length ≤ i)
      ⟨_, false, false, room, none, none, none, none, [], [], rfl, g, hRl, hli, .nil, ⟨knm, kn0, kn1⟩, Pfx.nil, by show ((0 : Nat) : Int) + room = room; omega, hr3, Nat.le_refl _⟩ ?_ ?_
    · clear g gi hli hRl knm kn0 kn1
      rintro i σ H2 hi ⟨R1, u, l, left, y8, y9, y10, y11, vs, ds, rfl, g, hRl, hli, hds, ⟨knm, kn0, kn1⟩, hpf, hsz, hleft, hvl⟩
      have hi7 : i < 7 := by omega
      refine ⟨_, rfl, p, 9, _, rfl, by decide, g.rest, fun w Hw w0 w1 gi => ?_⟩
      replace g := g.trans gi
      replace hli := gi.keep li hne _ hli
      refine ⟨(by show 1 ≤ sizeLine; decide), fun a1 ha1 => ?_⟩
      obtain ⟨gi, d1⟩ := tup_new (K := K) (vs := [.str "touch"]) (ds := [.str "touch"]) g.rest ha1 (.cons (.str _) .nil)
      replace g := g.trans gi
      replace hRl := gi.fresh li _ hli hRl
      replace hli := gi.keep li hne _ hli
      replace hds := dpAll_same gi.same _ _ hds
      replace knm := gi.same _ _ knm
      replace kn0 := gi.same _ _ kn0
      replace kn1 := gi.same _ _ kn1
      refine ⟨(by show 1 ≤ sizeLine; decide), fun a2 ha2 => ?_⟩
      obtain ⟨gi, d2⟩ := tup_new (K := K) (vs := [.str "use"]) (ds := [.str "use"]) g.rest ha2 (.cons (.str _) .nil)
      replace g := g.trans gi
      replace hRl := gi.fresh li _ hli hRl
      replace hli := gi.keep li hne _ hli
      replace hds := dpAll_same gi.same _ _ hds
      replace knm := gi.same _ _ knm
      replace kn0 := gi.same _ _ kn0
      replace kn1 := gi.same _ _ kn1
      replace d1 := dp_same gi.same _ _ d1
      refine ⟨(by show 2 ≤ sizeLine; decide), fun a3 ha3 => ?_⟩
      obtain ⟨gi, k3⟩ := lst_raw [.ref a1, .ref a2] g.rest ha3
      replace g := g.trans gi
      replace hRl := gi.fresh li _ hli hRl
      replace hli := gi.keep li hne _ hli
      replace hds := dpAll_same gi.same _ _ hds
      replace knm := gi.same _ _ knm
      replace kn0 := gi.same _ _ kn0
      replace kn1 := gi.same _ _ kn1
      replace d1 := dp_same gi.same _ _ d1
      replace d2 := dp_same gi.same _ _ d2
      refine ⟨_, rfl, p, 2, _, rfl, by decide, g.rest, fun r2 Hr2 r20 r21 gi => ?_⟩
      replace g := g.trans gi
      replace hRl := gi.fresh li _ hli hRl
      replace hli := gi.keep li hne _ hli
      replace hds := dpAll_same gi.same _ _ hds
      replace knm := gi.same _ _ knm
      replace kn0 := gi.same _ _ kn0
      replace kn1 := gi.same _ _ kn1
      replace d1 := dp_same gi.same _ _ d1
      replace d2 := dp_same gi.same _ _ d2
      replace k3 := gi.same _ _ k3
      obtain ⟨v, hat, hv⟩ := at_int (xs := [V.ref a1, .ref a2]) r20 (by show r2.toNat < 2; omega)
      refine ⟨a3, _, r2, v, rfl, rfl, .inl (.inl (g.rest.1 _ _ k3)), hat, ?_⟩
      obtain ⟨w0, di, hw0⟩ := one_of d1 d2 hv
      clear d1 d2 k3 hat hv
      refine ⟨_, rfl, (by show 2 ≤ sizeLine; decide), fun b1 hb1 => ?_⟩
      obtain ⟨gi, kb⟩ := lst_raw [.int 2, .int 3] g.rest hb1
      replace g := g.trans gi
      replace hRl := gi.fresh li _ hli hRl
      replace hli := gi.keep li hne _ hli
      replace hds := dpAll_same gi.same _ _ hds
      replace knm := gi.same _ _ knm
      replace kn0 := gi.same _ _ kn0
      replace kn1 := gi.same _ _ kn1
      replace di := dp_same gi.same _ _ di
      clear kb
      refine ⟨b1, _, rfl, .inl (.inl (.inl upd_same)), rfl, rfl, _, rfl, ite2 (fun h1 => ?_) (fun h1 => ?_)⟩
      · have hw23 := in23 h1
        clear di
        refine ⟨(by show 1 ≤ sizeLine; decide), fun c1 hc1 => ?_⟩
        obtain ⟨gi, de1⟩ := tup_new (K := K) (vs := [.str "enter"]) (ds := [.str "enter"]) g.rest hc1 (.cons (.str _) .nil)
        replace g := g.trans gi
        replace hRl := gi.fresh li _ hli hRl
        replace hli := gi.keep li hne _ hli
        replace hds := dpAll_same gi.same _ _ hds
        replace knm := gi.same _ _ knm
        replace kn0 := gi.same _ _ kn0
        replace kn1 := gi.same _ _ kn1
        refine ⟨(by show 1 ≤ sizeLine; decide), fun c2 hc2 => ?_⟩
        obtain ⟨gi, de2⟩ := tup_new (K := K) (vs := [.str "leave"]) (ds := [.str "leave"]) g.rest hc2 (.cons (.str _) .nil)
        replace g := g.trans gi
        replace hRl := gi.fresh li _ hli hRl
        replace hli := gi.keep li hne _ hli
        replace hds := dpAll_same gi.same _ _ hds
        replace knm := gi.same _ _ knm
        replace kn0 := gi.same _ _ kn0
        replace kn1 := gi.same _ _ kn1
        replace de1 := dp_same gi.same _ _ de1
        refine ⟨(by show 2 ≤ sizeLine; decide), fun c3 hc3 => ?_⟩
        obtain ⟨gi, k4⟩ := lst_raw [.ref c1, .ref c2] g.rest hc3
        replace g := g.trans gi
        replace hRl := gi.fresh li _ hli hRl
        replace hli := gi.keep li hne _ hli
        replace hds := dpAll_same gi.same _ _ hds
        replace knm := gi.same _ _ knm
        replace kn0 := gi.same _ _ kn0
        replace kn1 := gi.same _ _ kn1
        replace de1 := dp_same gi.same _ _ de1
        replace de2 := dp_same gi.same _ _ de2
        have di := dp_two (u := u) de1 de2
        refine ⟨_, rfl, .inr ⟨_, rfl, c3, _, _, _, rfl, rfl, .inl (.inl upd_same), two_at u, ?_⟩⟩
        refine ⟨_, rfl, rfl, _, rfl, ite2 (fun h => absurd (eq_dec h) (by omega)) (fun _ => ?_)⟩
        refine ⟨_, rfl, rfl, _, rfl, ite2 (fun h => absurd (eq_dec h) (by omega)) (fun _ => iteF ?_)⟩
        refine ⟨_, rfl, _, _, rfl, rfl, _, rfl, ite2 (fun h => absurd (of_decide_eq_true h) (by omega)) (fun _ => ?_)⟩
        have hi := item_el (ns := ns) (ms := ms) (t := t) (u := u) (l := l)
        have hsize : size1 (T1 (if u = true then "leave" else "enter")) = 1 := by rfl
        refine ⟨_, rfl, _, rfl, slice_lo (K := K) g.rest di fun y1 Ri Hi gi e1 => ?_⟩
        replace g := g.trans gi
        replace hRl := gi.fresh li _ hli hRl
        replace hli := gi.keep li hne _ hli
        replace hds := dpAll_same gi.same _ _ hds
        replace knm := gi.same _ _ knm
        replace kn0 := gi.same _ _ kn0
        replace kn1 := gi.same _ _ kn1
        replace di := dp_same gi.same _ _ di
        rw [cut2_nil (by simp)] at e1
        obtain ⟨ya, rfl, hya⟩ := dp_unit e1
        refine ⟨false, .inr (.inl ⟨[], Same.seqT g.rest.1 hya, rfl⟩), iteF ⟨ya, [], rfl, .inr (Same.seqT g.rest.1 hya), _, _, rfl, rfl, ?_⟩⟩
        have hsz1 : (size1 (T1 (if u = true then "leave" else "enter")) : Int) = 1 + (([] : List V).length : Int) := by rw [hsize]; rfl
        refine ⟨_, rfl, _, rfl, _, _, rfl, rfl, _, _, rfl, rfl, _, rfl, ite2 (fun h9 => ?_) (fun _ => ⟨_, u, l, left, _, _, _, _, vs, ds, rfl, g, hRl, hli, hds, ⟨knm, kn0, kn1⟩, hpf, hsz, hleft, by omega⟩)⟩
        have h9 := of_decide_eq_true h9
        obtain ⟨ia, xi, hia, hi1, hi2⟩ := dp_head di
        refine ⟨_, rfl, _, rfl, _, _, rfl, rfl, ?_⟩
        refine ⟨_, rfl, .inl ⟨rfl, _, .inl (.inl hli)⟩, _, rfl, li, _, _, rfl, rfl, hli, small1000 (by omega), ?_⟩
        obtain ⟨g', hli'⟩ := go_put2 (.lst (vs ++ [if u = true then V.ref c2 else V.ref c1])) g hl0 hRl hne
        clear hli g
        have g := g'
        have hli := hli'
        clear g' hli'
        refine ⟨_, rfl, _, rfl, ia, xi, _, _, hia, rfl, Same.seqT g.rest.1 hi1, hi2, (by show 2 ≤ sizeLine; decide), fun b5 hb5 => ?_⟩
        have gi := go_new2 (.lst [.str "enter", .str "leave"]) g.rest hb5
        replace g := g.trans gi
        replace hRl := gi.fresh li _ hli hRl
        replace hli := gi.keep li hne _ hli
        replace hds := dpAll_same gi.same _ _ hds
        replace knm := gi.same _ _ knm
        replace kn0 := gi.same _ _ kn0
        replace kn1 := gi.same _ _ kn1
        replace di := dp_same gi.same _ _ di
        replace hi1 := Same.seqT gi.same hi1
        refine ⟨b5, _, rfl, .inl (.inl (.inl upd_same)), rfl, rfl, rfl, ?_⟩
        refine ⟨_, rfl, _, rfl, ia, xi, _, _, hia, rfl, Same.seqT g.rest.1 hi1, hi2, (by show 2 ≤ sizeLine; decide), fun b6 hb6 => ?_⟩
        have gi := go_new2 (.lst [.str "lock", .str "unlock"]) g.rest hb6
        replace g := g.trans gi
        replace hRl := gi.fresh li _ hli hRl
        replace hli := gi.keep li hne _ hli
        replace hds := dpAll_same gi.same _ _ hds
        replace knm := gi.same _ _ knm
        replace kn0 := gi.same _ _ kn0
        replace kn1 := gi.same _ _ kn1
        replace di := dp_same gi.same _ _ di
        refine ⟨b6, _, rfl, .inl (.inl (.inl upd_same)), rfl, rfl, rfl, ?_⟩
        refine ⟨_, _, _, _, _, _, _, _, _, ds ++ [(T1 (if u = true then "leave" else "enter"))], rfl, g, hRl, hli, dpAll_app hds (.cons di .nil), ⟨knm, kn0, kn1⟩, hpf.snoc hi, ?_, h9, by rw [List.length_append, List.length_singleton]; omega⟩
        rw [sizeR_app]
        have e1 : sizeR [(T1 (if u = true then "leave" else "enter"))] = size1 (T1 (if u = true then "leave" else "enter")) := by show size1 (T1 (if u = true then "leave" else "enter")) + 0 = _; omega
        rw [e1]
        omega
      have hw23 := not23 h1
      refine ⟨_, rfl, rfl, _, rfl, ite2 (fun h2 => ?_) (fun h2 => ?_)⟩
      · have hw4 := eq_dec h2
        clear di
        refine ⟨(by show 1 ≤ sizeLine; decide), fun c1 hc1 => ?_⟩
        obtain ⟨gi, de1⟩ := tup_new (K := K) (vs := [.str "lock"]) (ds := [.str "lock"]) g.rest hc1 (.cons (.str _) .nil)
        replace g := g.trans gi
        replace hRl := gi.fresh li _ hli hRl
        replace hli := gi.keep li hne _ hli
        replace hds := dpAll_same gi.same _ _ hds
        replace knm := gi.same _ _ knm
        replace kn0 := gi.same _ _ kn0
        replace kn1 := gi.same _ _ kn1
        refine ⟨(by show 1 ≤ sizeLine; decide), fun c2 hc2 => ?_⟩
        obtain ⟨gi, de2⟩ := tup_new (K := K) (vs := [.str "unlock"]) (ds := [.str "unlock"]) g.rest hc2 (.cons (.str _) .nil)
        replace g := g.trans gi
        replace hRl := gi.fresh li _ hli hRl
        replace hli := gi.keep li hne _ hli
        replace hds := dpAll_same gi.same _ _ hds
        replace knm := gi.same _ _ knm
        replace kn0 := gi.same _ _ kn0
        replace kn1 := gi.same _ _ kn1
        replace de1 := dp_same gi.same _ _ de1
        refine ⟨(by show 2 ≤ sizeLine; decide), fun c3 hc3 => ?_⟩
        obtain ⟨gi, k4⟩ := lst_raw [.ref c1, .ref c2] g.rest hc3
        replace g := g.trans gi
        replace hRl := gi.fresh li _ hli hRl
        replace hli := gi.keep li hne _ hli
        replace hds := dpAll_same gi.same _ _ hds
        replace knm := gi.same _ _ knm
        replace kn0 := gi.same _ _ kn0
        replace kn1 := gi.same _ _ kn1
        replace de1 := dp_same gi.same _ _ de1
        replace de2 := dp_same gi.same _ _ de2
        have di := dp_two (u := l) de1 de2
        refine ⟨_, rfl, .inr ⟨_, rfl, c3, _, _, _, rfl, rfl, .inl (.inl upd_same), two_at l, ?_⟩⟩
        refine ⟨_, rfl, rfl, _, rfl, ite2 (fun h => absurd (eq_dec h) (by omega)) (fun _ => iteF ?_)⟩
        refine ⟨_, rfl, _, _, rfl, rfl, _, rfl, ite2 (fun h => absurd (of_decide_eq_true h) (by omega)) (fun _ => ?_)⟩
        have hi := item_lu (ns := ns) (ms := ms) (t := t) (u := u) (l := l)
        have hsize : size1 (T1 (if l = true then "unlock" else "lock")) = 1 := by rfl
        refine ⟨_, rfl, _, rfl, slice_lo (K := K) g.rest di fun y1 Ri Hi gi e1 => ?_⟩
        replace g := g.trans gi
        replace hRl := gi.fresh li _ hli hRl
        replace hli := gi.keep li hne _ hli
        replace hds := dpAll_same gi.same _ _ hds
        replace knm := gi.same _ _ knm
        replace kn0 := gi.same _ _ kn0
        replace kn1 := gi.same _ _ kn1
        replace di := dp_same gi.same _ _ di
        rw [cut2_nil (by simp)] at e1
        obtain ⟨ya, rfl, hya⟩ := dp_unit e1
        refine ⟨false, .inr (.inl ⟨[], Same.seqT g.rest.1 hya, rfl⟩), iteF ⟨ya, [], rfl, .inr (Same.seqT g.rest.1 hya), _, _, rfl, rfl, ?_⟩⟩
        have hsz1 : (size1 (T1 (if l = true then "unlock" else "lock")) : Int) = 1 + (([] : List V).length : Int) := by rw [hsize]; rfl
        refine ⟨_, rfl, _, rfl, _, _, rfl, rfl, _, _, rfl, rfl, _, rfl, ite2 (fun h9 => ?_) (fun _ => ⟨_, u, l, left, _, _, _, _, vs, ds, rfl, g, hRl, hli, hds, ⟨knm, kn0, kn1⟩, hpf, hsz, hleft, by omega⟩)⟩
        have h9 := of_decide_eq_true h9
        obtain ⟨ia, xi, hia, hi1, hi2⟩ := dp_head di
        refine ⟨_, rfl, _, rfl, _, _, rfl, rfl, ?_⟩
        refine ⟨_, rfl, .inl ⟨rfl, _, .inl (.inl hli)⟩, _, rfl, li, _, _, rfl, rfl, hli, small1000 (by omega), ?_⟩
        obtain ⟨g', hli'⟩ := go_put2 (.lst (vs ++ [if l = true then V.ref c2 else V.ref c1])) g hl0 hRl hne
        clear hli g
        have g := g'
        have hli := hli'
        clear g' hli'
        refine ⟨_, rfl, _, rfl, ia, xi, _, _, hia, rfl, Same.seqT g.rest.1 hi1, hi2, (by show 2 ≤ sizeLine; decide), fun b5 hb5 => ?_⟩
        have gi := go_new2 (.lst [.str "enter", .str "leave"]) g.rest hb5
        replace g := g.trans gi
        replace hRl := gi.fresh li _ hli hRl
        replace hli := gi.keep li hne _ hli
        replace hds := dpAll_same gi.same _ _ hds
        replace knm := gi.same _ _ knm
        replace kn0 := gi.same _ _ kn0
        replace kn1 := gi.same _ _ kn1
        replace di := dp_same gi.same _ _ di
        replace hi1 := Same.seqT gi.same hi1
        refine ⟨b5, _, rfl, .inl (.inl (.inl upd_same)), rfl, rfl, rfl, ?_⟩
        refine ⟨_, rfl, _, rfl, ia, xi, _, _, hia, rfl, Same.seqT g.rest.1 hi1, hi2, (by show 2 ≤ sizeLine; decide), fun b6 hb6 => ?_⟩
        have gi := go_new2 (.lst [.str "lock", .str "unlock"]) g.rest hb6
        replace g := g.trans gi
        replace hRl := gi.fresh li _ hli hRl
        replace hli := gi.keep li hne _ hli
        replace hds := dpAll_same gi.same _ _ hds
        replace knm := gi.same _ _ knm
        replace kn0 := gi.same _ _ kn0
        replace kn1 := gi.same _ _ kn1
        replace di := dp_same gi.same _ _ di
        refine ⟨b6, _, rfl, .inl (.inl (.inl upd_same)), rfl, rfl, rfl, ?_⟩
        refine ⟨_, _, _, _, _, _, _, _, _, ds ++ [(T1 (if l = true then "unlock" else "lock"))], rfl, g, hRl, hli, dpAll_app hds (.cons di .nil), ⟨knm, kn0, kn1⟩, hpf.snoc hi, ?_, h9, by rw [List.length_append, List.length_singleton]; omega⟩
        rw [sizeR_app]
        have e1 : sizeR [(T1 (if l = true then "unlock" else "lock"))] = size1 (T1 (if l = true then "unlock" else "lock")) := by show size1 (T1 (if l = true then "unlock" else "lock")) + 0 = _; omega
        rw [e1]
        omega
      have hw4 := ne_dec h2
      refine ⟨_, rfl, rfl, _, rfl, ite2 (fun h3 => ⟨_, rfl, nm, _, _, _, rfl, rfl, .inl (.inl (g.rest.1 _ _ knm)), rfl, Nat.zero_le _, fun b2 hb2 => ?_⟩) (fun h3 => iteF ?_)⟩
      · have hw5 := eq_dec h3
        have gi := go_new2 (.lst []) g.rest hb2
        replace g := g.trans gi
        replace hRl := gi.fresh li _ hli hRl
        replace hli := gi.keep li hne _ hli
        replace hds := dpAll_same gi.same _ _ hds
        replace knm := gi.same _ _ knm
        replace kn0 := gi.same _ _ kn0
        replace kn1 := gi.same _ _ kn1
        replace di := dp_same gi.same _ _ di
        refine ⟨_, _, .lst (.inl (.inl (g.rest.1 _ _ kn0))) (dp_strs ns), .lst (xs := []) (.inl (.inl upd_same)) .nil, strs_lay ns hsane, rfl, _, rfl, ite2 (fun h4 => ?_) (fun h4 => ?_)⟩
        · rw [strs_eqv] at h4
          clear di
          have hpos : 0 < (ns.map V.str).length := by cases ns with
            | nil => cases h4
            | cons a b => exact Nat.succ_pos _
          refine ⟨_, rfl, _, rfl, nm, _, _, _, rfl, rfl, .inl (.inl (g.rest.1 _ _ knm)), rfl, p, n0, _, _, rfl, .inl (.inl kn0), hpos, g.rest, fun x Hx hx gi => ?_⟩
          replace g := g.trans gi
          replace hRl := gi.fresh li _ hli hRl
          replace hli := gi.keep li hne _ hli
          replace hds := dpAll_same gi.same _ _ hds
          replace knm := gi.same _ _ knm
          replace kn0 := gi.same _ _ kn0
          replace kn1 := gi.same _ _ kn1
          obtain ⟨n, hn, rfl⟩ := List.mem_map.mp hx
          refine ⟨(by show 2 ≤ sizeLine; decide), fun c1 hc1 => ?_⟩
          obtain ⟨gi, di⟩ := tup_new (K := K) (vs := [.str "start", .str n]) (ds := [.str "start", .str n]) g.rest hc1 (.cons (.str _) (.cons (.str _) .nil))
          replace g := g.trans gi
          replace hRl := gi.fresh li _ hli hRl
          replace hli := gi.keep li hne _ hli
          replace hds := dpAll_same gi.same _ _ hds
          replace knm := gi.same _ _ knm
          replace kn0 := gi.same _ _ kn0
          replace kn1 := gi.same _ _ kn1
          refine ⟨_, rfl, _, _, rfl, rfl, _, rfl, ite2 (fun h => absurd (of_decide_eq_true h) (by omega)) (fun _ => ?_)⟩
          have hi := item_start (ns := ns) (ms := ms) (t := t) (u := u) (l := l) hn
          have hsize : size1 (TS n) = 1 := by rfl
          refine ⟨_, rfl, _, rfl, slice_lo (K := K) g.rest di fun y1 Ri Hi gi e1 => ?_⟩
          replace g := g.trans gi
          replace hRl := gi.fresh li _ hli hRl
          replace hli := gi.keep li hne _ hli
          replace hds := dpAll_same gi.same _ _ hds
          replace knm := gi.same _ _ knm
          replace kn0 := gi.same _ _ kn0
          replace kn1 := gi.same _ _ kn1
          replace di := dp_same gi.same _ _ di
          rw [cut2_nil (by simp)] at e1
          obtain ⟨ya, rfl, hya⟩ := dp_unit e1
          refine ⟨false, .inr (.inl ⟨[], Same.seqT g.rest.1 hya, rfl⟩), iteF ⟨ya, [], rfl, .inr (Same.seqT g.rest.1 hya), _, _, rfl, rfl, ?_⟩⟩
          have hsz1 : (size1 (TS n) : Int) = 1 + (([] : List V).length : Int) := by rw [hsize]; rfl
          refine ⟨_, rfl, _, rfl, _, _, rfl, rfl, _, _, rfl, rfl, _, rfl, ite2 (fun h9 => ?_) (fun _ => ⟨_, u, l, left, _, _, _, _, vs, ds, rfl, g, hRl, hli, hds, ⟨knm, kn0, kn1⟩, hpf, hsz, hleft, by omega⟩)⟩
          have h9 := of_decide_eq_true h9
          obtain ⟨ia, xi, hia, hi1, hi2⟩ := dp_head di
          refine ⟨_, rfl, _, rfl, _, _, rfl, rfl, ?_⟩
          refine ⟨_, rfl, .inl ⟨rfl, _, .inl (.inl hli)⟩, _, rfl, li, _, _, rfl, rfl, hli, small1000 (by omega), ?_⟩
          obtain ⟨g', hli'⟩ := go_put2 (.lst (vs ++ [V.ref c1])) g hl0 hRl hne
          clear hli g
          have g := g'
          have hli := hli'
          clear g' hli'
          refine ⟨_, rfl, _, rfl, ia, xi, _, _, hia, rfl, Same.seqT g.rest.1 hi1, hi2, (by show 2 ≤ sizeLine; decide), fun b5 hb5 => ?_⟩
          have gi := go_new2 (.lst [.str "enter", .str "leave"]) g.rest hb5
          replace g := g.trans gi
          replace hRl := gi.fresh li _ hli hRl
          replace hli := gi.keep li hne _ hli
          replace hds := dpAll_same gi.same _ _ hds
          replace knm := gi.same _ _ knm
          replace kn0 := gi.same _ _ kn0
          replace kn1 := gi.same _ _ kn1
          replace di := dp_same gi.same _ _ di
          replace hi1 := Same.seqT gi.same hi1
          refine ⟨b5, _, rfl, .inl (.inl (.inl upd_same)), rfl, rfl, rfl, ?_⟩
          refine ⟨_, rfl, _, rfl, ia, xi, _, _, hia, rfl, Same.seqT g.rest.1 hi1, hi2, (by show 2 ≤ sizeLine; decide), fun b6 hb6 => ?_⟩
          have gi := go_new2 (.lst [.str "lock", .str "unlock"]) g.rest hb6
          replace g := g.trans gi
          replace hRl := gi.fresh li _ hli hRl
          replace hli := gi.keep li hne _ hli
          replace hds := dpAll_same gi.same _ _ hds
          replace knm := gi.same _ _ knm
          replace kn0 := gi.same _ _ kn0
          replace kn1 := gi.same _ _ kn1
          replace di := dp_same gi.same _ _ di
          refine ⟨b6, _, rfl, .inl (.inl (.inl upd_same)), rfl, rfl, rfl, ?_⟩
          refine ⟨_, _, _, _, _, _, _, _, _, ds ++ [(TS n)], rfl, g, hRl, hli, dpAll_app hds (.cons di .nil), ⟨knm, kn0, kn1⟩, hpf.snoc hi, ?_, h9, by rw [List.length_append, List.length_singleton]; omega⟩
          rw [sizeR_app]
          have e1 : sizeR [(TS n)] = size1 (TS n) := by show size1 (TS n) + 0 = _; omega
          rw [e1]
          omega
        · refine ⟨_, rfl, _, _, rfl, rfl, _, rfl, ite2 (fun h => absurd (of_decide_eq_true h) (by omega)) (fun _ => ?_)⟩
          have hi := item_plain (ns := ns) (ms := ms) (t := t) (u := u) (l := l) hw0
          have hsize : size1 (T1 w0) = 1 := by rfl
          refine ⟨_, rfl, _, rfl, slice_lo (K := K) g.rest di fun y1 Ri Hi gi e1 => ?_⟩
          replace g := g.trans gi
          replace hRl := gi.fresh li _ hli hRl
          replace hli := gi.keep li hne _ hli
          replace hds := dpAll_same gi.same _ _ hds
          replace knm := gi.same _ _ knm
          replace kn0 := gi.same _ _ kn0
          replace kn1 := gi.same _ _ kn1
          replace di := dp_same gi.same _ _ di
          rw [cut2_nil (by simp)] at e1
          obtain ⟨ya, rfl, hya⟩ := dp_unit e1
          refine ⟨false, .inr (.inl ⟨[], Same.seqT g.rest.1 hya, rfl⟩), iteF ⟨ya, [], rfl, .inr (Same.seqT g.rest.1 hya), _, _, rfl, rfl, ?_⟩⟩
          have hsz1 : (size1 (T1 w0) : Int) = 1 + (([] : List V).length : Int) := by rw [hsize]; rfl
          refine ⟨_, rfl, _, rfl, _, _, rfl, rfl, _, _, rfl, rfl, _, rfl, ite2 (fun h9 => ?_) (fun _ => ⟨_, u, l, left, _, _, _, _, vs, ds, rfl, g, hRl, hli, hds, ⟨knm, kn0, kn1⟩, hpf, hsz, hleft, by omega⟩)⟩
          have h9 := of_decide_eq_true h9
          obtain ⟨ia, xi, hia, hi1, hi2⟩ := dp_head di
          refine ⟨_, rfl, _, rfl, _, _, rfl, rfl, ?_⟩
          refine ⟨_, rfl, .inl ⟨rfl, _, .inl (.inl hli)⟩, _, rfl, li, _, _, rfl, rfl, hli, small1000 (by omega), ?_⟩
          obtain ⟨g', hli'⟩ := go_put2 (.lst (vs ++ [v])) g hl0 hRl hne
          clear hli g
          have g := g'
          have hli := hli'
          clear g' hli'
          refine ⟨_, rfl, _, rfl, ia, xi, _, _, hia, rfl, Same.seqT g.rest.1 hi1, hi2, (by show 2 ≤ sizeLine; decide), fun b5 hb5 => ?_⟩
          have gi := go_new2 (.lst [.str "enter", .str "leave"]) g.rest hb5
          replace g := g.trans gi
          replace hRl := gi.fresh li _ hli hRl
          replace hli := gi.keep li hne _ hli
          replace hds := dpAll_same gi.same _ _ hds
          replace knm := gi.same _ _ knm
          replace kn0 := gi.same _ _ kn0
          replace kn1 := gi.same _ _ kn1
          replace di := dp_same gi.same _ _ di
          replace hi1 := Same.seqT gi.same hi1
          refine ⟨b5, _, rfl, .inl (.inl (.inl upd_same)), rfl, rfl, rfl, ?_⟩
          refine ⟨_, rfl, _, rfl, ia, xi, _, _, hia, rfl, Same.seqT g.rest.1 hi1, hi2, (by show 2 ≤ sizeLine; decide), fun b6 hb6 => ?_⟩
          have gi := go_new2 (.lst [.str "lock", .str "unlock"]) g.rest hb6
          replace g := g.trans gi
          replace hRl := gi.fresh li _ hli hRl
          replace hli := gi.keep li hne _ hli
          replace hds := dpAll_same gi.same _ _ hds
          replace knm := gi.same _ _ knm
          replace kn0 := gi.same _ _ kn0
          replace kn1 := gi.same _ _ kn1
          replace di := dp_same gi.same _ _ di
          refine ⟨b6, _, rfl, .inl (.inl (.inl upd_same)), rfl, rfl, rfl, ?_⟩
          refine ⟨_, _, _, _, _, _, _, _, _, ds ++ [(T1 w0)], rfl, g, hRl, hli, dpAll_app hds (.cons di .nil), ⟨knm, kn0, kn1⟩, hpf.snoc hi, ?_, h9, by rw [List.length_append, List.length_singleton]; omega⟩
          rw [sizeR_app]
          have e1 : sizeR [(T1 w0)] = size1 (T1 w0) := by show size1 (T1 w0) + 0 = _; omega
          rw [e1]
          omega
      refine ⟨_, rfl, _, _, rfl, rfl, _, rfl, ite2 (fun h5 => ?_) (fun _ => ?_)⟩
      · clear di
        refine ⟨_, rfl, _, rfl, nm, _, _, _, rfl, rfl, .inl (.inl (g.rest.1 _ _ knm)), rfl, p, n1, _, _, rfl, .inl (.inl kn1), by rw [List.length_map]; exact hms, g.rest, fun x Hx hx gi => ?_⟩
        replace g := g.trans gi
        replace hRl := gi.fresh li _ hli hRl
        replace hli := gi.keep li hne _ hli
        replace hds := dpAll_same gi.same _ _ hds
        replace knm := gi.same _ _ knm
        replace kn0 := gi.same _ _ kn0
        replace kn1 := gi.same _ _ kn1
        obtain ⟨m, hm, rfl⟩ := List.mem_map.mp hx
        refine ⟨_, rfl, _, rfl, _, rfl, _, rfl, p, u, l, t, _, rfl, g.rest, fun xo Ro Ho o gi dx ho h4 => ?_⟩
        replace g := g.trans gi
        replace hRl := gi.fresh li _ hli hRl
        replace hli := gi.keep li hne _ hli
        replace hds := dpAll_same gi.same _ _ hds
        replace knm := gi.same _ _ knm
        replace kn0 := gi.same _ _ kn0
        replace kn1 := gi.same _ _ kn1
        refine ⟨(by show 3 ≤ sizeLine; decide), fun c1 hc1 => ?_⟩
        obtain ⟨gi, di⟩ := tup_new (K := K) (vs := [.str "ask", .str m, xo]) (ds := [.str "ask", .str m, .tuple o]) g.rest hc1 (.cons (.str _) (.cons (.str _) (.cons dx .nil)))
        replace g := g.trans gi
        replace hRl := gi.fresh li _ hli hRl
        replace hli := gi.keep li hne _ hli
        replace hds := dpAll_same gi.same _ _ hds
        replace knm := gi.same _ _ knm
        replace kn0 := gi.same _ _ kn0
        replace kn1 := gi.same _ _ kn1
        have hi := item_ask (ns := ns) (t := t) hm (ho ns ms) h4
        have hsize : size1 (TA3 m o) = 1 + o.length := by rfl
        refine ⟨_, rfl, _, rfl, slice_lo (K := K) g.rest di fun y1 Ri Hi gi e1 => ?_⟩
        replace g := g.trans gi
        replace hRl := gi.fresh li _ hli hRl
        replace hli := gi.keep li hne _ hli
        replace hds := dpAll_same gi.same _ _ hds
        replace knm := gi.same _ _ knm
        replace kn0 := gi.same _ _ kn0
        replace kn1 := gi.same _ _ kn1
        replace di := dp_same gi.same _ _ di
        obtain ⟨ya, y2, rfl, hya⟩ := dp_single (d := .tuple o) e1
        obtain ⟨ja, oa, xs2, ys2, hja, h21, h22, h23, h24⟩ := dp_third di
        refine ⟨true, .inr (.inl ⟨_, Same.seqT g.rest.1 hya, rfl⟩), iteT ⟨_, rfl, ja, xs2, _, _, hja, rfl, Same.seqT g.rest.1 h21, h22, oa, ys2, rfl, .inr (Same.seqT g.rest.1 h23), _, _, rfl, rfl, ?_⟩⟩
        have hsz1 : (size1 (TA3 m o) : Int) = 1 + (ys2.length : Int) := by rw [hsize, h24]; omega
        refine ⟨_, rfl, _, rfl, _, _, rfl, rfl, _, _, rfl, rfl, _, rfl, ite2 (fun h9 => ?_) (fun _ => ⟨_, u, l, left, _, _, _, _, vs, ds, rfl, g, hRl, hli, hds, ⟨knm, kn0, kn1⟩, hpf, hsz, hleft, by omega⟩)⟩
        have h9 := of_decide_eq_true h9
        obtain ⟨ia, xi, hia, hi1, hi2⟩ := dp_head di
        refine ⟨_, rfl, _, rfl, _, _, rfl, rfl, ?_⟩
        refine ⟨_, rfl, .inl ⟨rfl, _, .inl (.inl hli)⟩, _, rfl, li, _, _, rfl, rfl, hli, small1000 (by omega), ?_⟩
        obtain ⟨g', hli'⟩ := go_put2 (.lst (vs ++ [V.ref c1])) g hl0 hRl hne
        clear hli g
        have g := g'
        have hli := hli'
        clear g' hli'
        refine ⟨_, rfl, _, rfl, ia, xi, _, _, hia, rfl, Same.seqT g.rest.1 hi1, hi2, (by show 2 ≤ sizeLine; decide), fun b5 hb5 => ?_⟩
        have gi := go_new2 (.lst [.str "enter", .str "leave"]) g.rest hb5
        replace g := g.trans gi
        replace hRl := gi.fresh li _ hli hRl
        replace hli := gi.keep li hne _ hli
        replace hds := dpAll_same gi.same _ _ hds
        replace knm := gi.same _ _ knm
        replace kn0 := gi.same _ _ kn0
        replace kn1 := gi.same _ _ kn1
        replace di := dp_same gi.same _ _ di
        replace hi1 := Same.seqT gi.same hi1
        refine ⟨b5, _, rfl, .inl (.inl (.inl upd_same)), rfl, rfl, rfl, ?_⟩
        refine ⟨_, rfl, _, rfl, ia, xi, _, _, hia, rfl, Same.seqT g.rest.1 hi1, hi2, (by show 2 ≤ sizeLine; decide), fun b6 hb6 => ?_⟩
        have gi := go_new2 (.lst [.str "lock", .str "unlock"]) g.rest hb6
        replace g := g.trans gi
        replace hRl := gi.fresh li _ hli hRl
        replace hli := gi.keep li hne _ hli
        replace hds := dpAll_same gi.same _ _ hds
        replace knm := gi.same _ _ knm
        replace kn0 := gi.same _ _ kn0
        replace kn1 := gi.same _ _ kn1
        replace di := dp_same gi.same _ _ di
        refine ⟨b6, _, rfl, .inl (.inl (.inl upd_same)), rfl, rfl, rfl, ?_⟩
        refine ⟨_, _, _, _, _, _, _, _, _, ds ++ [(TA3 m o)], rfl, g, hRl, hli, dpAll_app hds (.cons di .nil), ⟨knm, kn0, kn1⟩, hpf.snoc hi, ?_, h9, by rw [List.length_append, List.length_singleton]; omega⟩
        rw [sizeR_app]
        have e1 : sizeR [(TA3 m o)] = size1 (TA3 m o) := by show size1 (TA3 m o) + 0 = _; omega
        rw [e1]
        omega
      · have hi := item_plain (ns := ns) (ms := ms) (t := t) (u := u) (l := l) hw0
        have hsize : size1 (T1 w0) = 1 := by rfl
        refine ⟨_, rfl, _, rfl, slice_lo (K := K) g.rest di fun y1 Ri Hi gi e1 => ?_⟩
        replace g := g.trans gi
        replace hRl := gi.fresh li _ hli hRl
        replace hli := gi.keep li hne _ hli
        replace hds := dpAll_same gi.same _ _ hds
        replace knm := gi.same _ _ knm
        replace kn0 := gi.same _ _ kn0
        replace kn1 := gi.same _ _ kn1
        replace di := dp_same gi.same _ _ di
        rw [cut2_nil (by simp)] at e1
        obtain ⟨ya, rfl, hya⟩ := dp_unit e1
        refine ⟨false, .inr (.inl ⟨[], Same.seqT g.rest.1 hya, rfl⟩), iteF ⟨ya, [], rfl, .inr (Same.seqT g.rest.1 hya), _, _, rfl, rfl, ?_⟩⟩
        have hsz1 : (size1 (T1 w0) : Int) = 1 + (([] : List V).length : Int) := by rw [hsize]; rfl
        refine ⟨_, rfl, _, rfl, _, _, rfl, rfl, _, _, rfl, rfl, _, rfl, ite2 (fun h9 => ?_) (fun _ => ⟨_, u, l, left, _, _, _, _, vs, ds, rfl, g, hRl, hli, hds, ⟨knm, kn0, kn1⟩, hpf, hsz, hleft, by omega⟩)⟩
        have h9 := of_decide_eq_true h9
        obtain ⟨ia, xi, hia, hi1, hi2⟩ := dp_head di
        refine ⟨_, rfl, _, rfl, _, _, rfl, rfl, ?_⟩
        refine ⟨_, rfl, .inl ⟨rfl, _, .inl (.inl hli)⟩, _, rfl, li, _, _, rfl, rfl, hli, small1000 (by omega), ?_⟩
        obtain ⟨g', hli'⟩ := go_put2 (.lst (vs ++ [v])) g hl0 hRl hne
        clear hli g
        have g := g'
        have hli := hli'
        clear g' hli'
        refine ⟨_, rfl, _, rfl, ia, xi, _, _, hia, rfl, Same.seqT g.rest.1 hi1, hi2, (by show 2 ≤ sizeLine; decide), fun b5 hb5 => ?_⟩
        have gi := go_new2 (.lst [.str "enter", .str "leave"]) g.rest hb5
        replace g := g.trans gi
        replace hRl := gi.fresh li _ hli hRl
        replace hli := gi.keep li hne _ hli
        replace hds := dpAll_same gi.same _ _ hds
        replace knm := gi.same _ _ knm
        replace kn0 := gi.same _ _ kn0
        replace kn1 := gi.same _ _ kn1
        replace di := dp_same gi.same _ _ di
        replace hi1 := Same.seqT gi.same hi1
        refine ⟨b5, _, rfl, .inl (.inl (.inl upd_same)), rfl, rfl, rfl, ?_⟩
        refine ⟨_, rfl, _, rfl, ia, xi, _, _, hia, rfl, Same.seqT g.rest.1 hi1, hi2, (by show 2 ≤ sizeLine; decide), fun b6 hb6 => ?_⟩
        have gi := go_new2 (.lst [.str "lock", .str "unlock"]) g.rest hb6
        replace g := g.trans gi
        replace hRl := gi.fresh li _ hli hRl
        replace hli := gi.keep li hne _ hli
        replace hds := dpAll_same gi.same _ _ hds
        replace knm := gi.same _ _ knm
        replace kn0 := gi.same _ _ kn0
        replace kn1 := gi.same _ _ kn1
        replace di := dp_same gi.same _ _ di
        refine ⟨b6, _, rfl, .inl (.inl (.inl upd_same)), rfl, rfl, rfl, ?_⟩
        refine ⟨_, _, _, _, _, _, _, _, _, ds ++ [(T1 w0)], rfl, g, hRl, hli, dpAll_app hds (.cons di .nil), ⟨knm, kn0, kn1⟩, hpf.snoc hi, ?_, h9, by rw [List.length_append, List.length_singleton]; omega⟩
        rw [sizeR_app]
        have e1 : sizeR [(T1 w0)] = size1 (T1 w0) := by show size1 (T1 w0) + 0 = _; omega
        rw [e1]
        omega
    · rintro σ H2 ⟨R1, u, l, left, y8, y9, y10, y11, vs, ds, rfl, g, hRl, hli, hds, ⟨knm, kn0, kn1⟩, hpf, hsz, hleft, hvl⟩
      have g2 := go_show g hl0 hRl hne hli
      have es : Same R1 (upd R1 li (.lst vs)) := same_upd hRl
      have fi : LD K (upd R1 li (.lst vs)) (.ref li) ds := ⟨li, vs, rfl, upd_same, dpAll_same es _ _ hds⟩
      refine ⟨_, rfl, _, rfl, _, rfl, _, rfl, _, rfl, p, u, l, t, 9, _, rfl, by decide, g2.rest, fun x R' H' c gi fc hc => ?_⟩
      obtain ⟨hc1, hc2, hc3⟩ := hc.ok (ns := ns) (ms := ms) (a := true)
      have hdl := dpAll_len hds
      refine catL (K := K) (g2.trans gi).rest (fi.same gi.same) fc (by omega) fun y Ri Hi gj fy => ?_
      refine q _ _ _ _ ((g2.trans gi).trans gj) fy (hpf _ hc1) ?_
      rw [sizeR_app]
      omega
end
end K04

namespace K04
open PySem PySem.Spec PyProof.Rows L2 TL GG
section
variable {P : Program} {w : World} {K : PySem.W.Frag} {mg : Str → Option Value} {base : Heap}
def spHand (K : PySem.W.Frag) : Sp := fun vs H Q _ => ∃ (p nm n0 n1 : Addr) (R : Hp) (ns ms : List Str), vs = [.ref p, .ref nm] ∧ Rest p R H ∧ (R nm = some (.lst [.ref n0, .ref n1]) ∧ R n0 = some (.lst (ns.map V.str)) ∧ R n1 = some (.lst (ms.map V.str))) ∧
  (0 < ms.length ∧ ms.length ≤ 100 ∧ ns.length ≤ 100 ∧ (∀ n ∈ ns, Sane n)) ∧ ∀ x R' H' ds, Go p R H R' H' → Dp K R' x (.tuple ds) → HandOk ns ms ds → Q x H'
theorem sc_l_hand : FnScope ["_law_pool_here", "_law_names", "_law_some", "_law_opening", "_law_word"] ["_law_pool_here", "_law_names"] (defScope s_l_hand) := ⟨rfl, rfl, rfl, by decide +kernel, rfl, by decide +kernel, by decide +kernel⟩
theorem ok_l_hand {f : Addr} {fd : FuncData} (F : Fun K "_law_hand" "_law_hand" s_l_hand f fd) (T : Blt K mg) {f1 : Addr} {fd1 : FuncData} (F_l_pick : Fun K "_law_pick" "_law_pick" s_l_pick f1 fd1) (b_l_pick : Binds K fd1 ["_law_pool_here", "_law_some"] []) (g_l_pick : mg "_law_pick" = some (.ref f1)) (G_l_pick : FnOk P w K mg base CX0 2 f1 fd1 ["_law_pool_here", "_law_some"] (spPick K)) {f2 : Addr} {fd2 : FuncData} (F_l_body : Fun K "_law_body" "_law_body" s_l_body f2 fd2) (b_l_body : Binds K fd2 ["_law_pool_here", "_law_names", "_law_room", "_law_lets"] []) (g_l_body : mg "_law_body" = some (.ref f2)) (G_l_body : FnOk P w K mg base CX0 4 f2 fd2 ["_law_pool_here", "_law_names", "_law_room", "_law_lets"] (spBody K)) : FnOk P w K mg base CX0 5 f fd ["_law_pool_here", "_law_names"] (spHand K) := by
  refine F.ok sc_l_hand (fun vs H Q E h => ?_) (fun cdv A outer s H vs Q E hr h => ?_)
  · obtain ⟨p, nm, n0, n1, R, ns, ms, rfl, _⟩ := h
    rfl
  · obtain ⟨p, nm, n0, n1, R, ns, ms, rfl, k, ⟨knm, kn0, kn1⟩, hcs, q⟩ := h
    refine ⟨_, (pss_cons (ps_set (i := 2) sc_l_hand.nd rfl (.inl rfl) (pe_lst (pa_cons (pe_lst (pa_cons pe_str (pa_cons pe_str pa_nil))) (pa_cons (pe_lst (pa_cons pe_str (pa_cons pe_str pa_nil))) (pa_cons (pe_lst (pa_cons pe_str (pa_cons pe_str (pa_cons pe_str (pa_cons pe_str pa_nil))))) (pa_cons (pe_lst (pa_cons pe_str (pa_cons pe_str (pa_cons pe_str (pa_cons pe_str pa_nil))))) pa_nil)))))) 
        (pss_cons (ps_set (i := 2) sc_l_hand.nd rfl (.inl rfl) (pe_op op_cat (pv 2) (pe_lst (pa_cons (pe_lst (pa_cons pe_str (pa_cons pe_str (pa_cons pe_str (pa_cons pe_str pa_nil))))) (pa_cons (pe_lst (pa_cons pe_str (pa_cons pe_str (pa_cons pe_str (pa_cons pe_str pa_nil))))) pa_nil))))) 
        (pss_cons (ps_setLc (i := 3) (own := [("_law_word", 4)]) (g := gName 4) rfl sc_l_hand.nd rfl rfl (sw_true rfl rfl rfl (by decide +kernel)) (pi_list (pe_call G_l_pick (hr.mono (by decide)) (by rfl) g_l_pick F_l_pick.kp b_l_pick .nil pass0 (pa_cons (pv 0) (pa_cons (pv 2) pa_nil)))) (blkOk_by (N := ["_law_pool_here", "_law_names", "_law_some", "_law_opening", "_law_word"]) (sc := defScope s_l_hand) (by decide +kernel)) (fun _ _ _ _ _ => pg_name (i := 4) sc_l_hand.nd rfl (.inl rfl)) (fun _ _ _ _ _ => pts_nil) (fun _ _ _ _ _ => (pe_tup (pa_cons (pv 4) pa_nil)))) 
        (pss_one (ps_ret (pe_callTy call_tuple_of (by rfl) T.m_tuple (by decide +kernel) (pa_cons (pe_op op_cat (pv 3) (pe_call G_l_body hr (by rfl) g_l_body F_l_body.kp b_l_body .nil pass0 (pa_cons (pv 0) (pa_cons (pv 1) (pa_cons (pe_op op_sub pe_int (pe_callB call_len_seq (by rfl) T.m_len PySem.boot_len (pa_cons (pv 3) pa_nil))) (pa_cons pe_bl pa_nil)))))) pa_nil))))))), ?_⟩
    have g := k.go
    refine ⟨(by show 2 ≤ sizeLine; decide), fun l1 hl1 => ?_⟩
    obtain ⟨gi, k1⟩ := lst_raw [.str "look", .str "hold"] g.rest hl1
    replace g := g.trans gi
    refine ⟨(by show 2 ≤ sizeLine; decide), fun l2 hl2 => ?_⟩
    obtain ⟨gi, k2⟩ := lst_raw [.str "look", .str "try"] g.rest hl2
    replace g := g.trans gi
    replace k1 := gi.same _ _ k1
    refine ⟨(by show 4 ≤ sizeLine; decide), fun l3 hl3 => ?_⟩
    obtain ⟨gi, k3⟩ := lst_raw [.str "lock", .str "look", .str "hold", .str "unlock"] g.rest hl3
    replace g := g.trans gi
    replace k1 := gi.same _ _ k1
    replace k2 := gi.same _ _ k2
    refine ⟨(by show 4 ≤ sizeLine; decide), fun l4 hl4 => ?_⟩
    obtain ⟨gi, k4⟩ := lst_raw [.str "lock", .str "look", .str "try", .str "unlock"] g.rest hl4
    replace g := g.trans gi
    replace k1 := gi.same _ _ k1
    replace k2 := gi.same _ _ k2
    replace k3 := gi.same _ _ k3
    refine ⟨(by show 4 ≤ sizeLine; decide), fun a4 ha4 => ?_⟩
    obtain ⟨gi, ka⟩ := lst_raw [.ref l1, .ref l2, .ref l3, .ref l4] g.rest ha4
    replace g := g.trans gi
    replace k1 := gi.same _ _ k1
    replace k2 := gi.same _ _ k2
    replace k3 := gi.same _ _ k3
    replace k4 := gi.same _ _ k4
    refine ⟨_, rfl, ?_⟩
    refine ⟨(by show 4 ≤ sizeLine; decide), fun l5 hl5 => ?_⟩
    obtain ⟨gi, k5⟩ := lst_raw [.str "lock", .str "look", .str "unlock", .str "hold"] g.rest hl5
    replace g := g.trans gi
    replace k1 := gi.same _ _ k1
    replace k2 := gi.same _ _ k2
    replace k3 := gi.same _ _ k3
    replace k4 := gi.same _ _ k4
    replace ka := gi.same _ _ ka
    refine ⟨(by show 4 ≤ sizeLine; decide), fun l6 hl6 => ?_⟩
    obtain ⟨gi, k6⟩ := lst_raw [.str "lock", .str "look", .str "unlock", .str "try"] g.rest hl6
    replace g := g.trans gi
    replace k1 := gi.same _ _ k1
    replace k2 := gi.same _ _ k2
    replace k3 := gi.same _ _ k3
    replace k4 := gi.same _ _ k4
    replace ka := gi.same _ _ ka
    replace k5 := gi.same _ _ k5
    refine ⟨(by show 2 ≤ sizeLine; decide), fun b2 hb2 => ?_⟩
    obtain ⟨gi, kb⟩ := lst_raw [.ref l5, .ref l6] g.rest hb2
    replace g := g.trans gi
    replace k1 := gi.same _ _ k1
    replace k2 := gi.same _ _ k2
    replace k3 := gi.same _ _ k3
    replace k4 := gi.same _ _ k4
    replace ka := gi.same _ _ ka
    replace k5 := gi.same _ _ k5
    replace k6 := gi.same _ _ k6
    refine ⟨a4, b2, _, _, rfl, rfl, g.rest.1 _ _ ka, g.rest.1 _ _ kb, (by show 6 ≤ sizeLine; decide), fun c6 hc6 => ?_⟩
    obtain ⟨gi, kc⟩ := lst_raw ([V.ref l1, .ref l2, .ref l3, .ref l4] ++ [V.ref l5, .ref l6]) g.rest hc6
    replace g := g.trans gi
    replace k1 := gi.same _ _ k1
    replace k2 := gi.same _ _ k2
    replace k3 := gi.same _ _ k3
    replace k4 := gi.same _ _ k4
    replace ka := gi.same _ _ ka
    replace k5 := gi.same _ _ k5
    replace k6 := gi.same _ _ k6
    replace kb := gi.same _ _ kb
    refine ⟨_, rfl, _, rfl, p, c6, _, _, rfl, .inl (.inl kc), (by show 0 < 6; decide), g.rest, fun x Hx hx gi => ?_⟩
    replace g := g.trans gi
    obtain ⟨ao, op, rfl, ko, hop⟩ := six_of k1 k2 k3 k4 k5 k6 hx
    obtain ⟨hop2, hop4⟩ := opens_len hop
    have hopl : (op.map V.str).length = op.length := List.length_map ..
    replace knm := g.same _ _ knm
    replace kn0 := g.same _ _ kn0
    replace kn1 := g.same _ _ kn1
    clear gi k1 k2 k3 k4 k5 k6 ka kb kc hx hl1 hl2 hl3 hl4 hl5 hl6 ha4 hb2 hc6
    refine ⟨ao, rfl, ⟨_, .inl (.inl (g.rest.1 _ _ ko))⟩, fun D hD => ?_⟩
    refine lc_goI (walk_list (xs := op.map V.str)) (by omega) g.rest hD (fun R1 H1 g1 => .inl (.inl (g1.rest.1 _ _ (g1.same _ _ ko)))) (fun i R y => ∃ v : Str, op[i]? = some v ∧ Dp K R y (T1 v)) (fun i _ _ _ s h => h.elim fun v h => ⟨v, h.1, dp_same s _ _ h.2⟩) ?_ ?_
    · rintro j x R6 H6 H6' hj g3 ⟨rfl, hx⟩ C E hC
      rw [List.getElem?_map] at hx
      obtain ⟨v, hv, rfl⟩ := Option.map_eq_some_iff.mp hx
      refine ⟨rfl, yes_then ⟨_, rfl, (by show 1 ≤ sizeLine; decide), fun t ht => ?_⟩⟩
      obtain ⟨gi, du⟩ := tup_new (K := K) (vs := [.str v]) (ds := [.str v]) g3.rest ht (.cons (.str v) .nil)
      exact hC _ _ _ gi ⟨v, hv, du⟩
    intro R6 H6 ys gi kD hyl hP
    replace g := g.trans gi
    replace knm := gi.same _ _ knm
    replace kn0 := gi.same _ _ kn0
    replace kn1 := gi.same _ _ kn1
    have hyo : ys.length = op.length := by rw [hyl, List.length_map]
    have hD2 : DpAll K R6 ys (op.map T1) := dpAll_of_get (by rw [hyo, List.length_map]) fun i y d h1 h2 => by
      obtain ⟨v, hv, hd⟩ := hP i y h1
      rw [List.getElem?_map, hv] at h2
      rw [← Option.some.inj h2]
      exact hd
    have fD : LD K R6 (.ref D) (op.map T1) := ⟨D, ys, rfl, kD, hD2⟩
    refine ⟨_, rfl, _, rfl, _, rfl, _, rfl, D, ys, rfl, .inl (.inl (.inl (g.rest.1 _ _ kD))), _, _, rfl, rfl, p, nm, n0, n1, _, true, _, ns, ms, rfl, g.rest, ⟨knm, kn0, kn1⟩, hcs, ⟨by omega, by omega⟩, fun x R' H' ds gi fx hok hsz => ?_⟩
    replace g := g.trans gi
    have hlen := sizeR_len ds
    refine catL (K := K) g.rest (fD.same gi.same) fx (by rw [List.length_map]; omega) fun y Ri Hi gi fy => ?_
    replace g := g.trans gi
    obtain ⟨ay, vy, rfl, h1, h2⟩ := fy
    refine ⟨ay, vy, rfl, .inl ⟨.inl (.inl (g.rest.1 _ _ h1)), fun z hz => ?_⟩⟩
    obtain ⟨gi, dz⟩ := tup_new (K := K) g.rest hz h2
    exact q _ _ _ _ (g.trans gi) dz ⟨op, ds, hop, rfl, hok, by omega⟩
def spWork (K : PySem.W.Frag) : Sp := fun vs H Q _ => ∃ (p nm n0 n1 : Addr) (R : Hp) (ns ms : List Str), vs = [.ref p, .ref nm] ∧ Rest p R H ∧ (R nm = some (.lst [.ref n0, .ref n1]) ∧ R n0 = some (.lst (ns.map V.str)) ∧ R n1 = some (.lst (ms.map V.str))) ∧
  (0 < ms.length ∧ ms.length ≤ 100 ∧ ns.length ≤ 100 ∧ NamesOk ns ∧ NamesOk ms) ∧ ∀ x R' H' ds, Go p R H R' H' → Dp K R' x (.tuple ds) → WorkOk ns ms ds → Q x H'
theorem sc_l_work : FnScope ["_law_pool_here", "_law_names", "_law_found"] ["_law_pool_here", "_law_names"] (defScope s_l_work) := ⟨rfl, rfl, rfl, by decide +kernel, rfl, by decide +kernel, by decide +kernel⟩
theorem ok_l_work {f : Addr} {fd : FuncData} (F : Fun K "_law_work" "_law_work" s_l_work f fd) (T : Blt K mg) {f1 : Addr} {fd1 : FuncData} (F_l_draw : Fun K "_law_draw" "_law_draw" s_l_draw f1 fd1) (b_l_draw : Binds K fd1 ["_law_pool_here", "_law_many"] []) (g_l_draw : mg "_law_draw" = some (.ref f1)) (G_l_draw : FnOk P w K mg base CX0 1 f1 fd1 ["_law_pool_here", "_law_many"] (spDraw K)) {f2 : Addr} {fd2 : FuncData} (F_l_body : Fun K "_law_body" "_law_body" s_l_body f2 fd2) (b_l_body : Binds K fd2 ["_law_pool_here", "_law_names", "_law_room", "_law_lets"] []) (g_l_body : mg "_law_body" = some (.ref f2)) (G_l_body : FnOk P w K mg base CX0 4 f2 fd2 ["_law_pool_here", "_law_names", "_law_room", "_law_lets"] (spBody K)) : FnOk P w K mg base CX0 5 f fd ["_law_pool_here", "_law_names"] (spWork K) := by
  refine F.ok sc_l_work (fun vs H Q E h => ?_) (fun cdv A outer s H vs Q E hr h => ?_)
  · obtain ⟨p, nm, n0, n1, R, ns, ms, rfl, _⟩ := h
    rfl
  · obtain ⟨p, nm, n0, n1, R, ns, ms, rfl, k, ⟨knm, kn0, kn1⟩, ⟨hms, hms2, hns2, hn1, hn2⟩, q⟩ := h
    refine ⟨_, (pss_cons (ps_set (i := 2) sc_l_work.nd rfl (.inl rfl) (pe_call G_l_body hr (by rfl) g_l_body F_l_body.kp b_l_body .nil pass0 (pa_cons (pv 0) (pa_cons (pv 1) (pa_cons pe_int (pa_cons pe_bl pa_nil)))))) 
        (pss_one (ps_ret (pe_callTy call_tuple_of (by rfl) T.m_tuple (by decide +kernel) (pa_cons (pe_ifExp (pt_cmpR (op_neD hr.units) (pv 2) (pe_lst pa_nil) (nomark _)) (pv 2) (pe_ix ix_list (pe_lst (pa_cons (pe_lst (pa_cons (pe_tup (pa_cons pe_str pa_nil)) pa_nil)) (pa_cons (pe_lst (pa_cons (pe_tup (pa_cons pe_str pa_nil)) pa_nil)) pa_nil))) (pe_call G_l_draw (hr.mono (by decide)) (by rfl) g_l_draw F_l_draw.kp b_l_draw .nil pass0 (pa_cons (pv 0) (pa_cons pe_int pa_nil))) (fun _ _ => rfl))) pa_nil))))), ?_⟩
    have g := k.go
    refine ⟨_, rfl, _, rfl, p, nm, n0, n1, 9, false, R, ns, ms, rfl, g.rest, ⟨knm, kn0, kn1⟩, ⟨hms, hms2, hns2, fun n hn => (hn1 n hn).1⟩, ⟨by decide, by decide⟩, fun x R' H' ds gi fx hok hsz => ?_⟩
    replace g := g.trans gi
    obtain ⟨ax, vx, rfl, h1, h2⟩ := fx
    have hlen := sizeR_len ds
    have hlay : SeqAt.shaped (PyData.list ds) = true := Good.lay (n := 5) (Good.lst.mpr ⟨by omega, rowOk_good hn1 hn2 hok⟩) (by decide)
    refine ⟨_, rfl, Nat.zero_le _, fun b2 hb2 => ?_⟩
    have gi := go_new2 (.lst []) g.rest hb2
    replace g := g.trans gi
    replace h1 := gi.same _ _ h1
    replace h2 := dpAll_same gi.same _ _ h2
    refine ⟨_, _, .lst (.inl (.inl (g.rest.1 _ _ h1))) (dpAll_same g.rest.1 _ _ h2), .lst (xs := []) (.inl (.inl upd_same)) .nil, hlay, rfl, _, rfl, ite2 (fun h => ?_) (fun h => ?_)⟩
    · rw [eqv_nil] at h
      refine ⟨_, rfl, ax, vx, rfl, .inl ⟨.inl (.inl (g.rest.1 _ _ h1)), fun z hz => ?_⟩⟩
      obtain ⟨gi, dz⟩ := tup_new (K := K) g.rest hz h2
      exact q _ _ _ _ (g.trans gi) dz ⟨hok, (fun e => by rw [e] at h; cases h), by omega⟩
    · clear h h1 h2 hlay hlen hok hsz
      refine ⟨(by show 1 ≤ sizeLine; decide), fun u3 hu3 => ?_⟩
      obtain ⟨gi, d3⟩ := tup_new (K := K) (vs := [.str "touch"]) (ds := [.str "touch"]) g.rest hu3 (.cons (.str _) .nil)
      replace g := g.trans gi
      refine ⟨(by show 1 ≤ sizeLine; decide), fun l3 hl3 => ?_⟩
      obtain ⟨gi, f3⟩ := new1 g.rest d3 hl3
      replace g := g.trans gi
      refine ⟨(by show 1 ≤ sizeLine; decide), fun u4 hu4 => ?_⟩
      obtain ⟨gi, d4⟩ := tup_new (K := K) (vs := [.str "use"]) (ds := [.str "use"]) g.rest hu4 (.cons (.str _) .nil)
      replace g := g.trans gi
      replace f3 := f3.same gi.same
      refine ⟨(by show 1 ≤ sizeLine; decide), fun l4 hl4 => ?_⟩
      obtain ⟨gi, f4⟩ := new1 g.rest d4 hl4
      replace g := g.trans gi
      replace f3 := f3.same gi.same
      refine ⟨(by show 2 ≤ sizeLine; decide), fun l5 hl5 => ?_⟩
      obtain ⟨gi, k5⟩ := lst_raw [.ref l3, .ref l4] g.rest hl5
      replace g := g.trans gi
      replace f3 := f3.same gi.same
      replace f4 := f4.same gi.same
      refine ⟨_, rfl, p, 2, _, rfl, by decide, g.rest, fun r1 H1 r10 r11 gi => ?_⟩
      replace g := g.trans gi
      obtain ⟨v, hat, hv⟩ := at_int (xs := [V.ref l3, .ref l4]) r10 (by show r1.toNat < 2; omega)
      refine ⟨l5, _, r1, v, rfl, rfl, .inl (.inl (g.rest.1 _ _ k5)), hat, ?_⟩
      obtain ⟨w, fv, hw⟩ := two_of f3 f4 hv
      obtain ⟨ay, vy, rfl, h1, h2⟩ := fv
      refine ⟨ay, vy, rfl, .inl ⟨.inl (.inl (g.rest.1 _ _ h1)), fun z hz => ?_⟩⟩
      obtain ⟨gi, dz⟩ := tup_new (K := K) g.rest hz h2
      exact q _ _ _ _ (g.trans gi) dz ⟨.plain hw .nil, by simp, by show 1 ≤ 9; decide⟩
end
end K04

namespace K04
open PySem PySem.Spec PyProof.Rows StX L2 TL GG OO LY
/-- an item by its form: no ask, or an ask -/
def ItemD (d : PyData) : Prop := (∃ w r, d = .tuple (.str w :: r) ∧ w ≠ "ask" ∧ wayOf d = none) ∨ ∃ m o, d = .tuple [.str "ask", m, .tuple o]
theorem ItemD.way {d : PyData} (h : ItemD d) : (∃ w r, d = .tuple (.str w :: r) ∧ w ≠ "ask" ∧ way d = []) ∨ ∃ m o, d = .tuple [.str "ask", m, .tuple o] ∧ way d = o := by
  rcases h with ⟨w, r, e, hw, hn⟩ | ⟨m, o, e⟩
  · exact .inl ⟨w, r, e, hw, by unfold LY.way; rw [hn]; rfl⟩
  · subst e
    exact .inr ⟨m, o, rfl, rfl⟩
section
variable {P : Program} {w : World} {K : PySem.W.Frag} {mg : Str → Option Value} {base : Heap} {lt0 lt1 lt2 lt3 lt4 : Tok} {t0 t1 t2 t3 t4 t5 t6 t7 t8 tF tO dC : Addr}
theorem iteB {b c : Bool} {A B : Prop} (e : b = c) (h : if c = true then A else B) : if b = true then A else B := by
  rw [e]
  exact h
/-- three parts -/
theorem dp3 {H : Hp} {x : V} {d1 d2 d3 : PyData} (hd : Dp K H x (.tuple [d1, d2, d3])) : ∃ (a : Addr) (v1 v2 v3 : V), x = .ref a ∧ SqT K H a [v1, v2, v3] ∧ Dp K H v1 d1 ∧ Dp K H v2 d2 ∧ Dp K H v3 d3 := by
  cases hd with
  | tup hx ha =>
    cases ha with
    | cons p1 ha =>
      cases ha with
      | cons p2 ha =>
        cases ha with
        | cons p3 ha =>
          cases ha
          exact ⟨_, _, _, _, rfl, hx, p1, p2, p3⟩
def spWay (K : PySem.W.Frag) : Sp := fun vs H Q _ => ∃ (x : V) (d : PyData), vs = [x] ∧ Dp K H x d ∧ ItemD d ∧ ∀ H' y, Same H H' → Dp K H' y (.tuple (way d)) → Q y H'
theorem sc_way_out_of : FnScope ["part"] ["part"] (defScope s_way_out_of) := ⟨rfl, rfl, rfl, by decide +kernel, rfl, by decide +kernel, by decide +kernel⟩
theorem ok_way_out_of {f : Addr} {fd : FuncData} (F : Fun K "_way_out_of" "_way_out_of" s_way_out_of f fd) (T : Txt K mg lt0 lt1 lt2 lt3 lt4 t0 t1 t2 t3 t4 t5 t6 t7 t8 tF tO dC) : FnOk P w K mg base CX0 1 f fd ["part"] (spWay K) := by
  refine F.ok sc_way_out_of (fun vs H Q E h => ?_) (fun cdv A outer s H vs Q E hr h => ?_)
  · obtain ⟨x, d, rfl, _⟩ := h
    rfl
  · obtain ⟨x, d, rfl, hd, hi, q⟩ := h
    refine ⟨_, (pss_one (ps_ret (pe_ifExp (pt_cmpR op_eq (pe_ix ix_tup (pv 0) pe_int (fun _ _ => rfl)) pe_str (nomark _)) (pe_ix ix_tup (pv 0) pe_int (fun _ _ => rfl)) (pe_tup pa_nil)))), ?_⟩
    rcases hi.way with ⟨w0, r0, rfl, hw, e⟩ | ⟨m0, o0, rfl, e⟩
    · obtain ⟨a, xs, rfl, hs, hx⟩ := dp_head hd
      refine ⟨_, rfl, a, xs, _, _, rfl, rfl, hs, hx, rfl, _, rfl, iteB (c := false) (decide_eq_false fun z => hw (V.str.inj z)) (iteF ?_)⟩
      refine ⟨Nat.zero_le _, fun t ht => q _ _ (same_upd ht) ?_⟩
      rw [e]
      exact .tup (.inl (.inl upd_same)) .nil
    · obtain ⟨a, v1, v2, v3, rfl, hs, h1, h2, h3⟩ := dp3 hd
      cases h1
      refine ⟨_, rfl, a, _, _, _, rfl, rfl, hs, atI_nat (j := 0) rfl, rfl, _, rfl, iteB (c := true) (decide_eq_true rfl) (iteT ?_)⟩
      refine ⟨_, rfl, a, _, _, _, rfl, rfl, hs, atI_nat (j := 2) rfl, q H _ (Same.refl H) ?_⟩
      rw [e]
      exact h3
theorem spread_snoc (ds : List PyData) (d : PyData) : spread (ds ++ [d]) = spread ds ++ d :: way d := by
  unfold spread
  rw [List.flatMap_append]
  simp
def spSpread (K : PySem.W.Frag) : Sp := fun vs H Q _ => ∃ (x : V) (ds : List PyData), vs = [x] ∧ Dp K H x (.tuple ds) ∧ (∀ d ∈ ds, ItemD d) ∧ (spread ds).length ≤ 100 ∧ ∀ H' p ys, Same H H' → H' p = some (.lst ys) → DpAll K H' ys (spread ds) → Q (.ref p) H'
theorem sc_spread : FnScope ["parts", "placed", "part"] ["parts"] (defScope s_spread) := ⟨rfl, rfl, rfl, by decide +kernel, rfl, by decide +kernel, by decide +kernel⟩
theorem ok_spread {f : Addr} {fd : FuncData} (F : Fun K "_spread" "_spread" s_spread f fd) (T : Txt K mg lt0 lt1 lt2 lt3 lt4 t0 t1 t2 t3 t4 t5 t6 t7 t8 tF tO dC) {f1 : Addr} {fd1 : FuncData} (F_way_out_of : Fun K "_way_out_of" "_way_out_of" s_way_out_of f1 fd1) (b_way_out_of : Binds K fd1 ["part"] []) (g_way_out_of : mg "_way_out_of" = some (.ref f1)) (G_way_out_of : FnOk P w K mg base CX0 1 f1 fd1 ["part"] (spWay K)) : FnOk P w K mg base CX0 2 f fd ["parts"] (spSpread K) := by
  refine F.ok sc_spread (fun vs H Q E h => ?_) (fun cdv A outer s H vs Q E hr h => ?_)
  · obtain ⟨x, ds, rfl, _⟩ := h
    rfl
  · obtain ⟨x, ds, rfl, hd, hi, hlen, q⟩ := h
    refine ⟨_, (pss_cons (ps_set (i := 1) sc_spread.nd rfl (.inl rfl) (pe_lst pa_nil)) 
        (pss_cons (ps_for PassesOwn.never rfl (pi_tup (pv 0)) (pg_name (i := 2) sc_spread.nd rfl (.inl rfl)) 
          (pss_one (ps_set (i := 1) sc_spread.nd rfl (.inl rfl) (pe_lst (pa_star (pv 1) (pa_cons (pv 2) (pa_star (pe_call G_way_out_of hr (by rfl) g_way_out_of F_way_out_of.kp b_way_out_of .nil pass0 (pa_cons (pv 2) pa_nil)) pa_nil))))))) 
        (pss_one (ps_ret (pv 1))))), ?_⟩
    obtain ⟨b, xs, rfl, hs, ha⟩ : ∃ (b : Addr) (xs : List V), x = .ref b ∧ SqT K H b xs ∧ DpAll K H xs ds := by
      cases hd with
      | tup h1 h2 => exact ⟨_, _, rfl, h1, h2⟩
    have hl := dpAll_len ha
    refine ⟨Nat.zero_le _, fun p hp => ?_⟩
    have s0 : Same H (upd H p (.lst [])) := same_upd hp
    refine ⟨_, rfl, b, rfl, ⟨_, Same.seqT s0 hs⟩, for_it (walk_tup (xs := xs)) (fun i σ H' => Same H H' ∧ ∃ (l : Addr) (ys : List V) (y : Option V), σ = [some (.ref b), some (.ref l), y] ∧ H' l = some (.lst ys) ∧ DpAll K H' ys (spread (ds.take i))) ⟨s0, p, [], _, rfl, upd_same, .nil⟩ (fun i σ H' _ h => Same.seqT h.1 hs) ?_ ?_⟩
    · rintro i x σ _ H1 hi0 ⟨s1, l, ys, y, rfl, hl1, hy⟩ ⟨rfl, hx⟩
      have hid : i < ds.length := by omega
      have hdi : ds[i]? = some ds[i] := List.getElem?_eq_getElem hid
      have hdx := dp_same s1 _ _ (dpAll_at ha hx hdi)
      have htake : ds.take (i + 1) = ds.take i ++ [ds[i]] := by rw [List.take_add_one, hdi]; rfl
      refine ⟨_, rfl, l, ys, rfl, .inr (.inl (.inl hl1)), _, rfl, _, rfl, x, ds[i], rfl, hdx, hi _ (List.mem_of_getElem? hdi), fun H2 z s2 hz => ?_⟩
      obtain ⟨zb, zs, rfl, hzs, hza⟩ : ∃ (zb : Addr) (zs : List V), z = .ref zb ∧ SqT K H2 zb zs ∧ DpAll K H2 zs (way ds[i]) := by
        cases hz with
        | tup h1 h2 => exact ⟨_, _, rfl, h1, h2⟩
      have hall : DpAll K H2 (ys ++ x :: (zs ++ [])) (spread (ds.take (i + 1))) := by
        rw [htake, spread_snoc, List.append_nil]
        exact dpAll_app (dpAll_same s2 _ _ hy) (.cons (dp_same s2 _ _ hdx) hza)
      have hn : (ys ++ x :: (zs ++ [])).length ≤ 100 := by
        have e1 := dpAll_len hall
        have : (spread (ds.take (i + 1))).length ≤ (spread ds).length := by
          have : spread ds = spread (ds.take (i + 1)) ++ spread (ds.drop (i + 1)) := by
            unfold spread
            rw [← List.flatMap_append, List.take_append_drop]
          rw [this, List.length_append]
          omega
        omega
      refine ⟨zb, zs, rfl, .inl hzs, Nat.le_of_lt (small1000 (by omega)), fun l2 hl2 => ?_⟩
      exact ⟨(s1.trans s2).trans (same_upd hl2), l2, _, _, rfl, upd_same, dpAll_same (same_upd hl2) _ _ hall⟩
    · rintro σ H1 ⟨s1, l, ys, y, rfl, hl1, hy⟩
      rw [List.take_of_length_le (by omega)] at hy
      exact ⟨_, rfl, q _ _ _ s1 hl1 hy⟩
end
end K04

namespace K04
open PySem PySem.Spec PyProof.Rows StX L2 TL GG OO LY
/-- what the dict of changes tells -/
def chD (w : Str) : Option (Nat × Bool) :=
  if w = "hold" then some (0, true) else if w = "try" then some (0, true) else if w = "let" then some (0, false) else if w = "enter" then some (1, true) else if w = "leave" then some (1, false) else if w = "lock" then some (2, true) else if w = "unlock" then some (2, false) else none
def putS (s : St3) (c : Nat × Bool) : St3 := match c.1 with
  | 0 => (c.2, s.2)
  | 1 => (s.1, c.2, s.2.2)
  | _ => (s.1, s.2.1, c.2)
theorem stB_ch (s : St3) (w : Str) : stB s w = match chD w with
  | none => s
  | some c => putS s c := by
  unfold stB chD
  repeat (first | rfl | split)
theorem chD_lt {w : Str} {c : Nat × Bool} (h : chD w = some c) : c.1 < 3 := by
  unfold chD at h
  repeat (first | cases h; done | (cases h; decide) | split at h)
def v3 (s : St3) : List V := [.bl s.1, .bl s.2.1, .bl s.2.2]
structure Chg (K : PySem.W.Frag) (w : World) (dC : Addr) : Prop where
  kd : ∃ es n, KDict K w dC es n
  no : ∀ z, chD z = none → PySem.W.nsIn K dC z = some none
  yes : ∀ z i b, chD z = some (i, b) → ∃ t, PySem.W.nsIn K dC z = some (some (.ref t)) ∧ ∀ H, SqT K H t [.int (Int.ofNat i), .bl b]
section
variable {P : Program} {w : World} {K : PySem.W.Frag} {mg : Str → Option Value} {base : Heap} {lt0 lt1 lt2 lt3 lt4 : Tok} {t0 t1 t2 t3 t4 t5 t6 t7 t8 tF tO dC : Addr}
theorem slA0 {H : Hp} {a : Addr} {xs : List V} {lo hi : Option Int} {Q : VK} (hs : SqT K H a xs) (hq : ∀ H' b, Same H H' → SqT K H' b (cutV xs lo hi) → Q (.ref b) H') : rSlA K (.ref a) lo hi H Q :=
  ⟨a, xs, rfl, hs, fun ⟨h1, h2⟩ => hq H a (Same.refl H) (by unfold cutV; rw [h1, h2]; simpa using hs), fun _ p hp => hq _ p (same_upd hp) (.inl (.inl upd_same))⟩
theorem slN0 {σ : L2.St} {H : Hp} {a : Addr} {xs : List V} {lo : Option Int} {Q : VK} (hs : SqT K H a xs) (hq : ∀ H' b, Same H H' → SqT K H' b (cutV xs lo none) → Q (.ref b) H') : tNoPart σ H (fun u H3 => rSlA K (.ref a) lo u H3 Q) := slA0 hs hq
theorem cut3 {s : St3} {i : Nat} {b : Bool} (hi : i < 3) : cutV (v3 s) none (some (Int.ofNat i)) ++ V.bl b :: (cutV (v3 s) (some (Int.ofNat i + 1)) none ++ []) = v3 (putS s (i, b)) := by
  match i, hi with
  | 0, _ => rfl
  | 1, _ => rfl
  | 2, _ => rfl
def spStB (K : PySem.W.Frag) : Sp := fun vs H Q _ => ∃ (a : Addr) (s : St3) (z : Str), vs = [.ref a, .str z] ∧ SqT K H a (v3 s) ∧ ∀ H' b, Same H H' → SqT K H' b (v3 (stB s z)) → Q (.ref b) H'
theorem sc_standing_behind : FnScope ["standing", "word", "at", "told"] ["standing", "word"] (defScope s_standing_behind) := ⟨rfl, rfl, rfl, by decide +kernel, rfl, by decide +kernel, by decide +kernel⟩
theorem ok_standing_behind {f : Addr} {fd : FuncData} (F : Fun K "_standing_behind" "_standing_behind" s_standing_behind f fd) (T : Txt K mg lt0 lt1 lt2 lt3 lt4 t0 t1 t2 t3 t4 t5 t6 t7 t8 tF tO dC) (hC : Chg K w dC) : FnOk P w K mg base CX0 1 f fd ["standing", "word"] (spStB K) := by
  refine F.ok sc_standing_behind (fun vs H Q E h => ?_) (fun cdv A outer s H vs Q E hr h => ?_)
  · obtain ⟨a, s, z, rfl, _⟩ := h
    rfl
  · obtain ⟨a, s, z, rfl, hs, q⟩ := h
    obtain ⟨es, n, D⟩ := hC.kd
    refine ⟨_, (pss_cons (ps_if (pt_cmpR (op_notIn_kd D) (pv 1) (pe_glob (v := .ref dC) rfl T.c_CHANGES rfl) (by rfl)) 
          (pss_one (ps_ret (pv 0))) pss_nil) 
        (pss_cons (ps_asg (pe_ix ix_kdict (pe_glob (v := .ref dC) rfl T.c_CHANGES rfl) (pv 1) (fun _ _ => rfl)) (pg_tup rfl (pgs_cons (pg_name (i := 2) sc_standing_behind.nd rfl (.inl rfl)) (pgs_cons (pg_name (i := 3) sc_standing_behind.nd rfl (.inl rfl)) pgs_nil)))) 
        (pss_one (ps_ret (pe_tup (pa_star (pe_slice sl_tupA (pv 0) po_none (po_some (pv 2))) (pa_cons (pv 3) (pa_star (pe_slice sl_tupA (pv 0) (po_some (pe_op op_add (pv 2) pe_int)) po_none) pa_nil)))))))), ?_⟩
    cases hc : chD z with
    | none =>
      refine ⟨_, rfl, z, none, rfl, rfl, hC.no z hc, _, rfl, iteT ⟨_, rfl, q H a (Same.refl H) ?_⟩⟩
      rw [stB_ch, hc]
      exact hs
    | some c =>
      obtain ⟨i, b⟩ := c
      obtain ⟨t, ht, hts⟩ := hC.yes z i b hc
      have hi : i < 3 := chD_lt hc
      refine ⟨_, rfl, z, _, rfl, rfl, ht, _, rfl, iteF ⟨_, rfl, dC, z, .ref t, rfl, rfl, ?_, t, _, rfl, hts _, rfl, ?_⟩⟩
      · exact ⟨es, n, _, D.at_, D.lit, ht, rfl⟩
      · refine ⟨_, _, rfl, _, _, rfl, rfl, _, rfl, _, rfl, _, rfl, slA0 hs fun H1 c1 s1 h1 => ⟨c1, _, rfl, .inl h1, _, rfl, _, rfl, _, rfl, _, _, rfl, rfl, _, rfl, slN0 (Same.seqT s1 hs) fun H2 c2 s2 h2 => ⟨c2, _, rfl, .inl h2, ?_⟩⟩⟩
        refine ⟨?_, fun t2 ht2 => q _ _ ((s1.trans s2).trans (same_upd ht2)) ?_⟩
        · rw [cut3 hi]
          exact Nat.le_of_lt (small1000 (by show 3 ≤ 1000; omega))
        · rw [stB_ch, hc]
          refine .inl (.inl ?_)
          rw [upd_same]
          exact congrArg (fun z => some (HO.tup z)) (cut3 hi)
end
end K04

namespace K04
open PySem PySem.Spec PyProof.Rows StX L2 TL GG OO LY
def hide (l : Addr) (H : Hp) : Hp := fun b => if b = l then none else H b
theorem hide_ne {l b : Addr} {H : Hp} (h : b ≠ l) : hide l H b = H b := if_neg h
theorem hide_upd {l : Addr} {H : Hp} {o : HO} : hide l (upd H l o) = hide l H := by
  funext b
  unfold hide
  by_cases h : b = l
  · rw [if_pos h, if_pos h]
  · rw [if_neg h, if_neg h, upd_ne h]
theorem hide_same {l : Addr} {H H' : Hp} (s : Same H H') : Same (hide l H) (hide l H') := fun b o e => by
  unfold hide at e ⊢
  by_cases h : b = l
  · rw [if_pos h] at e
    cases e
  · rw [if_neg h] at e ⊢
    exact s b o e
theorem hide_le {l : Addr} {H : Hp} : Same (hide l H) H := fun b o e => by
  unfold hide at e
  by_cases h : b = l
  · rw [if_pos h] at e
    cases e
  · rw [if_neg h] at e
    exact e
theorem same_hide {l : Addr} {H H' : Hp} (s : Same H H') (h : H l = none) : Same H (hide l H') := fun b o e => by
  unfold hide
  rw [if_neg (fun z => by rw [z, h] at e; cases e)]
  exact s b o e
/-- n places from o, then e -/
def wl (n o e : Nat) : List Nat := (List.range n).map (o + ·) ++ [e]
theorem wl_succ (n o e : Nat) : wl (n + 1) o e = o :: wl n (o + 1) e := by
  unfold wl
  rw [List.range_succ_eq_map, List.map_cons, List.map_map]
  have : ((fun x => o + x) ∘ Nat.succ) = fun x => o + 1 + x := by
    funext x
    show o + (x + 1) = o + 1 + x
    omega
  rw [this]
  rfl
theorem wl_len (n o e : Nat) : (wl n o e).length = n + 1 := by
  unfold wl
  rw [List.length_append, List.length_map, List.length_range]
  rfl
theorem chain_wl (e : Nat) : ∀ n o : Nat, chain e o n = (wl n o e).tail.map fun b => [b]
  | 0, _ => rfl
  | 1, _ => rfl
  | n + 2, o => by
    rw [wl_succ, wl_succ]
    show [o + 1] :: chain e (o + 1) (n + 1) = [o + 1] :: _
    rw [chain_wl e (n + 1) (o + 1), wl_succ]
    rfl
theorem wl_head (n o e : Nat) : (wl n o e)[0]? = some (if n = 0 then e else o) := by
  cases n with
  | zero => rfl
  | succ n => rw [wl_succ]; rfl
def iN (b : Nat) : V := .int (Int.ofNat b)
theorem wl_V (n o e : Nat) : rgV (Int.ofNat o) (Int.ofNat (o + n)) ++ [iN e] = (wl n o e).map iN := by
  unfold rgV wl
  have : ((Int.ofNat (o + n)) - (Int.ofNat o)).toNat = n := by
    show ((o + n : Nat) - (o : Nat) : Int).toNat = n
    omega
  rw [this, List.map_append, List.map_map]
  congr 1
theorem cut1 : ∀ xs : List V, xs ≠ [] → cutV xs (some 1) none = xs.tail
  | [], h => absurd rfl h
  | x :: xs, _ => by
    unfold cutV
    rw [show HT.sIx (x :: xs).length 0 (some 1) = 1 by
      show HT.sIx _ _ (some ((1 : Nat) : Int)) = 1
      rw [HT.sIx_nat, List.length_cons]
      omega]
    show (xs.take (HT.sIx _ _ none - 1)) = xs
    rw [HT.sIx_none, List.length_cons]
    exact List.take_of_length_le (by omega)
theorem leads_snoc (e : Nat) (d : PyData) : ∀ (A : List PyData) (o : Nat), leads e o (A ++ [d]) = leads e o A ++ leads e (o + (spread A).length) [d]
  | [], _ => rfl
  | a :: r, o => by
    show leads e o (a :: (r ++ [d])) = _
    rw [spread_cons, List.length_cons, List.length_append]
    cases h : wayOf a with
    | none =>
      have hw : way a = [] := by unfold LY.way; rw [h]; rfl
      rw [leads_none h, leads_none h, leads_snoc e d r (o + 1), hw]
      show _ :: _ = _ :: _
      congr 3
      show o + 1 + (spread r).length = o + (0 + (spread r).length + 1)
      omega
    | some w =>
      have hw : way a = w := by unfold LY.way; rw [h]; rfl
      rw [leads_some h, leads_some h, leads_snoc e d r (o + 1 + w.length), hw, List.cons_append, List.append_assoc]
      congr 4
      omega
/-- an item's own places -/
theorem leads_one {e o : Nat} {d : PyData} (h : ItemD d) : leads e o [d] = (if headW d = "ask" then [o + 1 + (way d).length, if (way d).length = 0 then e else o + 1] else [o + 1 + (way d).length]) :: chain e (o + 1) (way d).length := by
  rcases h with ⟨w, r, rfl, hw, hn⟩ | ⟨m, r, rfl⟩
  · have h1 : way (.tuple (.str w :: r)) = [] := by unfold LY.way; rw [hn]; rfl
    have h2 : headW (.tuple (.str w :: r)) = w := rfl
    rw [leads_none hn, h1, h2, if_neg hw]
    rfl
  · have h1 : way (.tuple [.str "ask", m, .tuple r]) = r := rfl
    have h3 : wayOf (.tuple [.str "ask", m, .tuple r]) = some r := rfl
    have h2 : headW (.tuple [.str "ask", m, .tuple r]) = "ask" := rfl
    rw [leads_some h3, h1, h2, if_pos rfl]
    show _ :: (_ ++ []) = _
    rw [List.append_nil]
def ldD (bs : List Nat) : PyData := .tuple (bs.map fun b => .int (Int.ofNat b))
theorem if_pair {b : Bool} {σ : L2.St} {H : Hp} {Q : VK} {ta tb : TE} (F1 F2 : List V) (h1 : b = true → ∀ C : VK, (∀ t, H t = none → C (.ref t) (upd H t (.tup F1))) → ta σ H C) (h2 : b = false → ∀ C : VK, (∀ t, H t = none → C (.ref t) (upd H t (.tup F2))) → tb σ H C) (hq : ∀ t, H t = none → Q (.ref t) (upd H t (.tup (if b = true then F1 else F2)))) : if b = true then ta σ H Q else tb σ H Q := by
  cases b with
  | true => exact h1 rfl Q hq
  | false => exact h2 rfl Q hq
theorem ItemD.head {d : PyData} (h : ItemD d) : ∃ w r, d = .tuple (.str w :: r) ∧ headW d = w := by
  rcases h with ⟨w, r, rfl, _⟩ | ⟨m, r, rfl⟩
  · exact ⟨w, r, rfl, rfl⟩
  · exact ⟨_, _, rfl, rfl⟩
section
variable {P : Program} {w : World} {K : PySem.W.Frag} {mg : Str → Option Value} {base : Heap} {lt0 lt1 lt2 lt3 lt4 : Tok} {t0 t1 t2 t3 t4 t5 t6 t7 t8 tF tO dC : Addr}
theorem dp_iNs {H : Hp} {t : Addr} (F : List Nat) (h : H t = some (.tup (F.map iN))) : Dp K H (.ref t) (ldD F) := by
  refine .tup (.inl (.inl h)) ?_
  have := dp_ints (K := K) (H := H) (F.map Int.ofNat)
  rw [List.map_map, List.map_map] at this
  exact this
def spLeads (K : PySem.W.Frag) : Sp := fun vs H Q _ => ∃ (x : V) (ds : List PyData) (e : Nat), vs = [x, iN e] ∧ Dp K H x (.tuple ds) ∧ (∀ d ∈ ds, ItemD d) ∧ (spread ds).length ≤ 100 ∧ e ≤ 100 ∧ ∀ H' p ys, Same H H' → H' p = some (.lst ys) → DpAll K H' ys ((leads e 0 ds).map ldD) → Q (.ref p) H'
theorem sc_leads : FnScope ["parts", "end", "leads", "part", "first_of_way_out", "behind", "way_out", "place"] ["parts", "end"] (defScope s_leads) := ⟨rfl, rfl, rfl, by decide +kernel, rfl, by decide +kernel, by decide +kernel⟩
theorem ok_leads {f : Addr} {fd : FuncData} (F : Fun K "_leads" "_leads" s_leads f fd) (T : Txt K mg lt0 lt1 lt2 lt3 lt4 t0 t1 t2 t3 t4 t5 t6 t7 t8 tF tO dC) {f1 : Addr} {fd1 : FuncData} (F_way_out_of : Fun K "_way_out_of" "_way_out_of" s_way_out_of f1 fd1) (b_way_out_of : Binds K fd1 ["part"] []) (g_way_out_of : mg "_way_out_of" = some (.ref f1)) (G_way_out_of : FnOk P w K mg base CX0 1 f1 fd1 ["part"] (spWay K)) : FnOk P w K mg base CX0 2 f fd ["parts", "end"] (spLeads K) := by
  refine F.ok sc_leads (fun vs H Q E h => ?_) (fun cdv A outer s H vs Q E hr h => ?_)
  · obtain ⟨x, ds, e, rfl, _⟩ := h
    rfl
  · obtain ⟨x, ds, e, rfl, hd, hi, hlen, he, q⟩ := h
    refine ⟨_, (pss_cons (ps_set (i := 2) sc_leads.nd rfl (.inl rfl) (pe_lst pa_nil)) 
        (pss_cons (ps_for PassesOwn.never rfl (pi_tup (pv 0)) (pg_name (i := 3) sc_leads.nd rfl (.inl rfl)) 
          (pss_cons (ps_set (i := 4) sc_leads.nd rfl (.inl rfl) (pe_op op_add (pe_callB call_len_seq (by rfl) T.m_len PySem.boot_len (pa_cons (pv 2) pa_nil)) pe_int)) 
          (pss_cons (ps_set (i := 5) sc_leads.nd rfl (.inl rfl) (pe_op op_add (pv 4) (pe_callB call_len_seq (by rfl) T.m_len PySem.boot_len (pa_cons (pe_call G_way_out_of hr (by rfl) g_way_out_of F_way_out_of.kp b_way_out_of .nil pass0 (pa_cons (pv 3) pa_nil)) pa_nil)))) 
          (pss_cons (ps_set (i := 6) sc_leads.nd rfl (.inl rfl) (pe_op op_cat (pe_listRg rfl (by rfl) T.m_list (prg_2 (by rfl) T.m_range (pv 4) (pv 5))) (pe_lst (pa_cons (pv 1) pa_nil)))) 
          (pss_cons (ps_expr (pe_bm PySem.F.plainAttrs_list PySem.F.slot_list_append PySem.F.type_list_append mt_append (pv 2) (pa_cons (pe_ifExp (pt_cmpR op_eq (pe_ix ix_tup (pv 3) pe_int (fun _ _ => rfl)) pe_str (nomark _)) (pe_tup (pa_cons (pv 5) (pa_cons (pe_ix ix_list (pv 6) pe_int (fun _ _ => rfl)) pa_nil))) (pe_tup (pa_cons (pv 5) pa_nil))) pa_nil))) 
          (pss_one (ps_expr (pe_bm PySem.F.plainAttrs_list PySem.F.slot_list_extend PySem.F.type_list_extend mt_extend (pv 2) (pa_cons (pe_lc (own := [("place", 7)]) (g := gName 7) rfl sc_leads.nd (pi_list (pe_slice sl_list (pv 6) (po_some pe_int) po_none)) (blkOk_by (N := ["parts", "end", "leads", "part", "first_of_way_out", "behind", "way_out", "place"]) (sc := defScope s_leads) (by decide +kernel)) (fun _ _ _ _ _ => pg_name (i := 7) sc_leads.nd rfl (.inl rfl)) (fun _ _ _ _ _ => pts_nil) (fun _ _ _ _ _ => (pe_tup (pa_cons (pv 7) pa_nil)))) pa_nil))))))))) 
        (pss_one (ps_ret (pv 2))))), ?_⟩
    obtain ⟨b, xs, rfl, hs, ha⟩ : ∃ (b : Addr) (xs : List V), x = .ref b ∧ SqT K H b xs ∧ DpAll K H xs ds := by
      cases hd with
      | tup h1 h2 => exact ⟨_, _, rfl, h1, h2⟩
    have hl := dpAll_len ha
    refine ⟨Nat.zero_le _, fun p hp => ?_⟩
    refine ⟨_, rfl, b, rfl, ⟨_, Same.seqT (same_upd hp) hs⟩, for_it (walk_tup (xs := xs)) (fun i σ H' => Same H (hide p H') ∧ ∃ (ys : List V) (y3 y4 y5 y6 y7 : Option V), σ = [some (.ref b), some (iN e), some (.ref p), y3, y4, y5, y6, y7] ∧ H' p = some (.lst ys) ∧ DpAll K (hide p H') ys ((leads e 0 (ds.take i)).map ldD)) ⟨same_hide (same_upd hp) hp, [], _, _, _, _, _, rfl, upd_same, .nil⟩ (fun i σ H' _ h => Same.seqT (h.1.trans hide_le) hs) ?_ ?_⟩
    · rintro i x σ _ H1 hi0 ⟨s1, ys, y3, y4, y5, y6, y7, rfl, hp1, hy⟩ ⟨rfl, hx⟩
      have hid : i < ds.length := by omega
      have hdi : ds[i]? = some ds[i] := List.getElem?_eq_getElem hid
      have S1 : Same H H1 := s1.trans hide_le
      have hdx := dp_same S1 _ _ (dpAll_at ha hx hdi)
      have hit := hi _ (List.mem_of_getElem? hdi)
      have htake : ds.take (i + 1) = ds.take i ++ [ds[i]] := by rw [List.take_add_one, hdi]; rfl
      have ho : ys.length = (spread (ds.take i)).length := by rw [dpAll_len hy, List.length_map, leads_len]
      generalize hdd : ds[i] = d at hdx hit htake
      generalize hoo : (spread (ds.take i)).length = o at ho
      have hon : o + (1 + (way d).length) ≤ 100 := by
        have e1 : spread ds = spread (ds.take (i + 1)) ++ spread (ds.drop (i + 1)) := by
          unfold spread
          rw [← List.flatMap_append, List.take_append_drop]
        have e2 := congrArg List.length e1
        rw [List.length_append, htake, spread_snoc, List.length_append, hoo, List.length_cons] at e2
        omega
      refine ⟨_, rfl, p, ys, rfl, .inl (.inl (.inl hp1)), _, _, rfl, rfl, _, rfl, _, rfl, x, d, rfl, hdx, hit, fun H2 z s2 hz => ?_⟩
      obtain ⟨zb, zs, rfl, hzs, hza⟩ : ∃ (zb : Addr) (zs : List V), z = .ref zb ∧ SqT K H2 zb zs ∧ DpAll K H2 zs (way d) := by
        cases hz with
        | tup h1 h2 => exact ⟨_, _, rfl, h1, h2⟩
      have hzl := dpAll_len hza
      have hF1 := leads_one (e := e) (o := o) hit
      generalize hnn : (way d).length = n at hzl hon hF1
      have hp2 := s2 _ _ hp1
      refine ⟨zb, zs, rfl, .inr hzs, _, _, rfl, rfl, _, rfl, _, rfl, _, _, rfl, rfl, ?_, fun wr hwr => ⟨_, rfl, Nat.le_of_lt (small1000 (by show 1 ≤ 1000; omega)), fun we hwe => ?_⟩⟩
      · exact .of_le (by omega) (by omega) (by omega) (by omega)
      have hW : rgV ((ys.length : Int) + 1) ((ys.length : Int) + 1 + (zs.length : Int)) ++ [iN e] = (wl n (o + 1) e).map iN := by
        rw [ho, hzl]
        exact wl_V n (o + 1) e
      refine ⟨wr, we, _, _, rfl, rfl, same_upd hwe _ _ upd_same, upd_same, ?_, fun wo hwo => ?_⟩
      · rw [← List.length_append]
        show (rgV ((ys.length : Int) + 1) ((ys.length : Int) + 1 + (zs.length : Int)) ++ [iN e]).length ≤ _
        rw [hW, List.length_map, wl_len]
        exact Nat.le_of_lt (small1000 (by omega))
      have s5 := s2.trans ((same_upd hwr).trans ((same_upd hwe).trans (same_upd (o := .lst (rgV ((ys.length : Int) + 1) ((ys.length : Int) + 1 + (zs.length : Int)) ++ [iN e])) hwo)))
      have hp5 := s5 _ _ hp1
      have hwp : wo ≠ p := fun z => by
        have := (s2.trans ((same_upd hwr).trans (same_upd (o := .lst [iN e]) hwe))) _ _ hp1
        rw [← z, hwo] at this
        cases this
      have hw5 : upd (upd (upd H2 wr (.lst (rgV ((ys.length : Int) + 1) ((ys.length : Int) + 1 + (zs.length : Int))))) we (.lst [iN e])) wo (.lst (rgV ((ys.length : Int) + 1) ((ys.length : Int) + 1 + (zs.length : Int)) ++ [iN e])) wo = some (.lst ((wl n (o + 1) e).map iN)) := by rw [upd_same, hW]
      show tSeq _ _ _ _ (upd (upd (upd H2 wr (.lst (rgV ((ys.length : Int) + 1) ((ys.length : Int) + 1 + (zs.length : Int))))) we (.lst [iN e])) wo (.lst (rgV ((ys.length : Int) + 1) ((ys.length : Int) + 1 + (zs.length : Int)) ++ [iN e])))
      generalize upd (upd (upd H2 wr (.lst (rgV ((ys.length : Int) + 1) ((ys.length : Int) + 1 + (zs.length : Int))))) we (.lst [iN e])) wo (.lst (rgV ((ys.length : Int) + 1) ((ys.length : Int) + 1 + (zs.length : Int)) ++ [iN e])) = H5 at s5 hp5 hw5 ⊢
      obtain ⟨hw, hr5, rfl, hhd⟩ := hit.head
      obtain ⟨xa, xv, rfl, hxs, hx0⟩ := dp_head (dp_same s5 _ _ hdx)
      refine ⟨_, rfl, .inl ⟨rfl, _, .inl (.inl hp5)⟩, _, rfl, xa, xv, _, _, rfl, rfl, hxs, hx0, rfl, _, rfl, ?_⟩
      have hv5 : V.int ((ys.length : Int) + 1 + (zs.length : Int)) = iN (o + 1 + n) := by rw [ho, hzl]; rfl
      obtain ⟨F, hF, hF2⟩ : ∃ F : List Nat, (if decide (V.str hw = V.str "ask") = true then [iN (o + 1 + n), iN (if n = 0 then e else o + 1)] else [iN (o + 1 + n)]) = F.map iN ∧ leads e o [.tuple (.str hw :: hr5)] = F :: chain e (o + 1) n := by
        refine ⟨_, ?_, hF1⟩
        rw [hhd]
        by_cases z : hw = "ask"
        · rw [if_pos z, if_pos (decide_eq_true (by rw [z]))]
          rfl
        · rw [if_neg z, if_neg (by rw [decide_eq_false fun y => z (V.str.inj y)]; exact Bool.false_ne_true)]
          rfl
      refine if_pair [iN (o + 1 + n), iN (if n = 0 then e else o + 1)] [iN (o + 1 + n)] (fun hb C c => ?_) (fun hb C c => ?_) (fun t ht => ?_)
      · refine ⟨_, rfl, _, rfl, wo, _, _, _, rfl, rfl, .inl (.inl hw5), atI_nat (j := 0) (v := iN (if n = 0 then e else o + 1)) ?_, Nat.le_of_lt (small1000 (by show 2 ≤ 1000; omega)), fun t ht => ?_⟩
        · rw [List.getElem?_map, wl_head]
          rfl
        · have := c t ht
          rw [← hv5] at this
          exact this
      · refine ⟨_, rfl, Nat.le_of_lt (small1000 (by show 1 ≤ 1000; omega)), fun t ht => ?_⟩
        have := c t ht
        rw [← hv5] at this
        exact this
      · rw [hF]
        have hpt : upd H5 t (.tup (F.map iN)) p = some (.lst ys) := same_upd ht _ _ hp5
        refine ⟨p, ys, _, rfl, rfl, hpt, ?_, ?_⟩
        · exact small1000 (by omega)
        have st : Same H5 (upd H5 t (.tup (F.map iN))) := same_upd ht
        have htp : t ≠ p := fun z => by rw [← z, ht] at hp5; cases hp5
        have hJw : upd (upd H5 t (.tup (F.map iN))) p (.lst (ys ++ [.ref t])) wo = some (.lst ((wl n (o + 1) e).map iN)) := by rw [upd_ne hwp]; exact st _ _ hw5
        have hJp : upd (upd H5 t (.tup (F.map iN))) p (.lst (ys ++ [.ref t])) p = some (.lst (ys ++ [.ref t])) := upd_same
        have hJs : Same (hide p H1) (hide p (upd (upd H5 t (.tup (F.map iN))) p (.lst (ys ++ [.ref t])))) := by
          rw [hide_upd]
          exact hide_same (s5.trans st)
        have hJd : DpAll K (hide p (upd (upd H5 t (.tup (F.map iN))) p (.lst (ys ++ [.ref t])))) (ys ++ [.ref t]) ((leads e 0 (ds.take i)).map ldD ++ [ldD F]) := by
          refine dpAll_app (dpAll_same hJs _ _ hy) (.cons ?_ .nil)
          rw [hide_upd]
          refine dp_iNs F ?_
          rw [hide_ne htp, upd_same]
        show tSeq _ _ _ _ (upd (upd H5 t (.tup (F.map iN))) p (.lst (ys ++ [.ref t])))
        generalize upd (upd H5 t (.tup (F.map iN))) p (.lst (ys ++ [.ref t])) = J at hJw hJp hJs hJd ⊢
        have hW0 : (wl n (o + 1) e).map iN ≠ [] := fun z => by
          have := congrArg List.length z
          rw [List.length_map, wl_len] at this
          cases this
        have hcut : cutV ((wl n (o + 1) e).map iN) (some 1) none = (wl n (o + 1) e).tail.map iN := by rw [cut1 _ hW0, List.map_tail]
        refine ⟨_, rfl, .inl ⟨rfl, _, .inl (.inl hJp)⟩, _, rfl, 1, rfl, wo, _, rfl, .inl (.inl hJw), fun c hc => ⟨c, rfl, ⟨_, .inl (.inl upd_same)⟩, fun D hD => ?_⟩⟩
        rw [hcut] at hD ⊢
        have hcp : c ≠ p := fun z => by rw [z, hJp] at hc; cases hc
        have sJ : Same J (upd J c (.lst ((wl n (o + 1) e).tail.map iN))) := same_upd hc
        have hJp2 := sJ _ _ hJp
        have hDp : D ≠ p := fun z => by rw [z, hJp2] at hD; cases hD
        have hcc : upd J c (.lst ((wl n (o + 1) e).tail.map iN)) c = some (.lst ((wl n (o + 1) e).tail.map iN)) := upd_same
        generalize upd J c (.lst ((wl n (o + 1) e).tail.map iN)) = J2 at sJ hJp2 hD hcc ⊢
        refine lc_list (xs := (wl n (o + 1) e).tail.map iN) (fun j H' => Same J2 H' ∧ ∃ acc, H' D = some (.lst acc) ∧ DpAll K (hide p (hide D H')) acc (((wl n (o + 1) e).tail.take j).map fun b => ldD [b])) ⟨same_upd hD, [], upd_same, .nil⟩ (fun j H' _ h => .inl (.inl (h.1 _ _ hcc))) ?_ ?_
        · rintro j y H3 hy3 ⟨s3, acc, hacc, hall⟩
          have hj : j < (wl n (o + 1) e).tail.length := by
            have := (List.getElem?_eq_some_iff.mp hy3).1
            rwa [List.length_map] at this
          have hjn : (wl n (o + 1) e).tail.length = n := by rw [List.length_tail, wl_len]; rfl
          have ey : y = iN (wl n (o + 1) e).tail[j] := by
            rw [List.getElem?_map, List.getElem?_eq_getElem hj] at hy3
            exact (Option.some.inj hy3).symm
          subst ey
          refine ⟨rfl, yes_then ⟨_, rfl, Nat.le_of_lt (small1000 (by show 1 ≤ 1000; omega)), fun u hu => ⟨acc, same_upd hu _ _ hacc, ?_, same_st (s3.trans (same_upd hu)) hD, _, upd_same, ?_⟩⟩⟩
          · rw [dpAll_len hall, List.length_map, List.length_take]
            exact small1000 (by omega)
          · have hup : u ≠ p := fun z => by
              have := s3 _ _ hJp2
              rw [← z, hu] at this
              cases this
            have huD : u ≠ D := fun z => by rw [← z, hu] at hacc; cases hacc
            rw [hide_upd, List.take_add_one, List.getElem?_eq_getElem hj, List.map_append]
            refine dpAll_app (dpAll_same (hide_same (hide_same (same_upd hu))) _ _ hall) (.cons (dp_iNs [_] ?_) .nil)
            rw [hide_ne hup, hide_ne huD, upd_same]
            rfl
        · rintro H3 ⟨s3, acc, hacc, hall⟩
          have hjn : (wl n (o + 1) e).tail.length = n := by rw [List.length_tail, wl_len]; rfl
          rw [List.length_map, List.take_of_length_le (Nat.le_refl _)] at hall
          have hch : (chain e (o + 1) n).map ldD = (wl n (o + 1) e).tail.map fun b => ldD [b] := by
            rw [chain_wl, List.map_map]
            rfl
          refine ⟨p, D, _, acc, rfl, rfl, s3 _ _ hJp2, hacc, ?_, ?_, _, _, _, _, _, _, rfl, upd_same, ?_⟩
          · rw [List.length_append, dpAll_len hall, List.length_map, hjn]
            exact Nat.le_of_lt (small1000 (by show ys.length + 1 + n ≤ 1000; omega))
          · rw [hide_upd]
            exact s1.trans (hJs.trans (hide_same (sJ.trans s3)))
          · rw [hide_upd, htake, leads_snoc, hoo, Nat.zero_add, hF2, List.map_append, List.map_cons, hch, (by rw [List.append_assoc]; rfl : (leads e 0 (ds.take i)).map ldD ++ ldD F :: ((wl n (o + 1) e).tail.map fun b => ldD [b]) = ((leads e 0 (ds.take i)).map ldD ++ [ldD F]) ++ ((wl n (o + 1) e).tail.map fun b => ldD [b]))]
            exact dpAll_app (dpAll_same (hide_same (sJ.trans s3)) _ _ hJd) (dpAll_same (hide_same hide_le) _ _ hall)
    · rintro σ H1 ⟨s1, ys, y3, y4, y5, y6, y7, rfl, hp1, hy⟩
      rw [List.take_of_length_le (by omega)] at hy
      exact ⟨_, rfl, q _ _ _ (s1.trans hide_le) hp1 (dpAll_same hide_le _ _ hy)⟩
end
end K04

namespace K04
open PySem PySem.Spec PyProof.Rows StX L2 TL GG OO LY
def ff3 : St3 := (false, false, false)
theorem runs_snoc (d : PyData) (bs : List Nat) : ∀ (A : List (PyData × List Nat)) (i : Nat) (S : List St3), runs S i (A ++ [(d, bs)]) = setAll (runs S i A) bs (stB ((runs S i A).getD (i + A.length) (false, false, false)) (headW d))
  | [], _, _ => rfl
  | (a, cs) :: r, i, S => by
    show runs _ (i + 1) (r ++ [(d, bs)]) = _
    rw [runs_snoc d bs r (i + 1)]
    have : i + 1 + r.length = i + ((a, cs) :: r).length := by rw [List.length_cons]; omega
    rw [this]
    rfl
theorem setAll_snoc (S : List St3) (v : St3) (A : List Nat) (b : Nat) : setAll S (A ++ [b]) v = (setAll S A v).set b v := by
  unfold setAll
  rw [List.foldl_append]
  rfl
def StAll (K : PySem.W.Frag) (R : Hp) (zs : List V) (S : List St3) : Prop := zs.length = S.length ∧ ∀ (i : Nat) (s : St3), S[i]? = some s → ∃ a : Addr, zs[i]? = some (V.ref a) ∧ SqT K R a (v3 s)
section
variable {P : Program} {w : World} {K : PySem.W.Frag} {mg : Str → Option Value} {base : Heap} {lt0 lt1 lt2 lt3 lt4 : Tok} {t0 t1 t2 t3 t4 t5 t6 t7 t8 tF tO dC : Addr}
theorem StAll.same {R R' : Hp} {zs : List V} {S : List St3} (h : StAll K R zs S) (s : Same R R') : StAll K R' zs S := ⟨h.1, fun i t e => by
  obtain ⟨a, h1, h2⟩ := h.2 i t e
  exact ⟨a, h1, Same.seqT s h2⟩⟩
theorem StAll.set {R : Hp} {zs : List V} {S : List St3} {a : Addr} {t : St3} (h : StAll K R zs S) (j : Nat) (ha : SqT K R a (v3 t)) : StAll K R (zs.set j (.ref a)) (S.set j t) := by
  refine ⟨by rw [List.length_set, List.length_set]; exact h.1, fun i u e => ?_⟩
  by_cases hij : j = i
  · subst hij
    have hj : j < S.length := by
      have := (List.getElem?_eq_some_iff.mp e).1
      rwa [List.length_set] at this
    rw [List.getElem?_set_self hj] at e
    obtain rfl := Option.some.inj e
    refine ⟨a, ?_, ha⟩
    rw [List.getElem?_set_self (by rw [h.1]; exact hj)]
  · rw [List.getElem?_set_ne hij] at e
    rw [List.getElem?_set_ne hij]
    exact h.2 i u e
theorem StAll.snoc {R : Hp} {zs : List V} {S : List St3} {a : Addr} {t : St3} (h : StAll K R zs S) (ha : SqT K R a (v3 t)) : StAll K R (zs ++ [.ref a]) (S ++ [t]) := by
  refine ⟨by rw [List.length_append, List.length_append, h.1]; rfl, fun i u e => ?_⟩
  by_cases hi : i < S.length
  · rw [List.getElem?_append_left hi] at e
    rw [List.getElem?_append_left (by rw [h.1]; exact hi)]
    exact h.2 i u e
  · have hi' : S.length ≤ i := by omega
    rw [List.getElem?_append_right hi'] at e
    rw [List.getElem?_append_right (by rw [h.1]; exact hi'), h.1]
    have h0 : i - S.length = 0 := by
      have := (List.getElem?_eq_some_iff.mp e).1
      have : i - S.length < 1 := this
      omega
    rw [h0] at e ⊢
    obtain rfl := Option.some.inj e
    exact ⟨a, rfl, ha⟩
theorem StAll.take {R : Hp} {zs : List V} {S : List St3} (h : StAll K R zs S) (n : Nat) : StAll K R (zs.take n) (S.take n) := by
  refine ⟨by rw [List.length_take, List.length_take, h.1], fun i u e => ?_⟩
  by_cases hi : i < n
  · rw [List.getElem?_take_of_lt hi] at e ⊢
    exact h.2 i u e
  · have := (List.getElem?_eq_some_iff.mp e).1
    rw [List.length_take] at this
    omega
theorem sqT_hide {H : Hp} {D a : Addr} {xs zs : List V} (h : SqT K H a xs) (hD : H D = some (.lst zs)) : SqT K (hide D H) a xs := by
  rcases h with h | h
  · refine .inl ?_
    rcases h with h | ⟨o, h⟩
    · refine .inl ?_
      rw [hide_ne (fun z => by rw [z, hD] at h; cases h)]
      exact h
    · refine .inr ⟨o, ?_⟩
      rw [hide_ne (fun z => by rw [z, hD] at h; cases h)]
      exact h
  · exact .inr h
theorem ixN_nat0 {n j : Nat} (hj : j < n) : ixN n (j : Int) = some j := by
  unfold ixN
  rw [if_pos (by omega), if_pos (by omega)]
  rfl
theorem cutM (zs : List V) : cutV zs none (some (-1)) = zs.take (zs.length - 1) := by
  have h : HT.sIx zs.length zs.length (some (-1)) = zs.length - 1 := by
    show (if (-1 : Int) < 0 then ((-1 : Int) + (zs.length : Int)).toNat else min (-1 : Int).toNat zs.length) = _
    rw [if_pos (by omega)]
    omega
  unfold cutV
  rw [h, HT.sIx_none, List.drop_zero, Nat.sub_zero]
theorem dpAll_iN {H : Hp} : ∀ {vs : List V} (bs : List Nat), DpAll K H vs (bs.map fun b => PyData.int (Int.ofNat b)) → vs = bs.map iN
  | _, [], h => by cases h; rfl
  | _, b :: bs, h => by
    cases h with
    | cons h1 h2 =>
      cases h1
      rw [dpAll_iN bs h2]
      rfl
theorem dp_ld {H : Hp} {v : V} {bs : List Nat} (h : Dp K H v (ldD bs)) : ∃ a : Addr, v = .ref a ∧ SqT K H a (bs.map iN) := by
  cases h with
  | tup h1 h2 => exact ⟨_, rfl, dpAll_iN bs h2 ▸ h1⟩
def spStandings (K : PySem.W.Frag) : Sp := fun vs H Q _ => ∃ (x y : V) (ps : List PyData) (L : List (List Nat)), vs = [x, y] ∧ Dp K H x (.tuple ps) ∧ Dp K H y (.tuple (L.map ldD)) ∧ L.length = ps.length ∧ (∀ d ∈ ps, ItemD d) ∧ ps.length ≤ 100 ∧ (∀ i bs, L[i]? = some bs → ∀ b ∈ bs, i < b ∧ b ≤ ps.length) ∧ ∀ H' p zs, Same H H' → H' p = some (.lst zs) → StAll K H' zs ((runs (List.replicate (ps.length + 1) ff3) 0 (ps.zip L)).take ps.length) → Q (.ref p) H'
theorem sc_standings : FnScope ["placed", "leads", "standings", "place", "item", "behind", "_"] ["placed", "leads"] (defScope s_standings) := ⟨rfl, rfl, rfl, by decide +kernel, rfl, by decide +kernel, by decide +kernel⟩
theorem ok_standings {f : Addr} {fd : FuncData} (F : Fun K "_standings" "_standings" s_standings f fd) (T : Txt K mg lt0 lt1 lt2 lt3 lt4 t0 t1 t2 t3 t4 t5 t6 t7 t8 tF tO dC) {f1 : Addr} {fd1 : FuncData} (F_standing_behind : Fun K "_standing_behind" "_standing_behind" s_standing_behind f1 fd1) (b_standing_behind : Binds K fd1 ["standing", "word"] []) (g_standing_behind : mg "_standing_behind" = some (.ref f1)) (G_standing_behind : FnOk P w K mg base CX0 1 f1 fd1 ["standing", "word"] (spStB K)) : FnOk P w K mg base CX0 2 f fd ["placed", "leads"] (spStandings K) := by
  refine F.ok sc_standings (fun vs H Q E h => ?_) (fun cdv A outer s H vs Q E hr h => ?_)
  · obtain ⟨x, y, ps, L, rfl, _⟩ := h
    rfl
  · obtain ⟨x, y, ps, L, rfl, hd, hL, hLl, hi, hlen, hb, q⟩ := h
    refine ⟨_, (pss_cons (ps_setLc (i := 2) (own := [("_", 6)]) (g := gName 6) rfl sc_standings.nd rfl rfl (sw_true rfl rfl rfl (by decide +kernel)) (pi_range1 rfl T.m_range (pa_cons (pe_op op_add (pe_callB call_len_seq (by rfl) T.m_len PySem.boot_len (pa_cons (pv 0) pa_nil)) pe_int) pa_nil)) (blkOk_by (N := ["placed", "leads", "standings", "place", "item", "behind", "_"]) (sc := defScope s_standings) (by decide +kernel)) (fun _ _ _ _ _ => pg_name (i := 6) sc_standings.nd rfl (.inl rfl)) (fun _ _ _ _ _ => pts_nil) (fun _ _ _ _ _ => (pe_glob (v := .ref tF) rfl T.c_AT_FIRST rfl))) 
        (pss_cons (ps_for PassesOwn.never rfl (pi_enumT (by rfl) T.m_enumerate (pa_cons (pv 0) pa_nil)) (pg_tup rfl (pgs_cons (pg_name (i := 3) sc_standings.nd rfl (.inl rfl)) (pgs_cons (pg_name (i := 4) sc_standings.nd rfl (.inl rfl)) pgs_nil))) 
          (pss_one (ps_for PassesOwn.never rfl (pi_tup (pe_ix ix_tup (pv 1) (pv 3) (fun _ _ => rfl))) (pg_name (i := 5) sc_standings.nd rfl (.inl rfl)) 
            (pss_one (ps_asg (pe_call G_standing_behind hr (by rfl) g_standing_behind F_standing_behind.kp b_standing_behind .nil pass0 (pa_cons (pe_ix ix_list (pv 2) (pv 3) (fun _ _ => rfl)) (pa_cons (pe_ix ix_tup (pv 4) pe_int (fun _ _ => rfl)) pa_nil))) (pg_sub (pv 2) (pv 5) set_list)))))) 
        (pss_one (ps_ret (pe_slice sl_list (pv 2) po_none (po_some (pe_un un_neg pe_int))))))), ?_⟩
    obtain ⟨b, xs, rfl, hs, ha⟩ : ∃ (b : Addr) (xs : List V), x = .ref b ∧ SqT K H b xs ∧ DpAll K H xs ps := by
      cases hd with
      | tup h1 h2 => exact ⟨_, _, rfl, h1, h2⟩
    obtain ⟨c, ls, rfl, hcs, hla⟩ : ∃ (c : Addr) (ls : List V), y = .ref c ∧ SqT K H c ls ∧ DpAll K H ls (L.map ldD) := by
      cases hL with
      | tup h1 h2 => exact ⟨_, _, rfl, h1, h2⟩
    have hl := dpAll_len ha
    have hll := dpAll_len hla
    rw [List.length_map] at hll
    refine ⟨_, rfl, b, xs, rfl, .inr hs, _, _, rfl, rfl, _, rfl, by omega, by omega, fun D hD => ?_⟩
    have eN : ((xs.length : Int) + 1).toNat = ps.length + 1 := by omega
    refine lc_range (lo := 0) (n := ((xs.length : Int) + 1).toNat) (fun k H' => Same H (hide D H') ∧ ∃ zs, H' D = some (.lst zs) ∧ StAll K (hide D H') zs (List.replicate k ff3)) ⟨same_hide (same_upd hD) hD, [], upd_same, rfl, fun i s e => by cases e⟩ ?_ ?_
    · rintro k H1 hk ⟨s1, zs, hz, hst⟩
      refine ⟨rfl, yes_then ⟨zs, hz, ?_, ?_, _, upd_same, ?_⟩⟩
      · rw [hst.1, List.length_replicate]
        exact small1000 (by omega)
      · rw [hide_upd]
        exact s1
      · rw [hide_upd, List.replicate_succ']
        exact hst.snoc (T.wF _)
    · rintro H1 ⟨s1, zs, hz, hst⟩
      rw [eN] at hst
      refine ⟨_, rfl, b, xs, rfl, Same.seqT (s1.trans hide_le) hs, ?_⟩
      refine for_it walk_enumT (fun i σ H' => Same H (hide D H') ∧ ∃ (zs : List V) (y3 y4 y5 y6 : Option V), σ = [some (.ref b), some (.ref c), some (.ref D), y3, y4, y5, y6] ∧ H' D = some (.lst zs) ∧ StAll K (hide D H') zs (runs (List.replicate (ps.length + 1) ff3) 0 ((ps.zip L).take i))) ⟨s1, zs, _, _, _, _, rfl, hz, hst⟩ (fun i σ H' _ h => Same.seqT (h.1.trans hide_le) hs) ?_ ?_
      · rintro i x σ H2 H2' hi0 ⟨s2, zs1, y3, y4, y5, y6, rfl, hz2, hst2⟩ ⟨t, u, v, rfl, ht, rfl, hu, hx⟩
        have eu : u = .int (i : Nat) := (Option.some.inj hu).symm
        subst eu
        have hid : i < ps.length := by omega
        have hdi : ps[i]? = some ps[i] := List.getElem?_eq_getElem hid
        have hLi : L[i]? = some L[i] := List.getElem?_eq_getElem (by omega)
        have hzip : (ps.zip L).take (i + 1) = (ps.zip L).take i ++ [(ps[i], L[i])] := by
          rw [List.take_add_one, List.getElem?_eq_getElem (by rw [List.length_zip]; omega), List.getElem_zip]
          rfl
        have st : Same H2 (upd H2 t (.tup [.int (i : Nat), v])) := same_upd ht
        have S3 := (s2.trans hide_le).trans st
        have s3 : Same H (hide D (upd H2 t (.tup [.int (i : Nat), v]))) := s2.trans (hide_same st)
        have hdx := dpAll_at ha hx hdi
        obtain ⟨hw, hr5, hwe, hhd⟩ := (hi _ (List.mem_of_getElem? hdi)).head
        have hlv : ls[i]? = some (ls[i]'(by omega)) := List.getElem?_eq_getElem (by omega)
        obtain ⟨ba, hba, hbs⟩ := dp_ld (dpAll_at hla hlv (d := ldD L[i]) (by rw [List.getElem?_map, hLi]; rfl))
        rw [hba] at hlv
        have hbi := hb i _ hLi
        have hz3 := st _ _ hz2
        have hst3 := hst2.same (hide_same st)
        rw [hwe] at hdx
        obtain ⟨xa, xv, rfl, hxs, hx0⟩ := dp_head hdx
        refine ⟨t, _, rfl, .inl (.inl upd_same), rfl, _, _, rfl, _, _, rfl, ?_⟩
        rw [hzip, runs_snoc, List.length_take, List.length_zip, Nat.min_eq_left (by omega), Nat.zero_add, hhd]
        have hTl : (runs (List.replicate (ps.length + 1) ff3) 0 ((ps.zip L).take i)).length = ps.length + 1 := by rw [runs_len, List.length_replicate]
        generalize runs (List.replicate (ps.length + 1) ff3) 0 ((ps.zip L).take i) = S at hst3 hTl ⊢
        generalize L[i] = bs at hbs hbi ⊢
        generalize upd H2 t (.tup [.int (i : Nat), .ref xa]) = H3 at S3 s3 hz3 hst3 ⊢
        have hSi : S[i]? = some (S.getD i (false, false, false)) := by
          rw [List.getD_eq_getElem?_getD, List.getElem?_eq_getElem (by omega)]
          rfl
        generalize S.getD i (false, false, false) = v0 at hSi ⊢
        refine ⟨rfl, _, rfl, _, rfl, c, ls, _, _, rfl, rfl, Same.seqT S3 hcs, atI_nat hlv, ba, rfl, ⟨_, Same.seqT S3 hbs⟩, ?_⟩
        refine for_it (walk_tup (xs := bs.map iN)) (fun j σ H' => Same H (hide D H') ∧ ∃ (zs : List V) (y5 : Option V), σ = [some (.ref b), some (.ref c), some (.ref D), some (.int (i : Nat)), some (.ref xa), y5, y6] ∧ H' D = some (.lst zs) ∧ StAll K (hide D H') zs (setAll S (bs.take j) (stB v0 hw))) ?_ ?_ ?_ ?_
        · exact ⟨s3, zs1, _, rfl, hz3, hst3⟩
        · exact fun j σ H' _ h => Same.seqT (h.1.trans hide_le) hbs
        · rintro j y σ _ H4 hj ⟨s4', zs, y5, rfl, hz4, hst4⟩ ⟨rfl, hy⟩
          have hjb : j < bs.length := by
            rw [List.length_map] at hj
            exact hj
          have hbj : bs[j]? = some bs[j] := List.getElem?_eq_getElem hjb
          have ey : y = iN bs[j] := by
            rw [List.getElem?_map, hbj] at hy
            exact (Option.some.inj hy).symm
          subst ey
          have hjl := hbi bs[j] (List.mem_of_getElem? hbj)
          have htk : bs.take (j + 1) = bs.take j ++ [bs[j]] := by rw [List.take_add_one, hbj]; rfl
          have hsi : (setAll S (bs.take j) (stB v0 hw))[i]? = some v0 := by
            rw [setAll_ne _ _ _ _ fun z => by have := hbi i (List.mem_of_mem_take z); omega]
            exact hSi
          obtain ⟨sa, hsa, hsa3⟩ := hst4.2 i v0 hsi
          refine ⟨_, rfl, _, rfl, D, zs, _, _, rfl, rfl, .inl (.inl hz4), atI_nat hsa, _, rfl, xa, xv, _, _, rfl, rfl, Same.seqT (s4'.trans hide_le) hxs, hx0, sa, v0, hw, rfl, Same.seqT hide_le hsa3, fun H5 a5 s5 h5 => ⟨_, rfl, _, rfl, D, zs, _, bs[j], rfl, rfl, s5 _ _ hz4, ixN_nat0 ?_, ?_⟩⟩
          · rw [hst4.1, setAll_len]
            omega
          · refine ⟨?_, _, _, rfl, upd_same, ?_⟩
            · rw [hide_upd]
              exact s4'.trans (hide_same s5)
            · rw [hide_upd, htk, setAll_snoc]
              refine (hst4.same (hide_same s5)).set bs[j] ?_
              exact sqT_hide h5 (s5 _ _ hz4)
        · rintro σ H4 ⟨s4', zs, y5, rfl, hz4, hst4⟩
          rw [List.length_map, List.take_of_length_le (Nat.le_refl _)] at hst4
          exact ⟨s4', zs, _, _, _, _, rfl, hz4, hst4⟩
      · rintro σ H2 ⟨s2, zs2, y3, y4, y5, y6, rfl, hz2, hst2⟩
        rw [List.take_of_length_le (by rw [List.length_zip]; omega)] at hst2
        have hz2l : zs2.length - 1 = ps.length := by
          rw [hst2.1, runs_len, List.length_replicate]
          omega
        refine ⟨_, rfl, _, rfl, -1, rfl, D, zs2, rfl, .inl (.inl hz2), fun r hr => ?_⟩
        refine q _ r (zs2.take ps.length) ((s2.trans hide_le).trans (same_upd hr)) ?_ ((hst2.take ps.length).same (hide_le.trans (same_upd hr)))
        show upd H2 r (.lst (cutV zs2 none (some (-1)))) r = _
        rw [upd_same, cutM, hz2l]
end
end K04

namespace K04
open PySem PySem.Spec PyProof.Rows StX L2 TL GG OO LY
abbrev sLay_init : Stmt := inClass s_Layout 0
def layF (p l s : Addr) (n : Nat) : List (Str × V) := putF "standings" (.ref s) (putF "leads" (.ref l) (putF "end" (iN n) (putF "placed" (.ref p) [])))
/-- places lead onwards -/
theorem chain_at (e : Nat) : ∀ (n o i : Nat) (bs : List Nat), (chain e o n)[i]? = some bs → ∀ b ∈ bs, b = e ∨ (b = o + i + 1 ∧ b < o + n)
  | 0, _, _, _, h, _, _ => nomatch h
  | 1, o, i, bs, h, b, hb => by
    cases i with
    | zero =>
      obtain rfl := Option.some.inj h
      exact .inl (List.mem_singleton.mp hb)
    | succ i => cases h
  | n + 2, o, i, bs, h, b, hb => by
    cases i with
    | zero =>
      obtain rfl := Option.some.inj h
      have := List.mem_singleton.mp hb
      exact .inr ⟨by omega, by omega⟩
    | succ i =>
      rcases chain_at e (n + 1) (o + 1) i bs h b hb with h | ⟨h1, h2⟩
      · exact .inl h
      · exact .inr ⟨by omega, by omega⟩
theorem leads_fwd (e : Nat) : ∀ (r : List PyData) (o : Nat), o + (spread r).length ≤ e → ∀ (i : Nat) (bs : List Nat), (leads e o r)[i]? = some bs → ∀ b ∈ bs, o + i < b ∧ b ≤ e
  | [], _, _, _, _, h, _, _ => nomatch h
  | d :: r, o, he, i, bs, h, b, hb => by
    rw [spread_cons, List.length_cons, List.length_append] at he
    cases hw : wayOf d with
    | none =>
      have h1 : way d = [] := by unfold LY.way; rw [hw]; rfl
      rw [h1, List.length_nil] at he
      rw [leads_none hw] at h
      cases i with
      | zero =>
        obtain rfl := Option.some.inj h
        have := List.mem_singleton.mp hb
        omega
      | succ i =>
        have := leads_fwd e r (o + 1) (by omega) i bs h b hb
        omega
    | some w =>
      have h1 : way d = w := by unfold LY.way; rw [hw]; rfl
      rw [h1] at he
      rw [leads_some hw] at h
      cases i with
      | zero =>
        obtain rfl := Option.some.inj h
        rcases List.mem_cons.mp hb with rfl | hb
        · omega
        · have := List.mem_singleton.mp hb
          by_cases hz : w.length = 0
          · rw [if_pos hz] at this
            omega
          · rw [if_neg hz] at this
            omega
      | succ i =>
        have h : (chain e (o + 1) w.length ++ leads e (o + 1 + w.length) r)[i]? = some bs := h
        by_cases hi : i < w.length
        · rw [List.getElem?_append_left (by rw [chain_len]; exact hi)] at h
          have hk := chain_at e w.length (o + 1) i bs h b hb
          omega
        · rw [List.getElem?_append_right (by rw [chain_len]; omega), chain_len] at h
          have := leads_fwd e r (o + 1 + w.length) (by omega) (i - w.length) bs h b hb
          omega
section
variable {P : Program} {w : World} {K : PySem.W.Frag} {mg : Str → Option Value} {base : Heap} {lt0 lt1 lt2 lt3 lt4 : Tok} {t0 t1 t2 t3 t4 t5 t6 t7 t8 tF tO dC : Addr}
/-- the class Layout -/
structure LyT (K : PySem.W.Frag) (mg : Str → Option Value) (C : Addr) : Prop where
  mgC : mg "Layout" = some (.ref C)
  cl : Cls K C
  nP : NoAttr K C "placed"
  nE : NoAttr K C "end"
  nL : NoAttr K C "leads"
  nS : NoAttr K C "standings"
def stds (ds : List PyData) : List St3 := (runs (List.replicate ((spread ds).length + 1) ff3) 0 ((spread ds).zip (leads (spread ds).length 0 ds))).take (spread ds).length
def LayAt (K : PySem.W.Frag) (C : Addr) (H : Hp) (y : Addr) (ds : List PyData) : Prop := ∃ (dx p l s : Addr) (zs : List V), H y = some (.ins C dx (layF p l s (spread ds).length)) ∧ Dp K H (.ref p) (.tuple (spread ds)) ∧ Dp K H (.ref l) (.tuple ((leads (spread ds).length 0 ds).map ldD)) ∧ H s = some (.tup zs) ∧ StAll K H zs (stds ds)
def spLayI (K : PySem.W.Frag) (C : Addr) : Sp := fun vs H Q _ => ∃ (x dx : Addr) (y : V) (ds : List PyData), vs = [.ref x, y] ∧ H x = some (.ins C dx []) ∧ Dp K H y (.tuple ds) ∧ (∀ d ∈ ds, ItemD d) ∧ (∀ d ∈ spread ds, ItemD d) ∧ (spread ds).length ≤ 100 ∧ ∀ H', Keep x H H' → LayAt K C H' x ds → Q .non H'
theorem n_pl : ¬ (("placed" : Str) = "leads") := by decide +kernel
theorem n_pe : ¬ (("placed" : Str) = "end") := by decide +kernel
theorem sqT_keep {x : Addr} {H H' : Hp} {C dx a : Addr} {fs : List (Str × V)} {xs : List V} (k : Keep x H H') (hx : H x = some (.ins C dx fs)) (h : SqT K H a xs) : SqT K H' a xs := by
  rcases h with h | h
  · refine .inl ?_
    rcases h with h | ⟨o, h⟩
    · exact .inl (k a (fun z => by rw [z, hx] at h; cases h) _ h)
    · exact .inr ⟨o, k a (fun z => by rw [z, hx] at h; cases h) _ h⟩
  · exact .inr h
theorem keep_of {x : Addr} {H H' : Hp} (s : Same H H') : Keep x H H' := fun b _ o e => s b o e
theorem keep_tr {x : Addr} {H H1 H2 : Hp} (a : Keep x H H1) (b : Keep x H1 H2) : Keep x H H2 := fun c hc o e => b c hc o (a c hc o e)
theorem keep_same2 {x : Addr} {H H' : Hp} {o : HO} (s : Same H H') : Keep x H (upd H' x o) := fun b hb u e => by rw [upd_ne hb]; exact s b u e
theorem sc_lay_init : FnScope ["self", "parts"] ["self", "parts"] (defScope sLay_init) := ⟨rfl, rfl, rfl, by decide +kernel, rfl, by decide +kernel, by decide +kernel⟩
theorem ok_lay_init {C : Addr} {f : Addr} {fd : FuncData} (F : Fun K "__init__" "Layout.__init__" sLay_init f fd) (T : Txt K mg lt0 lt1 lt2 lt3 lt4 t0 t1 t2 t3 t4 t5 t6 t7 t8 tF tO dC) (CT : LyT K mg C) {f1 : Addr} {fd1 : FuncData} (F_spread : Fun K "_spread" "_spread" s_spread f1 fd1) (b_spread : Binds K fd1 ["parts"] []) (g_spread : mg "_spread" = some (.ref f1)) (G_spread : FnOk P w K mg base CX0 2 f1 fd1 ["parts"] (spSpread K)) {f2 : Addr} {fd2 : FuncData} (F_leads : Fun K "_leads" "_leads" s_leads f2 fd2) (b_leads : Binds K fd2 ["parts", "end"] []) (g_leads : mg "_leads" = some (.ref f2)) (G_leads : FnOk P w K mg base CX0 2 f2 fd2 ["parts", "end"] (spLeads K)) {f3 : Addr} {fd3 : FuncData} (F_standings : Fun K "_standings" "_standings" s_standings f3 fd3) (b_standings : Binds K fd3 ["placed", "leads"] []) (g_standings : mg "_standings" = some (.ref f3)) (G_standings : FnOk P w K mg base CX0 2 f3 fd3 ["placed", "leads"] (spStandings K)) : FnOk P w K mg base CX0 3 f fd ["self", "parts"] (spLayI K C) := by
  refine F.ok sc_lay_init (fun vs H Q E h => ?_) (fun cdv A outer s H vs Q E hr h => ?_)
  · obtain ⟨x, dx, y, ds, rfl, _⟩ := h
    rfl
  · obtain ⟨x, dx, y, ds, rfl, hx, hd, hi, hsi, hlen, q⟩ := h
    refine ⟨_, (pss_cons (ps_fld (pv 0) (pe_callTy call_tuple_of (by rfl) T.m_tuple (by decide +kernel) (pa_cons (pe_call G_spread hr (by rfl) g_spread F_spread.kp b_spread .nil pass0 (pa_cons (pv 1) pa_nil)) pa_nil)) rfl)
      (pss_cons (ps_fld (pv 0) (pe_callB call_len_seq (by rfl) T.m_len PySem.boot_len (pa_cons (pe_fld (pv 0) rfl) pa_nil)) rfl)
      (pss_cons (ps_fld (pv 0) (pe_callTy call_tuple_of (by rfl) T.m_tuple (by decide +kernel) (pa_cons (pe_call G_leads hr (by rfl) g_leads F_leads.kp b_leads .nil pass0 (pa_cons (pv 1) (pa_cons (pe_fld (pv 0) rfl) pa_nil))) pa_nil)) rfl)
      (pss_one (ps_fld (pv 0) (pe_callTy call_tuple_of (by rfl) T.m_tuple (by decide +kernel) (pa_cons (pe_call G_standings hr (by rfl) g_standings F_standings.kp b_standings .nil pass0 (pa_cons (pe_fld (pv 0) rfl) (pa_cons (pe_fld (pv 0) rfl) pa_nil))) pa_nil)) rfl))))), ?_⟩
    refine ⟨_, rfl, y, ds, rfl, hd, hi, hlen, fun H1 p1 ys s1 hp1 hys => ⟨p1, ys, rfl, .inl ⟨.inl (.inl hp1), fun p hp => ?_⟩⟩⟩
    have hx1 := s1 _ _ hx
    have hxp : x ≠ p := ne_of_none hx1 hp
    refine ⟨_, rfl, x, C, dx, [], rfl, (by rw [upd_ne hxp]; exact hx1), CT.cl, CT.nP, (by show 0 < 1000; decide), ?_⟩
    have k1 : Keep x H1 (upd (upd H1 p (.tup ys)) x (.ins C dx (putF "placed" (.ref p) []))) := keep_same2 (same_upd hp)
    have k2 : Keep x H (upd (upd H1 p (.tup ys)) x (.ins C dx (putF "placed" (.ref p) []))) := keep_tr (keep_of s1) k1
    have h2x : upd (upd H1 p (.tup ys)) x (.ins C dx (putF "placed" (.ref p) [])) x = some (.ins C dx (putF "placed" (.ref p) [])) := upd_same
    have h2p : upd (upd H1 p (.tup ys)) x (.ins C dx (putF "placed" (.ref p) [])) p = some (.tup ys) := by rw [upd_ne hxp.symm, upd_same]
    have hys2 := dpAll_keep k1 hx1 _ _ hys
    show tSeq _ _ _ _ (upd (upd H1 p (.tup ys)) x (.ins C dx (putF "placed" (.ref p) [])))
    generalize upd (upd H1 p (.tup ys)) x (.ins C dx (putF "placed" (.ref p) [])) = H2 at k1 k2 h2x h2p hys2 ⊢
    have hyl := dpAll_len hys2
    refine ⟨_, rfl, x, C, dx, _, _, rfl, h2x, CT.cl, CT.nP, (by rw [lookup_putF, if_pos rfl]), p, ys, rfl, .inr (.inl (.inl h2p)), ?_⟩
    refine ⟨_, rfl, x, C, dx, _, rfl, h2x, CT.cl, CT.nE, (by show 1 < 1000; decide), ?_⟩
    rw [hyl]
    generalize hn : (spread ds).length = n at hlen hyl ⊢
    have k3 : Keep x H2 (upd H2 x (.ins C dx (putF "end" (iN n) (putF "placed" (.ref p) [])))) := keep_same2 (Same.refl H2)
    have h3x : upd H2 x (.ins C dx (putF "end" (iN n) (putF "placed" (.ref p) []))) x = some (.ins C dx (putF "end" (iN n) (putF "placed" (.ref p) []))) := upd_same
    have h3p := k3 p hxp.symm _ h2p
    have hys3 := dpAll_keep k3 h2x _ _ hys2
    have kH3 := keep_tr k2 k3
    show tSeq _ _ _ _ (upd H2 x (.ins C dx (putF "end" (iN n) (putF "placed" (.ref p) []))))
    generalize upd H2 x (.ins C dx (putF "end" (iN n) (putF "placed" (.ref p) []))) = H3 at k3 h3x h3p hys3 kH3 ⊢
    refine ⟨_, rfl, _, rfl, x, C, dx, _, _, rfl, h3x, CT.cl, CT.nE, (by rw [lookup_putF, if_pos rfl]), y, ds, n, rfl, dp_keep kH3 hx _ _ hd, hi, (by omega), hlen, fun H4 p4 ys4 s4 hp4 hys4 => ⟨p4, ys4, rfl, .inl ⟨.inl (.inl hp4), fun l hl => ?_⟩⟩⟩
    have hx4 := s4 _ _ h3x
    have hxl : x ≠ l := ne_of_none hx4 hl
    refine ⟨_, rfl, x, C, dx, _, rfl, (by rw [upd_ne hxl]; exact hx4), CT.cl, CT.nL, (by show 2 < 1000; decide), ?_⟩
    subst hn
    have k5 : Keep x H4 (upd (upd H4 l (.tup ys4)) x (.ins C dx (putF "leads" (.ref l) (putF "end" (iN (spread ds).length) (putF "placed" (.ref p) []))))) := keep_same2 (same_upd hl)
    have h5x : upd (upd H4 l (.tup ys4)) x (.ins C dx (putF "leads" (.ref l) (putF "end" (iN (spread ds).length) (putF "placed" (.ref p) [])))) x = some (.ins C dx (putF "leads" (.ref l) (putF "end" (iN (spread ds).length) (putF "placed" (.ref p) [])))) := upd_same
    have h5l : upd (upd H4 l (.tup ys4)) x (.ins C dx (putF "leads" (.ref l) (putF "end" (iN (spread ds).length) (putF "placed" (.ref p) [])))) l = some (.tup ys4) := by rw [upd_ne hxl.symm, upd_same]
    generalize upd (upd H4 l (.tup ys4)) x (.ins C dx (putF "leads" (.ref l) (putF "end" (iN (spread ds).length) (putF "placed" (.ref p) [])))) = H5 at k5 h5x h5l ⊢
    have kH5 := keep_tr kH3 (keep_tr (keep_of s4) k5)
    have h5p := k5 p hxp.symm _ (s4 _ _ h3p)
    have d5p : Dp K H5 (.ref p) (.tuple (spread ds)) := .tup (.inl (.inl h5p)) (dpAll_keep k5 hx4 _ _ (dpAll_same s4 _ _ hys3))
    have d5l : Dp K H5 (.ref l) (.tuple ((leads (spread ds).length 0 ds).map ldD)) := .tup (.inl (.inl h5l)) (dpAll_keep k5 hx4 _ _ hys4)
    refine ⟨_, rfl, x, C, dx, _, _, rfl, h5x, CT.cl, CT.nP, (by rw [lookup_putF, if_neg n_pl, lookup_putF, if_neg n_pe, lookup_putF, if_pos rfl]), _, rfl, x, C, dx, _, _, rfl, h5x, CT.cl, CT.nL, (by rw [lookup_putF, if_pos rfl]), .ref p, .ref l, spread ds, leads (spread ds).length 0 ds, rfl, d5p, d5l, leads_len _ _ _, hsi, hlen, fun i bs hbs b hb => ?_, fun H6 p6 zs s6 hp6 hst => ⟨p6, zs, rfl, .inl ⟨.inl (.inl hp6), fun sa hsa => ?_⟩⟩⟩
    · have := leads_fwd (spread ds).length ds 0 (by omega) i bs hbs b hb
      omega
    have hx6 := s6 _ _ h5x
    have hxs : x ≠ sa := ne_of_none hx6 hsa
    refine ⟨_, rfl, x, C, dx, _, rfl, (by rw [upd_ne hxs]; exact hx6), CT.cl, CT.nS, (by show 3 < 1000; decide), q _ ?_ ?_⟩
    · exact keep_tr kH5 (keep_tr (keep_of s6) (keep_same2 (same_upd hsa)))
    · have k7 : Keep x H6 (upd (upd H6 sa (.tup zs)) x (.ins C dx (layF p l sa (spread ds).length))) := keep_same2 (same_upd hsa)
      refine ⟨dx, p, l, sa, zs, upd_same, dp_keep k7 hx6 _ _ (dp_same s6 _ _ d5p), dp_keep k7 hx6 _ _ (dp_same s6 _ _ d5l), ?_, hst.1, fun i t e => ?_⟩
      · show upd (upd H6 sa (.tup zs)) x (.ins C dx (layF p l sa (spread ds).length)) sa = _
        rw [upd_ne hxs.symm, upd_same]
      · obtain ⟨a, h1, h2⟩ := hst.2 i t e
        exact ⟨a, h1, sqT_keep k7 hx6 h2⟩
end
end K04

namespace K04
open PySem PySem.Spec PyProof.Rows StX L2 TL GG OO LY
theorem n_el : ¬ (("end" : Str) = "leads") := by decide +kernel
theorem n_ps : ¬ (("placed" : Str) = "standings") := by decide +kernel
theorem n_es : ¬ (("end" : Str) = "standings") := by decide +kernel
theorem n_ls : ¬ (("leads" : Str) = "standings") := by decide +kernel
theorem layF_p (p l s : Addr) (n : Nat) : (layF p l s n).lookup ("placed" : Str) = some (.ref p) := by unfold layF; rw [lookup_putF, if_neg n_ps, lookup_putF, if_neg n_pl, lookup_putF, if_neg n_pe, lookup_putF, if_pos rfl]
theorem layF_e (p l s : Addr) (n : Nat) : (layF p l s n).lookup ("end" : Str) = some (iN n) := by unfold layF; rw [lookup_putF, if_neg n_es, lookup_putF, if_neg n_el, lookup_putF, if_pos rfl]
theorem layF_l (p l s : Addr) (n : Nat) : (layF p l s n).lookup ("leads" : Str) = some (.ref l) := by unfold layF; rw [lookup_putF, if_neg n_ls, lookup_putF, if_pos rfl]
theorem layF_s (p l s : Addr) (n : Nat) : (layF p l s n).lookup ("standings" : Str) = some (.ref s) := by unfold layF; rw [lookup_putF, if_pos rfl]
section
variable {P : Program} {w : World} {K : PySem.W.Frag} {mg : Str → Option Value} {base : Heap} {lt0 lt1 lt2 lt3 lt4 : Tok} {t0 t1 t2 t3 t4 t5 t6 t7 t8 tF tO dC : Addr}
/-- a place of a layout, as it lies -/
structure PlAt (K : PySem.W.Frag) (C : Addr) (H : Hp) (y dx p l s : Addr) (n i : Nat) (d : PyData) (bs : List Nat) (t : St3) : Prop where
  at_ : H y = some (.ins C dx (layF p l s n))
  pl : ∃ ps v, SqT K H p ps ∧ ps[i]? = some v ∧ Dp K H v d
  ld : ∃ ls a, SqT K H l ls ∧ ls[i]? = some (V.ref a) ∧ SqT K H a (bs.map iN)
  st : ∃ zs a, SqT K H s zs ∧ zs[i]? = some (V.ref a) ∧ SqT K H a (v3 t)
theorem LayAt.at {C : Addr} {H : Hp} {y : Addr} {ds : List PyData} {i : Nat} {d : PyData} {bs : List Nat} {t : St3} (h : LayAt K C H y ds) (hd : (spread ds)[i]? = some d) (hb : (leads (spread ds).length 0 ds)[i]? = some bs) (ht : (stds ds)[i]? = some t) : ∃ dx p l s : Addr, PlAt K C H y dx p l s (spread ds).length i d bs t := by
  obtain ⟨dx, p, l, s, zs, h1, h2, h3, h4, h5⟩ := h
  refine ⟨dx, p, l, s, h1, ?_, ?_, ?_⟩
  · cases h2 with
    | tup a b =>
      have hl := dpAll_len b
      have hi := (List.getElem?_eq_some_iff.mp hd).1
      rename_i vs
      have hv : vs[i]? = some (vs[i]'(by omega)) := List.getElem?_eq_getElem (by omega)
      exact ⟨_, _, a, hv, dpAll_at b hv hd⟩
  · cases h3 with
    | tup a b =>
      have hl := dpAll_len b
      rw [List.length_map] at hl
      have hi := (List.getElem?_eq_some_iff.mp hb).1
      rename_i vs
      have hv : vs[i]? = some (vs[i]'(by omega)) := List.getElem?_eq_getElem (by omega)
      obtain ⟨a', e, hs⟩ := dp_ld (dpAll_at b hv (d := ldD bs) (by rw [List.getElem?_map, hb]; rfl))
      rw [e] at hv
      exact ⟨_, a', a, hv, hs⟩
  · obtain ⟨a, e, hs⟩ := h5.2 i t ht
    exact ⟨zs, a, .inl (.inl h4), e, hs⟩
theorem dp_sq {H : Hp} {a : Addr} (F : List Nat) (h : SqT K H a (F.map iN)) : Dp K H (.ref a) (ldD F) := by
  refine .tup h ?_
  have := dp_ints (K := K) (H := H) (F.map Int.ofNat)
  rw [List.map_map, List.map_map] at this
  exact this
theorem inV_iN (e : Nat) : ∀ bs : List Nat, inV (iN e) (bs.map iN) = decide (e ∈ bs)
  | [] => rfl
  | b :: bs => by
    have h := inV_iN e bs
    unfold inV at h ⊢
    rw [List.map_cons, List.any_cons, h, Bool.eq_iff_iff, Bool.or_eq_true, decide_eq_true_iff, decide_eq_true_iff, List.mem_cons]
    have : eqV (iN b) (iN e) = true ↔ e = b := by
      show decide (Int.ofNat b = Int.ofNat e) = true ↔ _
      rw [decide_eq_true_iff]
      exact ⟨fun z => (Int.ofNat.inj z).symm, fun z => by rw [z]⟩
    rw [this]
theorem flat_iN (bs : List Nat) : (bs.map iN).all flatV = true := by
  rw [List.all_map]
  exact List.all_eq_true.mpr fun _ _ => rfl
def spPl (K : PySem.W.Frag) (C : Addr) (r : Bool) : Sp := fun vs H Q _ => ∃ (y dx p l s : Addr) (n i : Nat) (d : PyData) (bs : List Nat) (t : St3), vs = [.ref y, iN i] ∧ PlAt K C H y dx p l s n i d bs t ∧ ItemD d ∧ okAt n d bs t ∧ ∀ H', Same H H' → Q (.bl r) H'
theorem sc_ends_badly : FnScope ["layout", "place", "_", "under", "locked"] ["layout", "place"] (defScope s_ends_badly) := ⟨rfl, rfl, rfl, by decide +kernel, rfl, by decide +kernel, by decide +kernel⟩
theorem ok_ends_badly {f : Addr} {fd : FuncData} (F : Fun K "_ends_badly" "_ends_badly" s_ends_badly f fd) (T : Txt K mg lt0 lt1 lt2 lt3 lt4 t0 t1 t2 t3 t4 t5 t6 t7 t8 tF tO dC) {C : Addr} (CT : LyT K mg C) {f1 : Addr} {fd1 : FuncData} (F_standing_behind : Fun K "_standing_behind" "_standing_behind" s_standing_behind f1 fd1) (b_standing_behind : Binds K fd1 ["standing", "word"] []) (g_standing_behind : mg "_standing_behind" = some (.ref f1)) (G_standing_behind : FnOk P w K mg base CX0 1 f1 fd1 ["standing", "word"] (spStB K)) : FnOk P w K mg base CX0 2 f fd ["layout", "place"] (spPl K C false) := by
  refine F.ok sc_ends_badly (fun vs H Q E h => ?_) (fun cdv A outer s H vs Q E hr h => ?_)
  · obtain ⟨y, dx, p, l, s, n, i, d, bs, t, rfl, _⟩ := h
    rfl
  · obtain ⟨y, dx, p, l, s, n, i, d, bs, t, rfl, hp, hit, ⟨hm, hlet, hend⟩, q⟩ := h
    refine ⟨_, (pss_cons (ps_if (pt_cmpR op_notIn_seq (pe_fld (pv 0) rfl) (pe_ix ix_tup (pe_fld (pv 0) rfl) (pv 1) (fun _ _ => rfl)) (by rfl)) 
          (pss_one (ps_ret pe_bl)) pss_nil) 
        (pss_cons (ps_asg (pe_call G_standing_behind hr (by rfl) g_standing_behind F_standing_behind.kp b_standing_behind .nil pass0 (pa_cons (pe_ix ix_tup (pe_fld (pv 0) rfl) (pv 1) (fun _ _ => rfl)) (pa_cons (pe_ix ix_tup (pe_ix ix_tup (pe_fld (pv 0) rfl) (pv 1) (fun _ _ => rfl)) pe_int (fun _ _ => rfl)) pa_nil))) (pg_tup rfl (pgs_cons (pg_name (i := 2) sc_ends_badly.nd rfl (.inl rfl)) (pgs_cons (pg_name (i := 3) sc_ends_badly.nd rfl (.inl rfl)) (pgs_cons (pg_name (i := 4) sc_ends_badly.nd rfl (.inl rfl)) pgs_nil))))) 
        (pss_one (ps_ret (pe_or (pv 3) (pe_one (pv 4))))))), ?_⟩
    obtain ⟨ps, v, hps, hv, hvd⟩ := hp.pl
    obtain ⟨ls, la, hls, hla, hlb⟩ := hp.ld
    obtain ⟨zs, za, hzs, hza, hzt⟩ := hp.st
    obtain ⟨hw, r5, rfl, hhd⟩ := hit.head
    obtain ⟨xa, xv, rfl, hxs, hx0⟩ := dp_head hvd
    refine ⟨_, rfl, y, C, dx, _, _, rfl, hp.at_, CT.cl, CT.nE, layF_e p l s n, _, rfl, y, C, dx, _, _, rfl, hp.at_, CT.cl, CT.nL, layF_l p l s n, _, rfl, l, ls, _, _, rfl, rfl, hls, atI_nat hla, la, _, rfl, .inr hlb, rfl, flat_iN bs, ?_⟩
    by_cases he : n ∈ bs
    · have hz := hend he
      rw [hhd] at hz
      refine ⟨_, rfl, iteB (c := false) (by show (!inV (iN n) (bs.map iN)) = false; rw [inV_iN, decide_eq_true he]; rfl) (iteF ?_)⟩
      refine ⟨_, rfl, y, C, dx, _, _, rfl, hp.at_, CT.cl, CT.nS, layF_s p l s n, _, rfl, s, zs, _, _, rfl, rfl, hzs, atI_nat hza, _, rfl, y, C, dx, _, _, rfl, hp.at_, CT.cl, CT.nP, layF_p p l s n, _, rfl, p, ps, _, _, rfl, rfl, hps, atI_nat hv, xa, xv, _, _, rfl, rfl, hxs, hx0, za, t, hw, rfl, hzt, fun H1 a1 s1 h1 => ⟨a1, _, rfl, h1, rfl, _, _, rfl, _, _, rfl, _, _, rfl, rfl, ?_⟩⟩
      have h21 : (stB t hw).2.1 = false := by rw [hz]
      have h22 : (stB t hw).2.2 = false := by rw [hz]
      refine ⟨_, rfl, _, rfl, iteB (c := false) h21 (iteF ⟨_, rfl, ?_⟩)⟩
      show Q (.bl (stB t hw).2.2) H1
      rw [h22]
      exact q H1 s1
    · refine ⟨_, rfl, iteB (c := true) (by show (!inV (iN n) (bs.map iN)) = true; rw [inV_iN, decide_eq_false he]; rfl) (iteT ?_)⟩
      exact q H (Same.refl H)
theorem sc_may_stand : FnScope ["layout", "place", "word", "_", "under", "locked"] ["layout", "place"] (defScope s_may_stand) := ⟨rfl, rfl, rfl, by decide +kernel, rfl, by decide +kernel, by decide +kernel⟩
theorem ok_may_stand {f : Addr} {fd : FuncData} (F : Fun K "_may_stand" "_may_stand" s_may_stand f fd) (T : Txt K mg lt0 lt1 lt2 lt3 lt4 t0 t1 t2 t3 t4 t5 t6 t7 t8 tF tO dC) {C : Addr} (CT : LyT K mg C) : FnOk P w K mg base CX0 1 f fd ["layout", "place"] (spPl K C true) := by
  refine F.ok sc_may_stand (fun vs H Q E h => ?_) (fun cdv A outer s H vs Q E hr h => ?_)
  · obtain ⟨y, dx, p, l, s, n, i, d, bs, t, rfl, _⟩ := h
    rfl
  · obtain ⟨y, dx, p, l, s, n, i, d, bs, t, rfl, hp, hit, ⟨hm, hlet, hend⟩, q⟩ := h
    refine ⟨_, (pss_cons (ps_set (i := 2) sc_may_stand.nd rfl (.inl rfl) (pe_ix ix_tup (pe_ix ix_tup (pe_fld (pv 0) rfl) (pv 1) (fun _ _ => rfl)) pe_int (fun _ _ => rfl))) 
        (pss_cons (ps_asg (pe_ix ix_tup (pe_fld (pv 0) rfl) (pv 1) (fun _ _ => rfl)) (pg_tup rfl (pgs_cons (pg_name (i := 3) sc_may_stand.nd rfl (.inl rfl)) (pgs_cons (pg_name (i := 4) sc_may_stand.nd rfl (.inl rfl)) (pgs_cons (pg_name (i := 5) sc_may_stand.nd rfl (.inl rfl)) pgs_nil))))) 
        (pss_cons (ps_if (pt_cmpR op_eq (pv 2) pe_str (nomark _)) 
          (pss_one (ps_ret (pe_not (pv 4)))) pss_nil) 
        (pss_cons (ps_if (pt_cmpR op_eq (pv 2) pe_str (nomark _)) 
          (pss_one (ps_ret (pv 4))) pss_nil) 
        (pss_cons (ps_if (pt_cmpR op_eq (pv 2) pe_str (nomark _)) 
          (pss_one (ps_ret (pe_not (pv 5)))) pss_nil) 
        (pss_cons (ps_if (pt_cmpR op_eq (pv 2) pe_str (nomark _)) 
          (pss_one (ps_ret (pv 5))) pss_nil) 
        (pss_one (ps_ret (pe_or (pe_cmpR op_ne (pv 2) pe_str (nomark _)) (pe_one (pe_cmpR (op_eqD hr.units) (pe_ix ix_tup (pe_fld (pv 0) rfl) (pv 1) (fun _ _ => rfl)) (pe_tup (pa_cons (pe_fld (pv 0) rfl) pa_nil)) (nomark _)))))))))))), ?_⟩
    obtain ⟨ps, v, hps, hv, hvd⟩ := hp.pl
    obtain ⟨ls, la, hls, hla, hlb⟩ := hp.ld
    obtain ⟨zs, za, hzs, hza, hzt⟩ := hp.st
    obtain ⟨hw, r5, rfl, hhd⟩ := hit.head
    obtain ⟨xa, xv, rfl, hxs, hx0⟩ := dp_head hvd
    rw [hhd] at hm hlet
    refine ⟨_, rfl, y, C, dx, _, _, rfl, hp.at_, CT.cl, CT.nP, layF_p p l s n, _, rfl, p, ps, _, _, rfl, rfl, hps, atI_nat hv, xa, xv, _, _, rfl, rfl, hxs, hx0, ?_⟩
    refine ⟨_, rfl, y, C, dx, _, _, rfl, hp.at_, CT.cl, CT.nS, layF_s p l s n, _, rfl, s, zs, _, _, rfl, rfl, hzs, atI_nat hza, za, _, rfl, hzt, rfl, _, _, rfl, _, _, rfl, _, _, rfl, rfl, ?_⟩
    unfold may at hm
    by_cases w1 : hw = "enter"
    · rw [if_pos w1] at hm
      refine ⟨_, rfl, rfl, _, rfl, iteB (c := true) (decide_eq_true (by rw [w1])) (iteT ?_)⟩
      refine ⟨_, rfl, _, rfl, ?_⟩
      show Q (.bl (!t.2.1)) H
      rw [hm]
      exact q H (Same.refl H)
    rw [if_neg w1] at hm
    refine ⟨_, rfl, rfl, _, rfl, iteB (c := false) (decide_eq_false fun z => w1 (V.str.inj z)) (iteF ?_)⟩
    by_cases w2 : hw = "leave"
    · rw [if_pos w2] at hm
      refine ⟨_, rfl, rfl, _, rfl, iteB (c := true) (decide_eq_true (by rw [w2])) (iteT ?_)⟩
      refine ⟨_, rfl, ?_⟩
      show Q (.bl t.2.1) H
      rw [hm]
      exact q H (Same.refl H)
    rw [if_neg w2] at hm
    refine ⟨_, rfl, rfl, _, rfl, iteB (c := false) (decide_eq_false fun z => w2 (V.str.inj z)) (iteF ?_)⟩
    by_cases w3 : hw = "lock"
    · rw [if_pos w3] at hm
      refine ⟨_, rfl, rfl, _, rfl, iteB (c := true) (decide_eq_true (by rw [w3])) (iteT ?_)⟩
      refine ⟨_, rfl, _, rfl, ?_⟩
      show Q (.bl (!t.2.2)) H
      rw [hm]
      exact q H (Same.refl H)
    rw [if_neg w3] at hm
    refine ⟨_, rfl, rfl, _, rfl, iteB (c := false) (decide_eq_false fun z => w3 (V.str.inj z)) (iteF ?_)⟩
    by_cases w4 : hw = "unlock"
    · rw [if_pos w4] at hm
      refine ⟨_, rfl, rfl, _, rfl, iteB (c := true) (decide_eq_true (by rw [w4])) (iteT ?_)⟩
      refine ⟨_, rfl, ?_⟩
      show Q (.bl t.2.2) H
      rw [hm]
      exact q H (Same.refl H)
    refine ⟨_, rfl, rfl, _, rfl, iteB (c := false) (decide_eq_false fun z => w4 (V.str.inj z)) (iteF ?_)⟩
    by_cases w5 : hw = "let"
    · obtain rfl := hlet w5
      refine ⟨_, rfl, rfl, _, rfl, iteB (c := false) (by rw [w5]; rfl) (iteF ?_)⟩
      refine ⟨_, rfl, y, C, dx, _, _, rfl, hp.at_, CT.cl, CT.nL, layF_l p l s n, _, rfl, l, ls, _, _, rfl, rfl, hls, atI_nat hla, _, rfl, y, C, dx, _, _, rfl, hp.at_, CT.cl, CT.nE, layF_e p l s n, Nat.le_of_lt (small1000 (by show 1 ≤ 1000; omega)), fun t1 ht1 => ?_⟩
      have s1 : Same H (upd H t1 (.tup [iN n])) := same_upd ht1
      refine ⟨ldD [n], ldD [n], dp_sq [n] (Same.seqT s1 hlb), dp_sq [n] (.inl (.inl upd_same)), rfl, rfl, ?_⟩
      have hsh : SeqAt.shaped (ldD [n]) = true := rfl
      have e : PyData.eqv (ldD [n]) (ldD [n]) = true := SeqAt.eqv_refl _ (SeqAt.canLay_of_shaped hsh)
      rw [e]
      exact q _ s1
    · have e : (!decide (V.str hw = V.str "let")) = true := by rw [decide_eq_false fun z => w5 (V.str.inj z)]; rfl
      refine ⟨_, rfl, rfl, _, rfl, iteB (c := true) e (iteT ?_)⟩
      exact q H (Same.refl H)
end
end K04

namespace K04
open PySem PySem.Spec PyProof.Rows StX L2 TL GG OO LY
theorem inV_strs (z : Str) : ∀ ws : List Str, inV (.str z) (ws.map V.str) = decide (z ∈ ws)
  | [] => rfl
  | b :: bs => by
    have h := inV_strs z bs
    unfold inV at h ⊢
    rw [List.map_cons, List.any_cons, h, Bool.eq_iff_iff, Bool.or_eq_true, decide_eq_true_iff, decide_eq_true_iff, List.mem_cons]
    have : eqV (.str b) (.str z) = true ↔ z = b := by
      show decide (b = z) = true ↔ _
      rw [decide_eq_true_iff]
      exact ⟨fun z => z.symm, fun z => z.symm⟩
    rw [this]
theorem flat_strs (bs : List Str) : (bs.map V.str).all flatV = true := by
  rw [List.all_map]
  exact List.all_eq_true.mpr fun _ _ => rfl
section
variable {P : Program} {w : World} {K : PySem.W.Frag} {mg : Str → Option Value} {base : Heap} {lt0 lt1 lt2 lt3 lt4 : Tok} {t0 t1 t2 t3 t4 t5 t6 t7 t8 tF tO dC : Addr}
theorem PlAt.same {C : Addr} {H H' : Hp} {y dx p l s : Addr} {n i : Nat} {d : PyData} {bs : List Nat} {t : St3} (h : PlAt K C H y dx p l s n i d bs t) (k : Same H H') : PlAt K C H' y dx p l s n i d bs t := by
  obtain ⟨h1, ⟨ps, v, a1, a2, a3⟩, ⟨ls, a, b1, b2, b3⟩, ⟨zs, z, c1, c2, c3⟩⟩ := h
  exact ⟨k _ _ h1, ⟨ps, v, Same.seqT k a1, a2, dp_same k _ _ a3⟩, ⟨ls, a, Same.seqT k b1, b2, Same.seqT k b3⟩, ⟨zs, z, Same.seqT k c1, c2, Same.seqT k c3⟩⟩
def spPlaces (K : PySem.W.Frag) (C : Addr) : Sp := fun vs H Q _ => ∃ (y dx p l s tw : Addr) (n o : Nat) (ws : List Str), vs = [.ref y, iN o, .ref tw] ∧ H y = some (.ins C dx (layF p l s n)) ∧ SqT K H tw (ws.map V.str) ∧ (∃ ps, SqT K H p ps ∧ ∀ i v, ps[i]? = some v → ∃ d bs t, PlAt K C H y dx p l s n i d bs t ∧ Dp K H v d ∧ ItemD d ∧ okAt n d bs t ∧ (o ≤ i → headW d ∉ ws)) ∧ ∀ H', Same H H' → Q .non H'
theorem sc_check_places : FnScope ["layout", "opening", "barred", "place", "item"] ["layout", "opening", "barred"] (defScope s_check_places) := ⟨rfl, rfl, rfl, by decide +kernel, rfl, by decide +kernel, by decide +kernel⟩
theorem ok_check_places {f : Addr} {fd : FuncData} (F : Fun K "check_places" "check_places" s_check_places f fd) (T : Txt K mg lt0 lt1 lt2 lt3 lt4 t0 t1 t2 t3 t4 t5 t6 t7 t8 tF tO dC) {C : Addr} (CT : LyT K mg C) {S fS : Addr} (TS : ExT K mg "InvalidItem" "number" S fS) {fdS : FuncData} (bS : Binds K fdS ["self", "number"] []) (GS : FnOk P w K mg base CX0 1 fS fdS ["self", "number"] (spExI S "number")) {f1 : Addr} {fd1 : FuncData} (F_may_stand : Fun K "_may_stand" "_may_stand" s_may_stand f1 fd1) (b_may_stand : Binds K fd1 ["layout", "place"] []) (g_may_stand : mg "_may_stand" = some (.ref f1)) (G_may_stand : FnOk P w K mg base CX0 1 f1 fd1 ["layout", "place"] (spPl K C true)) {f2 : Addr} {fd2 : FuncData} (F_ends_badly : Fun K "_ends_badly" "_ends_badly" s_ends_badly f2 fd2) (b_ends_badly : Binds K fd2 ["layout", "place"] []) (g_ends_badly : mg "_ends_badly" = some (.ref f2)) (G_ends_badly : FnOk P w K mg base CX0 2 f2 fd2 ["layout", "place"] (spPl K C false)) : FnOk P w K mg base (L2.CX P w) 3 f fd ["layout", "opening", "barred"] (spPlaces K C) := by
  refine F.okX sc_check_places (fun vs H Q E h => ?_) (fun cdv A outer s H vs Q E hr h => ?_)
  · obtain ⟨y, dx, p, l, s, tw, n, o, ws, rfl, _⟩ := h
    rfl
  · obtain ⟨y, dx, p, l, s, tw, n, o, ws, rfl, hy, htw, ⟨ps, hps, hall⟩, q⟩ := h
    have hr2 : Room 2 _ := hr.mono (by decide)
    refine ⟨_, (pss_one (ps_for (passes_of rfl) rfl (pi_enumT (by rfl) T.m_enumerate (pa_cons (pe_fld (pv 0) rfl) pa_nil)) (pg_tup rfl (pgs_cons (pg_name (i := 3) sc_check_places.nd rfl (.inl rfl)) (pgs_cons (pg_name (i := 4) sc_check_places.nd rfl (.inl rfl)) pgs_nil))) 
          (pss_cons (ps_if (PW.pt (pw_and (pt_cmpR op_ge (pv 3) (pv 1) (nomark _)) (pw_and1 (pt_cmpR op_in_seq (pe_ix ix_tup (pv 4) pe_int (fun _ _ => rfl)) (pv 2) (by rfl))))) 
            (pss_one (ps_raise rfl (takes_of rfl rfl rfl rfl) (pmk_oex TS.o TS.i TS.t GS hr2 bS .nil pass0 rfl TS.g (pa_cons (pv 3) pa_nil)))) pss_nil) 
          (pss_one (ps_if (PW.pt (pw_or (pt_not (pt_val (pe_call G_may_stand (hr.mono (by decide)) (by rfl) g_may_stand F_may_stand.kp b_may_stand .nil pass0 (pa_cons (pv 0) (pa_cons (pv 3) pa_nil))))) (pw_or1 (pt_val (pe_call G_ends_badly hr (by rfl) g_ends_badly F_ends_badly.kp b_ends_badly .nil pass0 (pa_cons (pv 0) (pa_cons (pv 3) pa_nil))))))) 
            (pss_one (ps_raise rfl (takes_of rfl rfl rfl rfl) (pmk_oex TS.o TS.i TS.t GS hr2 bS .nil pass0 rfl TS.g (pa_cons (pv 3) pa_nil)))) pss_nil))))), ?_⟩
    refine ⟨_, rfl, y, C, dx, _, _, rfl, hy, CT.cl, CT.nP, layF_p p l s n, p, ps, rfl, hps, for_it walk_enumT (fun i σ H' => Same H H' ∧ ∃ y3 y4 : Option V, σ = [some (.ref y), some (iN o), some (.ref tw), y3, y4]) ⟨Same.refl H, _, _, rfl⟩ (fun i σ H' _ h => Same.seqT h.1 hps) ?_ ?_⟩
    · rintro i x σ H1 H1' hi ⟨s1, y3, y4, rfl⟩ ⟨t, u, v, rfl, ht, rfl, hu, hx⟩
      have eu : u = .int (i : Nat) := (Option.some.inj hu).symm
      subst eu
      obtain ⟨d, bs, t3, hp, hvd, hit, hok, hnb⟩ := hall i v hx
      have s2 : Same H (upd H1 t (.tup [.int (i : Nat), v])) := s1.trans (same_upd ht)
      obtain ⟨hw, r5, hde, hhd⟩ := hit.head
      have hvd2 := dp_same s2 _ _ hvd
      rw [hde] at hvd2
      obtain ⟨xa, xv, rfl, hxs, hx0⟩ := dp_head hvd2
      refine ⟨t, _, rfl, .inl (.inl upd_same), rfl, _, _, rfl, _, _, rfl, ?_⟩
      refine ⟨rfl, _, rfl, _, rfl, _, _, rfl, rfl, _, rfl, ?_⟩
      have hp2 := hp.same s2
      refine ite2 (fun h1 => ?_) (fun h1 => ?_)
      · have h1 : o ≤ i := by
          have : (i : Int) ≥ Int.ofNat o := of_decide_eq_true h1
          exact Int.ofNat_le.mp this
        have hno := hnb h1
        rw [hde, show headW (.tuple (.str hw :: r5)) = hw from rfl] at hno
        refine ⟨_, rfl, xa, xv, _, _, rfl, rfl, hxs, hx0, _, rfl, tw, _, rfl, .inr (Same.seqT s2 htw), rfl, flat_strs ws, _, rfl, iteB (c := false) (by show inV (.str hw) (ws.map V.str) = false; rw [inV_strs, decide_eq_false hno]) (iteF ?_)⟩
        refine ⟨_, rfl, _, rfl, y, dx, p, l, s, n, i, d, bs, t3, rfl, hp2, hit, hok, fun H2 s3 => ⟨_, rfl, iteF ⟨_, rfl, _, rfl, y, dx, p, l, s, n, i, d, bs, t3, rfl, hp2.same s3, hit, hok, fun H3 s4 => ⟨_, rfl, iteF ⟨(s2.trans s3).trans s4, _, _, rfl⟩⟩⟩⟩⟩
      · refine ⟨_, rfl, _, rfl, y, dx, p, l, s, n, i, d, bs, t3, rfl, hp2, hit, hok, fun H2 s3 => ⟨_, rfl, iteF ⟨_, rfl, _, rfl, y, dx, p, l, s, n, i, d, bs, t3, rfl, hp2.same s3, hit, hok, fun H3 s4 => ⟨_, rfl, iteF ⟨(s2.trans s3).trans s4, _, _, rfl⟩⟩⟩⟩⟩
    · rintro σ H1 ⟨s1, y3, y4, rfl⟩
      exact q H1 s1
end
end K04

namespace K04
open PySem PySem.Spec PyProof.Rows StX L2 TL GG OO LY
section
variable {P : Program} {w : World} {K : PySem.W.Frag} {mg : Str → Option Value} {base : Heap} {lt0 lt1 lt2 lt3 lt4 : Tok} {t0 t1 t2 t3 t4 t5 t6 t7 t8 tF tO dC : Addr}
def spCwo (K : PySem.W.Frag) : Sp := fun vs H Q _ => ∃ (x : V) (os : List PyData) (m : Int), vs = [x, .int m] ∧ Val K H x (.tuple os) ∧ (∀ d ∈ os, isWayItemP d = true) ∧ ∀ H', Same H H' → Q .non H'
theorem sc_check_way_out : FnScope ["way_out", "number", "at", "item"] ["way_out", "number"] (defScope s_check_way_out) := ⟨rfl, rfl, rfl, by decide +kernel, rfl, by decide +kernel, by decide +kernel⟩
theorem ok_check_way_out {f : Addr} {fd : FuncData} (F : Fun K "_check_way_out" "_check_way_out" s_check_way_out f fd) (T : Txt K mg lt0 lt1 lt2 lt3 lt4 t0 t1 t2 t3 t4 t5 t6 t7 t8 tF tO dC) {S fS : Addr} (TS : ExT K mg "InvalidItem" "number" S fS) {fdS : FuncData} (bS : Binds K fdS ["self", "number"] []) (GS : FnOk P w K mg base CX0 1 fS fdS ["self", "number"] (spExI S "number")) {f1 : Addr} {fd1 : FuncData} (F_is_way_item : Fun K "is_way_item" "is_way_item" s_is_way_item f1 fd1) (b_is_way_item : Binds K fd1 ["value"] []) (g_is_way_item : mg "is_way_item" = some (.ref f1)) (G_is_way_item : FnOk P w K mg base CX0 3 f1 fd1 ["value"] (spChk K isWayItemP)) : FnOk P w K mg base (L2.CX P w) 4 f fd ["way_out", "number"] (spCwo K) := by
  refine F.okX sc_check_way_out (fun vs H Q E h => ?_) (fun cdv A outer s H vs Q E hr h => ?_)
  · obtain ⟨x, os, m, rfl, _⟩ := h
    rfl
  · obtain ⟨x, os, m, rfl, hv, hall, q⟩ := h
    have hr2 : Room 2 _ := hr.mono (by decide)
    refine ⟨_, (pss_one (ps_for (passes_of rfl) rfl (pi_enumT (by rfl) T.m_enumerate (pa_cons (pv 0) pa_nil)) (pg_tup rfl (pgs_cons (pg_name (i := 2) sc_check_way_out.nd rfl (.inl rfl)) (pgs_cons (pg_name (i := 3) sc_check_way_out.nd rfl (.inl rfl)) pgs_nil))) 
          (pss_one (ps_if (pt_not (pt_val (pe_call G_is_way_item hr (by rfl) g_is_way_item F_is_way_item.kp b_is_way_item .nil pass0 (pa_cons (pv 3) pa_nil)))) 
            (pss_one (ps_raise rfl (takes_of rfl rfl rfl rfl) (pmk_oex TS.o TS.i TS.t GS hr2 bS .nil pass0 rfl TS.g (pa_cons (pe_op op_add (pv 1) (pv 2)) pa_nil)))) pss_nil)))), ?_⟩
    obtain ⟨b, xs, rfl, hs, ha, hl, h1000, hget⟩ := hv.tup
    refine ⟨_, rfl, b, xs, rfl, hs, for_it walk_enumT (fun i σ H' => Same H H' ∧ ∃ y3 y4 : Option V, σ = [some (.ref b), some (.int m), y3, y4]) ⟨Same.refl H, _, _, rfl⟩ (fun i σ H' _ h => Same.seqT h.1 hs) ?_ ?_⟩
    · rintro i x σ H1 H1' hi ⟨s1, y3, y4, rfl⟩ ⟨t, u, v, rfl, ht, rfl, hu, hx⟩
      have eu : u = .int (i : Nat) := (Option.some.inj hu).symm
      subst eu
      have hid : i < os.length := by omega
      have hdi : os[i]? = some os[i] := List.getElem?_eq_getElem hid
      obtain ⟨v', hxv, hvd⟩ := hget i _ hdi
      have e : v = v' := Option.some.inj (hx.symm.trans hxv)
      subst e
      have s2 : Same H (upd H1 t (.tup [.int (i : Nat), v])) := s1.trans (same_upd ht)
      have hw := hall _ (List.mem_of_getElem? hdi)
      refine ⟨t, _, rfl, .inl (.inl upd_same), rfl, _, _, rfl, _, _, rfl, ?_⟩
      refine ⟨rfl, _, rfl, v, os[i], rfl, hvd.same s2, fun H3 s3 => ?_⟩
      rw [hw]
      exact ⟨_, rfl, iteF ⟨s2.trans s3, _, _, rfl⟩⟩
    · rintro σ H1 ⟨s1, y3, y4, rfl⟩
      exact q H1 s1
def itOk (d : PyData) : Prop := (isHeadP d = true ∧ ∀ z ∈ way d, isWayItemP z = true) ∨ (isHeadP d = false ∧ isItemP d = true ∧ way d = [])
def spItems (K : PySem.W.Frag) : Sp := fun vs H Q _ => ∃ (x : V) (ds : List PyData), vs = [x] ∧ Val K H x (.tuple ds) ∧ (∀ d ∈ ds, itOk d) ∧ 1 ≤ (spread ds).length ∧ (spread ds).length ≤ 14 ∧ ∀ H', Same H H' → Q .non H'
theorem sc_check_items : FnScope ["parts", "number", "part"] ["parts"] (defScope s_check_items) := ⟨rfl, rfl, rfl, by decide +kernel, rfl, by decide +kernel, by decide +kernel⟩
theorem ok_check_items {f : Addr} {fd : FuncData} (F : Fun K "check_items" "check_items" s_check_items f fd) (T : Txt K mg lt0 lt1 lt2 lt3 lt4 t0 t1 t2 t3 t4 t5 t6 t7 t8 tF tO dC) {S fS : Addr} (TS : ExT K mg "InvalidItem" "number" S fS) {fdS : FuncData} (bS : Binds K fdS ["self", "number"] []) (GS : FnOk P w K mg base CX0 1 fS fdS ["self", "number"] (spExI S "number")) {f1 : Addr} {fd1 : FuncData} (F_check_way_out : Fun K "_check_way_out" "_check_way_out" s_check_way_out f1 fd1) (b_check_way_out : Binds K fd1 ["way_out", "number"] []) (g_check_way_out : mg "_check_way_out" = some (.ref f1)) (G_check_way_out : FnOk P w K mg base (L2.CX P w) 4 f1 fd1 ["way_out", "number"] (spCwo K)) {f2 : Addr} {fd2 : FuncData} (F_is_ask_head : Fun K "is_ask_head" "is_ask_head" s_is_ask_head f2 fd2) (b_is_ask_head : Binds K fd2 ["value"] []) (g_is_ask_head : mg "is_ask_head" = some (.ref f2)) (G_is_ask_head : FnOk P w K mg base CX0 2 f2 fd2 ["value"] (spChk K isHeadP)) {f3 : Addr} {fd3 : FuncData} (F_is_item : Fun K "is_item" "is_item" s_is_item f3 fd3) (b_is_item : Binds K fd3 ["value"] []) (g_is_item : mg "is_item" = some (.ref f3)) (G_is_item : FnOk P w K mg base CX0 6 f3 fd3 ["value"] (spChk K isItemP)) : FnOk P w K mg base (L2.CX P w) 7 f fd ["parts"] (spItems K) := by
  refine F.okX sc_check_items (fun vs H Q E h => ?_) (fun cdv A outer s H vs Q E hr h => ?_)
  · obtain ⟨x, ds, rfl, _⟩ := h
    rfl
  · obtain ⟨x, ds, rfl, hv, hall, hl1, hl14, q⟩ := h
    have hr2 : Room 2 _ := hr.mono (by decide)
    refine ⟨_, (pss_cons (ps_set (i := 1) sc_check_items.nd rfl (.inl rfl) pe_int) 
        (pss_cons (ps_for (passes_of rfl) rfl (pi_tup (pv 0)) (pg_name (i := 2) sc_check_items.nd rfl (.inl rfl)) 
          (pss_cons (ps_if (pt_val (pe_call G_is_ask_head (hr.mono (by decide)) (by rfl) g_is_ask_head F_is_ask_head.kp b_is_ask_head .nil pass0 (pa_cons (pv 2) pa_nil))) 
            (pss_cons (ps_expr (pe_call G_check_way_out (hr.mono (by decide)) (by rfl) g_check_way_out F_check_way_out.kp b_check_way_out .nil (passX (takes_of rfl rfl rfl rfl)) (pa_cons (pe_ix ix_tup (pv 2) pe_int (fun _ _ => rfl)) (pa_cons (pe_op op_add (pv 1) pe_int) pa_nil)))) 
            (pss_one (ps_set (i := 1) sc_check_items.nd rfl (.inl rfl) (pe_op op_add (pv 1) (pe_callB call_len_seq (by rfl) T.m_len PySem.boot_len (pa_cons (pe_ix ix_tup (pv 2) pe_int (fun _ _ => rfl)) pa_nil)))))) 
            (pss_one (ps_if (pt_not (pt_val (pe_call G_is_item hr (by rfl) g_is_item F_is_item.kp b_is_item .nil pass0 (pa_cons (pv 2) pa_nil)))) 
              (pss_one (ps_raise rfl (takes_of rfl rfl rfl rfl) (pmk_oex TS.o TS.i TS.t GS hr2 bS .nil pass0 rfl TS.g (pa_cons (pv 1) pa_nil)))) pss_nil))) 
          (pss_one (ps_set (i := 1) sc_check_items.nd rfl (.inl rfl) (pe_op op_add (pv 1) pe_int))))) 
        (pss_one (ps_if (pt_not (pt_chain op_le op_le pe_int (pv 1) (pe_glob (v := .int 14) rfl T.c_MOST_ITEMS ⟨_, rfl⟩))) 
          (pss_one (ps_raise rfl (takes_of rfl rfl rfl rfl) (pmk_oex TS.o TS.i TS.t GS hr2 bS .nil pass0 rfl TS.g (pa_cons pe_non pa_nil)))) pss_nil)))), ?_⟩
    obtain ⟨b, xs, rfl, hs, ha, hl, h1000, hget⟩ := hv.tup
    refine ⟨_, rfl, b, rfl, ⟨_, hs⟩, for_it (walk_tup (xs := xs)) (fun i σ H' => Same H H' ∧ ∃ y2 : Option V, σ = [some (.ref b), some (iN (spread (ds.take i)).length), y2]) ⟨Same.refl H, _, rfl⟩ (fun i σ H' _ h => Same.seqT h.1 hs) ?_ ?_⟩
    · rintro i x σ _ H1 hi ⟨s1, y2, rfl⟩ ⟨rfl, hx⟩
      have hid : i < ds.length := by omega
      have hdi : ds[i]? = some ds[i] := List.getElem?_eq_getElem hid
      obtain ⟨v', hxv, hvd⟩ := hget i _ hdi
      have e : x = v' := Option.some.inj (hx.symm.trans hxv)
      subst e
      have hok := hall _ (List.mem_of_getElem? hdi)
      have htake : (spread (ds.take (i + 1))).length = (spread (ds.take i)).length + (way ds[i]).length + 1 := by
        rw [List.take_add_one, hdi]
        show (spread (ds.take i ++ [ds[i]])).length = _
        rw [spread_snoc, List.length_append, List.length_cons]
        omega
      rw [htake]
      generalize (spread (ds.take i)).length = m
      generalize ds[i] = d at hvd hok ⊢
      refine ⟨_, rfl, x, d, rfl, hvd.same s1, fun H2 s2 => ?_⟩
      rcases hok with ⟨hh, hw⟩ | ⟨hh, hi2, hw⟩
      · rw [hh]
        obtain ⟨w1, m1, os, rfl, _, _⟩ := ask_split hh
        have hw : ∀ z ∈ os, isWayItemP z = true := hw
        obtain ⟨a, zs, rfl, hzs, _, _, _, hg⟩ := (hvd.same (s1.trans s2)).tup
        obtain ⟨v2, hz2, hv2⟩ := hg 2 _ rfl
        obtain ⟨b3, ys3, eb3, hs3, _, hl3, _, _⟩ := hv2.tup
        refine ⟨_, rfl, iteT ?_⟩
        refine ⟨_, rfl, a, zs, _, v2, rfl, rfl, hzs, atI_nat (j := 2) hz2, _, rfl, _, _, rfl, rfl, v2, os, _, rfl, hv2, hw, fun H3 s3 => ?_⟩
        subst eb3
        refine ⟨_, rfl, _, rfl, a, zs, _, _, rfl, rfl, Same.seqT s3 hzs, atI_nat (j := 2) hz2, b3, ys3, rfl, .inr (Same.seqT s3 hs3), _, _, rfl, rfl, _, rfl, _, _, rfl, rfl, (s1.trans s2).trans s3, some (.ref a), ?_⟩
        rw [hl3]
        rfl
      · rw [hh]
        refine ⟨_, rfl, iteF ⟨_, rfl, x, d, rfl, hvd.same (s1.trans s2), fun H3 s3 => ?_⟩⟩
        rw [hi2]
        refine ⟨_, rfl, iteF ⟨_, rfl, _, _, rfl, rfl, (s1.trans s2).trans s3, some x, ?_⟩⟩
        rw [hw]
        rfl
    · rintro σ H1 ⟨s1, y2, rfl⟩
      rw [List.take_of_length_le (by omega)]
      refine ⟨_, rfl, _, _, rfl, rfl, _, rfl, iteB (c := true) (decide_eq_true (by show (1 : Int) ≤ ((spread ds).length : Nat); omega)) (iteT ⟨_, _, rfl, rfl, _, rfl, iteB (c := false) ?_ (iteF (q H1 s1))⟩)⟩
      show (!decide (((spread ds).length : Nat) ≤ (14 : Int))) = false
      rw [decide_eq_true (by omega)]
      rfl
end
end K04

namespace K04
open PySem PySem.Spec PyProof.Rows StX L2 TL GG OO LY
def opens : List (List Str) := [["look", "hold"], ["look", "try"], ["lock", "look", "hold", "unlock"], ["lock", "look", "try", "unlock"], ["lock", "look", "unlock", "hold"], ["lock", "look", "unlock", "try"]]
def strsD (ws : List Str) : PyData := .tuple (ws.map PyData.str)
theorem opens_in : (opens.all fun op => (List.range op.length).all fun i => ((opens.map strsD).any fun z => PyData.eqv z (strsD (op.take (i + 1)))) == decide (i + 1 = op.length)) = true := by decide +kernel
theorem opens_any : (opens.all fun op => (List.range op.length).all fun i => ((opens.map fun o => PyData.eqv (strsD (op.take (i + 1))) (strsD (o.take (i + 1))))).any id) = true := by decide +kernel
theorem opens_len : (opens.all fun op => decide (1 ≤ op.length ∧ op.length ≤ 4)) = true := by decide +kernel
theorem opens_sh : (opens.all fun op => (List.range 5).all fun i => SeqAt.shaped (strsD (op.take i))) = true := by decide +kernel
theorem opens_sh2 : SeqAt.shaped (.tuple (opens.map strsD)) = true := by decide +kernel
theorem cutG_take (ds : List PyData) (m : Nat) : cutG ds none (some (m : Int)) = ds.take m := by
  unfold cutG
  rw [HT.sIx_none, HT.sIx_nat, List.drop_zero, Nat.sub_zero]
  by_cases h : m ≤ ds.length
  · rw [Nat.min_eq_left h]
  · rw [Nat.min_eq_right (by omega), List.take_of_length_le (Nat.le_refl _), List.take_of_length_le (by omega)]
section
variable {P : Program} {w : World} {K : PySem.W.Frag} {mg : Str → Option Value} {base : Heap} {lt0 lt1 lt2 lt3 lt4 : Tok} {t0 t1 t2 t3 t4 t5 t6 t7 t8 tF tO dC : Addr}
theorem slD0 {H : Hp} {v : V} {ds : List PyData} {m : Nat} {Q : VK} (hv : Dp K H v (.tuple ds)) (hq : ∀ x H', Same H H' → Dp K H' x (.tuple (ds.take m)) → Q x H') : rSlA K v none (some (m : Int)) H Q := by
  cases hv with
  | @tup a xs _ hs ha =>
    have l1 := dpAll_len ha
    refine ⟨a, xs, rfl, hs, fun e => ?_, fun _ t ht => ?_⟩
    · have e2 : cutG ds none (some (m : Int)) = ds := by
        unfold cutG
        rw [← l1, e.1, e.2, l1]
        show (ds.drop 0).take (ds.length - 0) = ds
        rw [List.drop_zero, Nat.sub_zero, List.take_length]
      have := hq (.ref a) H (Same.refl H)
      rw [← cutG_take, e2] at this
      exact this (.tup hs ha)
    · refine hq _ _ (same_upd ht) ?_
      rw [← cutG_take]
      exact .tup (.inl (.inl upd_same)) (dpAll_same (same_upd ht) _ _ (dpAll_cut ha none (some (m : Int))))
theorem slN2 {a b c d : Option V} {i : Nat} {H : Hp} {v : V} {ds : List PyData} {Q : VK} (hv : Dp K H v (.tuple ds)) (hq : ∀ x H', Same H H' → Dp K H' x (.tuple (ds.take (1 + i))) → Q x H') : tNoPart [a, b, some (.int (1 + (i : Int))), c, d] H (fun l H2 => tPart (tVar 2) [a, b, some (.int (1 + (i : Int))), c, d] H2 fun u H3 => rSlA K v l u H3 Q) := ⟨_, rfl, _, rfl, slD0 (m := 1 + i) hv hq⟩
theorem slN1 {σ : L2.St} {H : Hp} {v : V} {ds : List PyData} {Q : VK} (hv : Dp K H v (.tuple ds)) (hq : ∀ x H', Same H H' → Dp K H' x (.tuple (ds.take 4)) → Q x H') : tNoPart σ H (fun l H2 => tPart (tC (.int 4)) σ H2 fun u H3 => rSlA K v l u H3 Q) := ⟨4, rfl, slD0 (m := 4) hv hq⟩
theorem room65x {k : Nat} {A : Around} (r : Room k A) : A.units + 65 < cLine := by
  have := r.un
  omega
def spOpen (K : PySem.W.Frag) (tO : Addr) : Sp := fun vs H Q _ => ∃ (x : V) (ds : List PyData) (op : List Str), vs = [x] ∧ Dp K H x (.tuple ds) ∧ (∀ d ∈ ds, ItemD d) ∧ op ∈ opens ∧ (ds.map headW).take op.length = op ∧ (∀ H, Dp K H (.ref tO) (.tuple (opens.map strsD))) ∧ ∀ H', Same H H' → Q (iN op.length) H'
theorem sc_opening_of : FnScope ["parts", "words", "many", "part", "opening"] ["parts"] (defScope s_opening_of) := ⟨rfl, rfl, rfl, by decide +kernel, rfl, by decide +kernel, by decide +kernel⟩
theorem ok_opening_of {f : Addr} {fd : FuncData} (F : Fun K "opening_of" "opening_of" s_opening_of f fd) (T : Txt K mg lt0 lt1 lt2 lt3 lt4 t0 t1 t2 t3 t4 t5 t6 t7 t8 tF tO dC) {S fS : Addr} (TS : ExT K mg "InvalidItem" "number" S fS) {fdS : FuncData} (bS : Binds K fdS ["self", "number"] []) (GS : FnOk P w K mg base CX0 1 fS fdS ["self", "number"] (spExI S "number")) : FnOk P w K mg base (L2.CX P w) 3 f fd ["parts"] (spOpen K tO) := by
  refine F.okX sc_opening_of (fun vs H Q E h => ?_) (fun cdv A outer s H vs Q E hr h => ?_)
  · obtain ⟨x, ds, op, rfl, _⟩ := h
    rfl
  · obtain ⟨x, ds, op, rfl, hd, hit, hop, hpre, hO, q⟩ := h
    have hr2 : Room 2 _ := hr
    refine ⟨_, (pss_cons (ps_set (i := 1) sc_opening_of.nd rfl (.inr rfl) (pe_callTy call_tuple_of (by rfl) T.m_tuple (by decide +kernel) (pa_cons (pe_lc (own := [("part", 3)]) (g := gName 3) rfl sc_opening_of.nd (pi_tup (pe_slice sl_tupA (pv 0) po_none (po_some (pe_glob (v := .int 4) rfl T.c_LONGEST_OPENING ⟨_, rfl⟩)))) (blkOk_by (N := ["parts", "words", "many", "part", "opening"]) (sc := defScope s_opening_of) (by decide +kernel)) (fun _ _ _ _ _ => pg_name (i := 3) sc_opening_of.nd rfl (.inl rfl)) (fun _ _ _ _ _ => pts_nil) (fun _ _ _ _ _ => (pe_ix (r := rIxT K) ix_tup (pv 3) pe_int (fun _ _ => rfl)))) pa_nil))) 
        (pss_cons (ps_for (passes_of rfl) rfl (pi_range2 rfl T.m_range (pa_cons pe_int (pa_cons (pe_op op_add (pe_callB call_len_seq (by rfl) T.m_len PySem.boot_len (pa_cons (pv 1) pa_nil)) pe_int) pa_nil))) (pg_name (i := 2) sc_opening_of.nd rfl (.inr rfl)) 
          (pss_cons (ps_if (pt_cmpR (op_inT (room65x hr)) (pe_slice sl_tupA (pv 1) po_none (po_some (pv 2))) (pe_glob (v := .ref tO) rfl T.c_OPENINGS rfl) (by rfl)) 
            (pss_one (ps_ret (pv 2))) pss_nil) 
          (pss_one (ps_if (pt_not (pt_val (pe_callB (cr_any rfl) (by rfl) T.m_any (by decide +kernel) (pa_cons (pe_lc (own := [("opening", 4)]) (g := gName 4) rfl sc_opening_of.nd (pi_tup (pe_glob (v := .ref tO) rfl T.c_OPENINGS rfl)) (blkOk_by (N := ["parts", "words", "many", "part", "opening"]) (sc := defScope s_opening_of) (by decide +kernel)) (fun _ _ _ _ _ => pg_name (i := 4) sc_opening_of.nd rfl (.inl rfl)) (fun _ _ _ _ _ => pts_nil) (fun _ _ _ _ _ => (pe_cmpR (r := rEqD K) (op_eqD hr.units) (pe_slice (r := rSlA K) sl_tupA (pv 1) po_none (po_some (pv 2))) (pe_slice (r := rSlA K) sl_tupA (pv 4) po_none (po_some (pv 2))) (nomark _)))) pa_nil)))) 
            (pss_one (ps_raise rfl (takes_of rfl rfl rfl rfl) (pmk_oex TS.o TS.i TS.t GS hr2 bS .nil pass0 rfl TS.g (pa_cons (pe_op op_sub (pv 2) pe_int) pa_nil)))) pss_nil)))) 
        (pss_one (ps_raise rfl (takes_of rfl rfl rfl rfl) (pmk_oex TS.o TS.i TS.t GS hr2 bS .nil pass0 rfl TS.g (pa_cons pe_non pa_nil)))))), ?_⟩
    refine ⟨_, rfl, slN1 hd fun z H1 s1 hz => ?_⟩
    obtain ⟨a, zs, rfl, hzs, hza⟩ : ∃ (a : Addr) (zs : List V), z = .ref a ∧ SqT K H1 a zs ∧ DpAll K H1 zs (ds.take 4) := by
      cases hz with
      | tup h1 h2 => exact ⟨_, _, rfl, h1, h2⟩
    have hzl := dpAll_len hza
    refine ⟨a, rfl, ⟨_, hzs⟩, fun D hD => ?_⟩
    refine lc_tup (xs := zs) (fun j H' => Same H1 H' ∧ H' D = some (.lst ((((ds.take 4).take j).map headW).map V.str))) ⟨same_upd hD, upd_same⟩ (fun j H' _ h => Same.seqT h.1 hzs) ?_ ?_
    · rintro j y H2 hy ⟨s2, hD2⟩
      have hj : j < (ds.take 4).length := by
        have := (List.getElem?_eq_some_iff.mp hy).1
        omega
      have hdj : (ds.take 4)[j]? = some (ds.take 4)[j] := List.getElem?_eq_getElem hj
      obtain ⟨hw, r5, hde, hhd⟩ := (hit _ (List.mem_of_mem_take (List.mem_of_getElem? hdj))).head
      have hdx := dp_same s2 _ _ (dpAll_at hza hy hdj)
      rw [hde] at hdx
      obtain ⟨xa, xv, rfl, hxs, hx0⟩ := dp_head hdx
      refine ⟨rfl, yes_then ⟨_, rfl, xa, xv, _, _, rfl, rfl, hxs, hx0, _, hD2, ?_, same_st s2 hD, ?_⟩⟩
      · rw [List.length_map, List.length_map, List.length_take, List.length_take]
        exact small1000 (by omega)
      · have e : ∀ (A : List PyData) (h : j < A.length), A.take (j + 1) = A.take j ++ [A[j]] := fun A h => by rw [List.take_add_one, List.getElem?_eq_getElem h]; rfl
        rw [upd_same, e _ hj, List.map_append, List.map_append, hde]
        rfl
    · rintro H2 ⟨s2, hD2⟩
      rw [List.take_of_length_le (by omega)] at hD2
      refine ⟨D, _, rfl, .inl ⟨.inl (.inl hD2), fun t ht => ?_⟩⟩
      have s3 : Same H2 (upd H2 t (.tup (((ds.take 4).map headW).map V.str))) := same_upd ht
      have hW : Dp K (upd H2 t (.tup (((ds.take 4).map headW).map V.str))) (.ref t) (strsD ((ds.take 4).map headW)) := .tup (.inl (.inl upd_same)) (dp_strs _)
      have hWs : SqT K (upd H2 t (.tup (((ds.take 4).map headW).map V.str))) t (((ds.take 4).map headW).map V.str) := .inl (.inl upd_same)
      have S3 := s1.trans (s2.trans s3)
      have hop1 := of_decide_eq_true (List.all_eq_true.mp opens_len op hop)
      have hWop : ∀ i, i < op.length → ((ds.take 4).map headW).take (1 + i) = op.take (i + 1) := fun i hi => by
        rw [Nat.add_comm 1 i]
        have e := congrArg (List.take (i + 1)) hpre
        rw [List.take_take, Nat.min_eq_left (by omega)] at e
        rw [List.map_take, List.take_take, Nat.min_eq_left (by omega)]
        exact e
      have hWl : op.length ≤ ((ds.take 4).map headW).length := by
        have e := congrArg List.length hpre
        rw [List.length_take, List.length_map] at e
        rw [List.length_map, List.length_take]
        omega
      have hWl4 : ((ds.take 4).map headW).length ≤ 4 := by
        rw [List.length_map, List.length_take]
        omega
      show tSeq _ _ _ _ (upd H2 t (.tup (((ds.take 4).map headW).map V.str)))
      generalize upd H2 t (.tup (((ds.take 4).map headW).map V.str)) = H3 at s3 S3 hW hWs ⊢
      generalize (ds.take 4).map headW = W at hW hWs hWop hWl hWl4 ⊢
      refine ⟨_, rfl, t, _, rfl, .inr hWs, _, _, rfl, rfl, 1, _, rfl, ⟨by omega, by omega, ?_, ?_⟩, ?_⟩
      · rw [List.length_map]
        omega
      · rw [List.length_map]
        omega
      · have en : (((W.map V.str).length : Int) + 1 - 1).toNat = W.length := by
          rw [List.length_map]
          omega
        refine for_it walk_range (fun i σ H' => Same H3 H' ∧ i < op.length ∧ ∃ y2 y3 y4 : Option V, σ = [some x, some (.ref t), y2, y3, y4]) ⟨Same.refl H3, by omega, _, _, _, rfl⟩ (fun _ _ _ _ _ => trivial) ?_ ?_
        · rintro i y σ H4 _ hi0 ⟨s4, hik, y2, y3, y4, rfl⟩ ⟨rfl, rfl⟩
          have hin0 := List.all_eq_true.mp (List.all_eq_true.mp opens_in op hop) i (List.mem_range.mpr hik)
          have hin : ((opens.map strsD).any fun z => PyData.eqv z (strsD (op.take (i + 1)))) = decide (i + 1 = op.length) := beq_iff_eq.mp hin0
          have hany := List.all_eq_true.mp (List.all_eq_true.mp opens_any op hop) i (List.mem_range.mpr hik)
          have hsh : SeqAt.shaped (strsD (op.take (i + 1))) = true := List.all_eq_true.mp (List.all_eq_true.mp opens_sh op hop) (i + 1) (List.mem_range.mpr (by omega))
          have cut : ∀ (H' : Hp) (z : V), Dp K H' z (.tuple ((W.map PyData.str).take (1 + i))) → Dp K H' z (strsD (op.take (i + 1))) := fun H' z h => by
            rw [← List.map_take, hWop i hik] at h
            exact h
          refine ⟨_, rfl, slN2 (dp_same s4 _ _ hW) fun z5 H5 s5 hz5 => ?_⟩
          refine ⟨strsD (op.take (i + 1)), opens.map strsD, cut _ _ hz5, hO H5, hsh, opens_sh2, ?_⟩
          rw [hin]
          refine ⟨_, rfl, ite2 (fun h => ?_) (fun h => ?_)⟩
          · have h : i + 1 = op.length := of_decide_eq_true h
            have hq := q H5 (S3.trans (s4.trans s5))
            rw [← h] at hq
            refine ⟨_, rfl, ?_⟩
            have e : (1 + (i : Int)) = Int.ofNat (i + 1) := by
              show 1 + (i : Int) = ((i + 1 : Nat) : Int)
              omega
            have hq2 : Q (.int (1 + (i : Int))) H5 := by
              rw [e]
              exact hq
            exact hq2
          · have h : ¬ i + 1 = op.length := fun z => h (decide_eq_true z)
            obtain ⟨os, hos, hoa⟩ : ∃ os : List V, SqT K H5 tO os ∧ DpAll K H5 os (opens.map strsD) := by
              have := hO H5
              cases this with
              | tup h1 h2 => exact ⟨_, h1, h2⟩
            have hol := dpAll_len hoa
            rw [List.length_map] at hol
            refine ⟨tO, rfl, ⟨_, hos⟩, fun D5 hD5 => ?_⟩
            refine lc_tup (xs := os) (fun j H' => Same H5 H' ∧ H' D5 = some (.lst (((opens.take j).map fun o => PyData.eqv (strsD (op.take (i + 1))) (strsD (o.take (i + 1)))).map V.bl))) ⟨same_upd hD5, upd_same⟩ (fun j H' _ h => Same.seqT h.1 hos) ?_ ?_
            · rintro j y H6 hy ⟨s6, hD6⟩
              have hj : j < opens.length := by
                have := (List.getElem?_eq_some_iff.mp hy).1
                omega
              have hoj : opens[j]? = some opens[j] := List.getElem?_eq_getElem hj
              have hdy := dp_same s6 _ _ (dpAll_at hoa hy (d := strsD opens[j]) (by rw [List.getElem?_map, hoj]; rfl))
              have hsh2 : SeqAt.shaped (strsD (opens[j].take (i + 1))) = true := List.all_eq_true.mp (List.all_eq_true.mp opens_sh _ (List.mem_of_getElem? hoj)) (i + 1) (List.mem_range.mpr (by omega))
              have cut2 : ∀ (H' : Hp) (z : V), Dp K H' z (.tuple ((opens[j].map PyData.str).take (1 + i))) → Dp K H' z (strsD (opens[j].take (i + 1))) := fun H' z h => by
                rw [← List.map_take, Nat.add_comm] at h
                exact h
              refine ⟨rfl, yes_then ⟨_, rfl, slN2 (dp_same (s5.trans s6) _ _ (dp_same s4 _ _ hW)) fun z7 H7 s7 hz7 => ⟨_, rfl, slN2 (dp_same s7 _ _ hdy) fun z8 H8 s8 hz8 => ⟨_, _, dp_same s8 _ _ (cut _ _ hz7), cut2 _ _ hz8, hsh, hsh2, _, (s7.trans s8) _ _ hD6, ?_, same_st (s6.trans (s7.trans s8)) hD5, ?_⟩⟩⟩⟩
              · rw [List.length_map, List.length_map, List.length_take]
                have : opens.length = 6 := rfl
                exact small1000 (by omega)
              · have e : ∀ (A : List (List Str)) (h : j < A.length), A.take (j + 1) = A.take j ++ [A[j]] := fun A h => by rw [List.take_add_one, List.getElem?_eq_getElem h]; rfl
                rw [upd_same, e _ hj, List.map_append, List.map_append]
                rfl
            · rintro H6 ⟨s6, hD6⟩
              have e : opens.take os.length = opens := List.take_of_length_le (by omega)
              rw [e] at hD6
              exact ⟨D5, _, rfl, .inl (.inl hD6), _, rfl, iteB (c := false) (show (!((opens.map fun o => PyData.eqv (strsD (op.take (i + 1))) (strsD (o.take (i + 1)))).any id)) = false by rw [hany]; rfl) (iteF ⟨s4.trans (s5.trans s6), by omega, _, _, _, rfl⟩)⟩
        · rintro σ H4 ⟨s4, hik, _⟩
          rw [en] at hik
          omega
end
end K04

namespace K04
open PySem PySem.Spec PyProof.Rows StX L2 TL GG OO LY
abbrev sHR_init : Stmt := inClass s_HandRow 0
abbrev sWR_init : Stmt := inClass s_WorkRow 0
abbrev sHR_of : Stmt := inClass s_HandRow 1
abbrev sWR_of : Stmt := inClass s_WorkRow 1
theorem keep_same {x : Addr} {H H' : Hp} (k : Keep x H H') {H0 : Hp} (s : Same H0 H) (n : H0 x = none) : Same H0 H' := fun b o e => k b (ne_of_none e n) o (s b o e)
def rowOf : PyData → Option (List PyData)
  | .tuple ds => some ds
  | .list ds => some ds
  | _ => none
section
variable {K : PySem.W.Frag}
theorem any_tl {K : PySem.W.Frag} (d : PyData) : PySem.W.kitAny K (.type (tyName d)) [.type "tuple", .type "list"] = some (rowOf d).isSome := by
  have f : ∀ {a b : String} {r : Bool}, kitB a b = some r → PySem.W.kitOne K (.type a) (.type b) = some r := fun h => kit_ty h
  cases d
  · exact kitAny_cons (b := false) (f (a := "NoneType") (b := "tuple") (by decide +kernel)) (fun _ => kitAny_cons (b := false) (f (a := "NoneType") (b := "list") (by decide +kernel)) (fun _ => rfl) (fun z => nomatch z)) (fun z => nomatch z)
  · exact kitAny_cons (b := false) (f (a := "bool") (b := "tuple") (by decide +kernel)) (fun _ => kitAny_cons (b := false) (f (a := "bool") (b := "list") (by decide +kernel)) (fun _ => rfl) (fun z => nomatch z)) (fun z => nomatch z)
  · exact kitAny_cons (b := false) (f (a := "int") (b := "tuple") (by decide +kernel)) (fun _ => kitAny_cons (b := false) (f (a := "int") (b := "list") (by decide +kernel)) (fun _ => rfl) (fun z => nomatch z)) (fun z => nomatch z)
  · exact kitAny_cons (b := false) (f (a := "str") (b := "tuple") (by decide +kernel)) (fun _ => kitAny_cons (b := false) (f (a := "str") (b := "list") (by decide +kernel)) (fun _ => rfl) (fun z => nomatch z)) (fun z => nomatch z)
  · exact kitAny_cons (b := false) (f (a := "list") (b := "tuple") (by decide +kernel)) (fun _ => kitAny_cons (b := true) (f (a := "list") (b := "list") (by decide +kernel)) (fun z => nomatch z) (fun _ => rfl)) (fun z => nomatch z)
  · exact kitAny_cons (b := true) (f (a := "tuple") (b := "tuple") (by decide +kernel)) (fun z => nomatch z) (fun _ => rfl)
  · exact kitAny_cons (b := false) (f (a := "dict") (b := "tuple") (by decide +kernel)) (fun _ => kitAny_cons (b := false) (f (a := "dict") (b := "list") (by decide +kernel)) (fun _ => rfl) (fun z => nomatch z)) (fun z => nomatch z)
/-- the items of a tuple or list -/
theorem val_items {H : Hp} {x : V} {d : PyData} {ds : List PyData} (h : Val K H x d) (e : rowOf d = some ds) : ∃ (a : Addr) (xs : List V), x = .ref a ∧ (SqT K H a xs ∨ SqL K H a xs) ∧ DpAll K H xs ds ∧ Good 60 (.tuple ds) := by
  rcases h with ⟨h, g⟩ | ⟨rfl, _⟩
  · cases h with
    | lst hs ha =>
      cases e
      exact ⟨_, _, rfl, .inr hs, ha, g⟩
    | tup hs ha =>
      cases e
      exact ⟨_, _, rfl, .inl hs, ha, g⟩
    | _ => cases e
  · cases e
end
/-- what is stored in a row: its opening, if it has one, its layout, its tuple -/
def opF : Option Nat → List (Str × V)
  | some o => putF "_opening" (iN o) []
  | none => []
def rowFl (ho : Option Nat) (y p : Addr) : List (Str × V) := putF "_parts" (.ref p) (putF "layout" (.ref y) (opF ho))
theorem n_yp : ¬ (("layout" : Str) = "_parts") := by decide +kernel
theorem n_oy : ¬ (("_opening" : Str) = "layout") := by decide +kernel
theorem rowFl_p (ho : Option Nat) (y p : Addr) : (rowFl ho y p).lookup ("_parts" : Str) = some (.ref p) := by unfold rowFl; rw [lookup_putF, if_pos rfl]
theorem rowFl_y (ho : Option Nat) (y p : Addr) : (rowFl ho y p).lookup ("layout" : Str) = some (.ref y) := by unfold rowFl; rw [lookup_putF, if_neg n_yp, lookup_putF, if_pos rfl]
theorem opF_len (ho : Option Nat) : (opF ho).length ≤ 1 := by cases ho <;> simp [opF, putF]
/-- a row that keeps the rules -/
structure RowK (o : Nat) (ws : List Str) (ds : List PyData) : Prop where
  items : ∀ d ∈ ds, itOk d
  ins : ∀ d ∈ ds, ItemD d
  sins : ∀ d ∈ spread ds, ItemD d
  l1 : 1 ≤ (spread ds).length
  l14 : (spread ds).length ≤ 14
  ok : ∀ (i : Nat) (d : PyData) (bs : List Nat) (t : St3), (spread ds)[i]? = some d → (leads (spread ds).length 0 ds)[i]? = some bs → (stds ds)[i]? = some t → okAt (spread ds).length d bs t
  nb : ∀ (i : Nat) (d : PyData), (spread ds)[i]? = some d → o ≤ i → headW d ∉ ws
def OpenK (o : Nat) (ds : List PyData) : Prop := ∃ op : List Str, op ∈ opens ∧ op.length = o ∧ (ds.map headW).take op.length = op
theorem stds_len (ds : List PyData) : (stds ds).length = (spread ds).length := by
  unfold stds
  rw [List.length_take, runs_len, List.length_replicate]
  omega
section
variable {P : Program} {w : World} {K : PySem.W.Frag} {mg : Str → Option Value} {base : Heap} {lt0 lt1 lt2 lt3 lt4 : Tok} {t0 t1 t2 t3 t4 t5 t6 t7 t8 tF tO dC : Addr}
theorem lay_pl {C : Addr} {H : Hp} {y dx p l s : Addr} {zs : List V} {ds : List PyData} {i : Nat} {d : PyData} {bs : List Nat} {t : St3} (h1 : H y = some (.ins C dx (layF p l s (spread ds).length))) (h2 : Dp K H (.ref p) (.tuple (spread ds))) (h3 : Dp K H (.ref l) (.tuple ((leads (spread ds).length 0 ds).map ldD))) (h4 : H s = some (.tup zs)) (h5 : StAll K H zs (stds ds))
    (hd : (spread ds)[i]? = some d) (hb : (leads (spread ds).length 0 ds)[i]? = some bs) (ht : (stds ds)[i]? = some t) : PlAt K C H y dx p l s (spread ds).length i d bs t := by
  refine ⟨h1, ?_, ?_, ?_⟩
  · cases h2 with
    | tup a b =>
      have hl := dpAll_len b
      have hi := (List.getElem?_eq_some_iff.mp hd).1
      rename_i vs
      have hv : vs[i]? = some (vs[i]'(by omega)) := List.getElem?_eq_getElem (by omega)
      exact ⟨_, _, a, hv, dpAll_at b hv hd⟩
  · cases h3 with
    | tup a b =>
      have hl := dpAll_len b
      rw [List.length_map] at hl
      have hi := (List.getElem?_eq_some_iff.mp hb).1
      rename_i vs
      have hv : vs[i]? = some (vs[i]'(by omega)) := List.getElem?_eq_getElem (by omega)
      obtain ⟨a', e, hs⟩ := dp_ld (dpAll_at b hv (d := ldD bs) (by rw [List.getElem?_map, hb]; rfl))
      rw [e] at hv
      exact ⟨_, a', a, hv, hs⟩
  · obtain ⟨a, e, hs⟩ := h5.2 i t ht
    exact ⟨zs, a, .inl (.inl h4), e, hs⟩
theorem LayAt.keep {C C' : Addr} {H H' : Hp} {x dx' y : Addr} {fs : List (Str × V)} {ds : List PyData} (h : LayAt K C H y ds) (k : Keep x H H') (hx : H x = some (.ins C' dx' fs)) (hne : y ≠ x) : LayAt K C H' y ds := by
  obtain ⟨dx, p, l, s, zs, h1, h2, h3, h4, h5⟩ := h
  refine ⟨dx, p, l, s, zs, k y hne _ h1, dp_keep k hx _ _ h2, dp_keep k hx _ _ h3, k s (fun z => by rw [z, hx] at h4; cases h4) _ h4, h5.1, fun i t e => ?_⟩
  obtain ⟨a, g1, g2⟩ := h5.2 i t e
  exact ⟨a, g1, sqT_keep k hx g2⟩
theorem LayAt.same {C : Addr} {H H' : Hp} {y : Addr} {ds : List PyData} (h : LayAt K C H y ds) (k : Same H H') : LayAt K C H' y ds := by
  obtain ⟨dx, p, l, s, zs, h1, h2, h3, h4, h5⟩ := h
  exact ⟨dx, p, l, s, zs, k _ _ h1, dp_same k _ _ h2, dp_same k _ _ h3, k _ _ h4, h5.same k⟩
/-- a row of hands or works, as it lies -/
def RowH (K : PySem.W.Frag) (C CL : Addr) (H : Hp) (r : Addr) (ho : Option Nat) (ds : List PyData) : Prop := ∃ dx y p : Addr, H r = some (.ins C dx (rowFl ho y p)) ∧ LayAt K CL H y ds ∧ Val K H (.ref p) (.tuple ds)
theorem RowH.same {C CL : Addr} {H H' : Hp} {r : Addr} {ho : Option Nat} {ds : List PyData} (h : RowH K C CL H r ho ds) (k : Same H H') : RowH K C CL H' r ho ds := by
  obtain ⟨dx, y, p, h1, h2, h3⟩ := h
  exact ⟨dx, y, p, k _ _ h1, h2.same k, h3.same k⟩
/-- the class of a row -/
structure RwT (K : PySem.W.Frag) (mg : Str → Option Value) (nm : Str) (C : Addr) : Prop where
  mgC : mg nm = some (.ref C)
  cl : Cls K C
  nP : NoAttr K C "_parts"
  nY : NoAttr K C "layout"
  nO : NoAttr K C "_opening"
def spRowHI (K : PySem.W.Frag) (C CL : Addr) (hand : Bool) (ws : List Str) : Sp := fun vs H Q _ => ∃ (x p dx : Addr) (ds : List PyData) (ho : Option Nat), vs = [.ref x, .ref p] ∧ H x = some (.ins C dx []) ∧ Val K H (.ref p) (.tuple ds) ∧ RowK (ho.getD 0) ws ds ∧ (hand = true → ∃ o, ho = some o ∧ OpenK o ds) ∧ (hand = false → ho = none) ∧ ∀ H', Keep x H H' → RowH K C CL H' x ho ds → Q .non H'
/-- places checked, their layout told -/
theorem places_of {CL : Addr} {H : Hp} {y : Addr} {ds : List PyData} {o : Nat} {ws : List Str} (h : LayAt K CL H y ds) (g : RowK o ws ds) : ∃ dx p l s : Addr, H y = some (.ins CL dx (layF p l s (spread ds).length)) ∧ ∃ ps, SqT K H p ps ∧ ∀ (i : Nat) (v : V), ps[i]? = some v → ∃ d bs t, PlAt K CL H y dx p l s (spread ds).length i d bs t ∧ Dp K H v d ∧ ItemD d ∧ okAt (spread ds).length d bs t ∧ (o ≤ i → headW d ∉ ws) := by
  obtain ⟨dx, p, l, s, zs, h1, h2, h3, h4, h5⟩ := h
  obtain ⟨ps, a, b⟩ : ∃ ps : List V, SqT K H p ps ∧ DpAll K H ps (spread ds) := by
    cases h2 with
    | tup a b => exact ⟨_, a, b⟩
  refine ⟨dx, p, l, s, h1, ps, a, fun i v hv => ?_⟩
  have hl := dpAll_len b
  have hi := (List.getElem?_eq_some_iff.mp hv).1
  have hll := leads_len (spread ds).length ds 0
  have hsl := stds_len ds
  have hd : (spread ds)[i]? = some ((spread ds)[i]'(by omega)) := List.getElem?_eq_getElem (by omega)
  have hb : (leads (spread ds).length 0 ds)[i]? = some ((leads (spread ds).length 0 ds)[i]'(by omega)) := List.getElem?_eq_getElem (by omega)
  have ht : (stds ds)[i]? = some ((stds ds)[i]'(by omega)) := List.getElem?_eq_getElem (by omega)
  exact ⟨_, _, _, lay_pl h1 h2 h3 h4 h5 hd hb ht, dpAll_at b hv hd, g.sins _ (List.mem_of_getElem? hd), g.ok i _ _ _ hd hb ht, g.nb i _ hd⟩
theorem sc_hr_init : FnScope ["self", "items"] ["self", "items"] (defScope sHR_init) := ⟨rfl, rfl, rfl, by decide +kernel, rfl, by decide +kernel, by decide +kernel⟩
theorem ok_hr_init {C CL : Addr} {f : Addr} {fd : FuncData} (F : Fun K "__init__" "HandRow.__init__" sHR_init f fd) (T : Txt K mg lt0 lt1 lt2 lt3 lt4 t0 t1 t2 t3 t4 t5 t6 t7 t8 tF tO dC) (CT : RwT K mg "HandRow" C) (CL_ : LyT K mg CL) {fLI : Addr} (ML : Mk K CL fLI) (RL : FnR P w K mg base CX0 3 fLI (spLayI K CL)) {f1 : Addr} {fd1 : FuncData} (F_check_items : Fun K "check_items" "check_items" s_check_items f1 fd1) (b_check_items : Binds K fd1 ["parts"] []) (g_check_items : mg "check_items" = some (.ref f1)) (G_check_items : FnOk P w K mg base (L2.CX P w) 7 f1 fd1 ["parts"] (spItems K)) {f2 : Addr} {fd2 : FuncData} (F_opening_of : Fun K "opening_of" "opening_of" s_opening_of f2 fd2) (b_opening_of : Binds K fd2 ["parts"] []) (g_opening_of : mg "opening_of" = some (.ref f2)) (G_opening_of : FnOk P w K mg base (L2.CX P w) 3 f2 fd2 ["parts"] (spOpen K tO)) (hO : ∀ H, Dp K H (.ref tO) (.tuple (opens.map strsD))) {f3 : Addr} {fd3 : FuncData} (F_check_places : Fun K "check_places" "check_places" s_check_places f3 fd3) (b_check_places : Binds K fd3 ["layout", "opening", "barred"] []) (g_check_places : mg "check_places" = some (.ref f3)) (G_check_places : FnOk P w K mg base (L2.CX P w) 3 f3 fd3 ["layout", "opening", "barred"] (spPlaces K CL)) :
    FnR P w K mg base (L2.CX P w) 8 f (spStar 1 (spRowHI K C CL true wNotB)) := by
  refine Fun.star1 (p1 := "self") (pv := "items") F sc_hr_init StX.cxUp (fun _ _ _ _ _ _ _ => rfl) (fun _ _ _ _ _ _ _ _ _ => rfl) (fun cdv A outer s H vs Q E hr h => ?_)
  obtain ⟨x, p, dx, ds, ho, rfl, hx, hv, g, hop, hno, q⟩ := h
  obtain ⟨o, rfl, op, op1, op2, op3⟩ := hop rfl
  refine ⟨_, (pss_cons (ps_expr (pe_call G_check_items hr (by rfl) g_check_items F_check_items.kp b_check_items .nil (passX (takes_of rfl rfl rfl rfl)) (pa_cons (pv 1) pa_nil)))
    (pss_cons (ps_fld (pv 0) (pe_call G_opening_of (hr.mono (by decide)) (by rfl) g_opening_of F_opening_of.kp b_opening_of .nil (passX (takes_of rfl rfl rfl rfl)) (pa_cons (pv 1) pa_nil)) rfl)
    (pss_cons (ps_fld (pv 0) (pe_makeRS (E := fun _ => E0) ML RL (hr.mono (by decide)) rfl CL_.mgC (pat pass0) (pa_cons (pv 1) pa_nil)) rfl)
    (pss_cons (ps_expr (pe_call G_check_places (hr.mono (by decide)) (by rfl) g_check_places F_check_places.kp b_check_places .nil (passX (takes_of rfl rfl rfl rfl)) (pa_cons (pe_fld (pv 0) rfl) (pa_cons (pe_fld (pv 0) rfl) (pa_cons (pe_glob (v := .ref t7) rfl T.c_NOT_BEHIND_OPENING rfl) pa_nil)))))
    (pss_one (ps_fld (pv 0) (pv 1) rfl)))))), ?_⟩
  refine ⟨_, rfl, _, ds, rfl, hv, g.items, g.l1, g.l14, fun H1 s1 => ?_⟩
  refine ⟨_, rfl, _, ds, op, rfl, (hv.same s1).dp.1, g.ins, op1, op3, hO, fun H2 s2 => ?_⟩
  have s2 := s1.trans s2
  refine ⟨_, rfl, x, C, dx, [], rfl, s2 _ _ hx, CT.cl, CT.nO, (by show 0 < 1000; decide), ?_⟩
  rw [op2]
  have k3 : Keep x H (upd H2 x (.ins C dx (opF (some o)))) := keep_same2 s2
  have h3x : upd H2 x (.ins C dx (opF (some o))) x = some (.ins C dx (opF (some o))) := upd_same
  show tSeq _ _ _ _ (upd H2 x (.ins C dx (opF (some o))))
  generalize upd H2 x (.ins C dx (opF (some o))) = H3 at k3 h3x ⊢
  have v3_ := val_keep hv k3 hx
  refine ⟨_, rfl, fun y dy hy hdy hne => ?_⟩
  have hyx : y ≠ x := fun z => by rw [z, h3x] at hy; cases hy
  have s4 : Same H3 (upd (upd H3 dy (.own y)) y (.ins CL dy [])) := (same_upd hdy).trans (same_upd (by rw [upd_ne hne.symm]; exact hy))
  refine ⟨y, dy, _, ds, rfl, upd_same, (v3_.same s4).dp.1, g.ins, g.sins, (Nat.le_trans g.l14 (by show 14 ≤ 100; decide)), fun H5 k5 hL => ⟨rfl, ?_⟩⟩
  have s5 : Same H3 H5 := keep_same k5 s4 hy
  have h5x := s5 _ _ h3x
  refine ⟨_, rfl, x, C, dx, _, rfl, h5x, CT.cl, CT.nY, (by show 1 < 1000; decide), ?_⟩
  have k6 : Keep x H5 (upd H5 x (.ins C dx (putF "layout" (.ref y) (opF (some o))))) := keep_same2 (Same.refl _)
  have h6x : upd H5 x (.ins C dx (putF "layout" (.ref y) (opF (some o)))) x = some (.ins C dx (putF "layout" (.ref y) (opF (some o)))) := upd_same
  show tSeq _ _ _ _ (upd H5 x (.ins C dx (putF "layout" (.ref y) (opF (some o)))))
  generalize upd H5 x (.ins C dx (putF "layout" (.ref y) (opF (some o)))) = H6 at k6 h6x ⊢
  have hL6 := hL.keep k6 h5x hyx
  obtain ⟨dxl, pl, ll, sl, hy6, hall⟩ := places_of hL6 g
  have k6 : Keep x H H6 := keep_tr k3 (keep_tr (keep_of s5) k6)
  refine ⟨_, rfl, x, C, dx, _, V.ref y, rfl, h6x, CT.cl, CT.nY, (by rw [lookup_putF, if_pos rfl]), _, rfl, x, C, dx, _, iN o, rfl, h6x, CT.cl, CT.nO, (by rw [lookup_putF, if_neg n_oy]; unfold opF; rw [lookup_putF, if_pos rfl]), y, dxl, pl, ll, sl, t7, _, o, wNotB, rfl, hy6, T.w7 _, hall, fun H7 s7 => ?_⟩
  have h7x := s7 _ _ h6x
  have k7 : Keep x H H7 := keep_tr k6 (keep_of s7)
  refine ⟨_, rfl, _, rfl, x, C, dx, _, rfl, h7x, CT.cl, CT.nP, (by show 2 < 1000; decide), q _ (keep_tr k7 (keep_same2 (Same.refl _))) ⟨dx, y, p, upd_same, (hL6.same s7).keep (keep_same2 (Same.refl _)) h7x hyx, val_keep (val_keep hv k7 hx) (keep_same2 (Same.refl _)) h7x⟩⟩
theorem sc_wr_init : FnScope ["self", "items"] ["self", "items"] (defScope sWR_init) := ⟨rfl, rfl, rfl, by decide +kernel, rfl, by decide +kernel, by decide +kernel⟩
theorem ok_wr_init {C CL : Addr} {f : Addr} {fd : FuncData} (F : Fun K "__init__" "WorkRow.__init__" sWR_init f fd) (T : Txt K mg lt0 lt1 lt2 lt3 lt4 t0 t1 t2 t3 t4 t5 t6 t7 t8 tF tO dC) (CT : RwT K mg "WorkRow" C) (CL_ : LyT K mg CL) {fLI : Addr} (ML : Mk K CL fLI) (RL : FnR P w K mg base CX0 3 fLI (spLayI K CL)) {f1 : Addr} {fd1 : FuncData} (F_check_items : Fun K "check_items" "check_items" s_check_items f1 fd1) (b_check_items : Binds K fd1 ["parts"] []) (g_check_items : mg "check_items" = some (.ref f1)) (G_check_items : FnOk P w K mg base (L2.CX P w) 7 f1 fd1 ["parts"] (spItems K)) {f3 : Addr} {fd3 : FuncData} (F_check_places : Fun K "check_places" "check_places" s_check_places f3 fd3) (b_check_places : Binds K fd3 ["layout", "opening", "barred"] []) (g_check_places : mg "check_places" = some (.ref f3)) (G_check_places : FnOk P w K mg base (L2.CX P w) 3 f3 fd3 ["layout", "opening", "barred"] (spPlaces K CL)) :
    FnR P w K mg base (L2.CX P w) 8 f (spStar 1 (spRowHI K C CL false wNotW)) := by
  refine Fun.star1 (p1 := "self") (pv := "items") F sc_wr_init StX.cxUp (fun _ _ _ _ _ _ _ => rfl) (fun _ _ _ _ _ _ _ _ _ => rfl) (fun cdv A outer s H vs Q E hr h => ?_)
  obtain ⟨x, p, dx, ds, ho, rfl, hx, hv, g, hop, hno, q⟩ := h
  obtain rfl := hno rfl
  refine ⟨_, (pss_cons (ps_expr (pe_call G_check_items hr (by rfl) g_check_items F_check_items.kp b_check_items .nil (passX (takes_of rfl rfl rfl rfl)) (pa_cons (pv 1) pa_nil)))
    (pss_cons (ps_fld (pv 0) (pe_makeRS (E := fun _ => E0) ML RL (hr.mono (by decide)) rfl CL_.mgC (pat pass0) (pa_cons (pv 1) pa_nil)) rfl)
    (pss_cons (ps_expr (pe_call G_check_places (hr.mono (by decide)) (by rfl) g_check_places F_check_places.kp b_check_places .nil (passX (takes_of rfl rfl rfl rfl)) (pa_cons (pe_fld (pv 0) rfl) (pa_cons pe_int (pa_cons (pe_glob (v := .ref t8) rfl T.c_NOT_IN_WORKS rfl) pa_nil)))))
    (pss_one (ps_fld (pv 0) (pv 1) rfl))))), ?_⟩
  refine ⟨_, rfl, _, ds, rfl, hv, g.items, g.l1, g.l14, fun H2 s2 => ?_⟩
  have k3 : Keep x H H2 := keep_of s2
  have h3x : H2 x = some (.ins C dx (opF none)) := s2 _ _ hx
  generalize H2 = H3 at k3 h3x ⊢
  have v3_ := val_keep hv k3 hx
  refine ⟨_, rfl, fun y dy hy hdy hne => ?_⟩
  have hyx : y ≠ x := fun z => by rw [z, h3x] at hy; cases hy
  have s4 : Same H3 (upd (upd H3 dy (.own y)) y (.ins CL dy [])) := (same_upd hdy).trans (same_upd (by rw [upd_ne hne.symm]; exact hy))
  refine ⟨y, dy, _, ds, rfl, upd_same, (v3_.same s4).dp.1, g.ins, g.sins, (Nat.le_trans g.l14 (by show 14 ≤ 100; decide)), fun H5 k5 hL => ⟨rfl, ?_⟩⟩
  have s5 : Same H3 H5 := keep_same k5 s4 hy
  have h5x := s5 _ _ h3x
  refine ⟨_, rfl, x, C, dx, _, rfl, h5x, CT.cl, CT.nY, (by show 0 < 1000; decide), ?_⟩
  have k6 : Keep x H5 (upd H5 x (.ins C dx (putF "layout" (.ref y) (opF none)))) := keep_same2 (Same.refl _)
  have h6x : upd H5 x (.ins C dx (putF "layout" (.ref y) (opF none))) x = some (.ins C dx (putF "layout" (.ref y) (opF none))) := upd_same
  show tSeq _ _ _ _ (upd H5 x (.ins C dx (putF "layout" (.ref y) (opF none))))
  generalize upd H5 x (.ins C dx (putF "layout" (.ref y) (opF none))) = H6 at k6 h6x ⊢
  have hL6 := hL.keep k6 h5x hyx
  obtain ⟨dxl, pl, ll, sl, hy6, hall⟩ := places_of hL6 g
  have k6 : Keep x H H6 := keep_tr k3 (keep_tr (keep_of s5) k6)
  refine ⟨_, rfl, x, C, dx, _, V.ref y, rfl, h6x, CT.cl, CT.nY, (by rw [lookup_putF, if_pos rfl]), y, dxl, pl, ll, sl, t8, _, 0, wNotW, rfl, hy6, T.w8 _, hall, fun H7 s7 => ?_⟩
  have h7x := s7 _ _ h6x
  have k7 : Keep x H H7 := keep_tr k6 (keep_of s7)
  refine ⟨_, rfl, _, rfl, x, C, dx, _, rfl, h7x, CT.cl, CT.nP, (by show 1 < 1000; decide), q _ (keep_tr k7 (keep_same2 (Same.refl _))) ⟨dx, y, p, upd_same, (hL6.same s7).keep (keep_same2 (Same.refl _)) h7x hyx, val_keep (val_keep hv k7 hx) (keep_same2 (Same.refl _)) h7x⟩⟩
end
end K04

namespace K04
open PySem PySem.Spec PyProof.Rows L2 TL GG OO
abbrev sIN_init : Stmt := inClass s_InvalidNumber 0
abbrev sII_init : Stmt := inClass s_InvalidItem 0
section
variable {P : Program} {w : World} {K : PySem.W.Frag} {mg : Str → Option Value} {base : Heap} {lt0 lt1 lt2 lt3 lt4 : Tok} {t0 t1 t2 t3 t4 t5 t6 t7 t8 tF tO dC : Addr} {S fS N fN : Addr}
theorem sc_in_init : FnScope ["self", "value"] ["self", "value"] (defScope sIN_init) := ⟨rfl, rfl, rfl, by decide +kernel, rfl, by decide +kernel, by decide +kernel⟩
theorem ok_in_init {f : Addr} {fd : FuncData} (F : Fun K "__init__" "InvalidNumber.__init__" sIN_init f fd) (T : ExT K mg "InvalidNumber" "value" N fN) : FnOk P w K mg base CX0 1 f fd ["self", "value"] (spExI N "value") := by
  refine F.ok sc_in_init (fun vs H Q E h => ?_) (fun cdv A outer s H vs Q E hr h => ?_)
  · obtain ⟨a, v, rfl, _⟩ := h
    rfl
  · obtain ⟨a, v, rfl, ha, q⟩ := h
    refine ⟨_, pss_one (ps_ost (pv 0) (pv 1) rfl), ?_⟩
    exact ⟨_, rfl, _, rfl, a, N, rfl, T.o, T.no, .inl ⟨ha, fun dx h1 h2 => q dx h1 h2⟩⟩
/-! ### _checked -/
/-- no integer from 0 to hi -/
def NoIx (K : PySem.W.Frag) (H : Hp) (x : V) (hi : Int) : Prop := (∃ n : Int, x = .int n ∧ isInt n 0 hi = false) ∨ ∃ T : String, TyX K H x (.type T) ∧ (kitB T "int" = some false ∨ (kitB T "int" = some true ∧ kitB T "bool" = some true))
def spChecked (K : PySem.W.Frag) (N : Addr) : Sp := fun vs H Q E => ∃ (x : V) (hi : Int), vs = [x, .int hi] ∧ ((∃ n : Int, x = .int n ∧ isInt n 0 hi = true ∧ Q (.int n) H) ∨
  (NoIx K H x hi ∧ ∀ (d : Addr) (H' : Hp), H d = none → Same H H' → H' d = some (.xd [("value", x)]) → E (.ref N) (some d) H'))
theorem sc_checked : FnScope ["value", "highest"] ["value", "highest"] (defScope s_checked) := ⟨rfl, rfl, rfl, by decide +kernel, rfl, by decide +kernel, by decide +kernel⟩
theorem ok_checked {f : Addr} {fd : FuncData} (F : Fun K "_checked" "_checked" s_checked f fd) (TN : ExT K mg "InvalidNumber" "value" N fN) {f1 : Addr} {fd1 : FuncData} (F_is_integer : Fun K "is_integer" "is_integer" s_is_integer f1 fd1) (b_is_integer : Binds K fd1 ["value", "lowest", "highest"] []) (g_is_integer : mg "is_integer" = some (.ref f1)) (G_is_integer : FnOk P w K mg base CX0 1 f1 fd1 ["value", "lowest", "highest"] (spIsInt K))
    {fdN : FuncData} (bN : Binds K fdN ["self", "value"] []) (GN : FnOk P w K mg base CX0 1 fN fdN ["self", "value"] (spExI N "value")) : FnOk P w K mg base (L2.CX P w) 3 f fd ["value", "highest"] (spChecked K N) := by
  refine F.okX sc_checked (fun vs H Q E h => ?_) (fun cdv A outer s H vs Q E hr h => ?_)
  · obtain ⟨x, hi, rfl, _⟩ := h
    rfl
  · obtain ⟨x, hi, rfl, h⟩ := h
    refine ⟨_, (pss_cons (ps_if (pt_not (pt_val (pe_call G_is_integer (hr.mono (by decide)) (by rfl) g_is_integer F_is_integer.kp b_is_integer .nil pass0 (pa_cons (pv 0) (pa_cons pe_int (pa_cons (pv 1) pa_nil)))))) 
      (pss_one (ps_raise rfl (takes_of rfl rfl rfl rfl) (pmk_oex TN.o TN.i TN.t GN hr bN .nil pass0 rfl TN.g (pa_cons (pv 0) pa_nil)))) pss_nil) 
    (pss_one (ps_ret (pv 0)))), ?_⟩
    refine ⟨_, rfl, _, rfl, x, 0, hi, rfl, ?_⟩
    rcases h with ⟨n, rfl, hn, q⟩ | ⟨hno, q⟩
    · exact .inl ⟨n, rfl, _, rfl, by rw [hn]; exact ⟨_, rfl, q⟩⟩
    · have go : (fun v H2 => ∃ b : Bool, v = V.bl b ∧ b = false) (V.bl false) H := ⟨false, rfl, rfl⟩
      rcases hno with ⟨n, rfl, hn⟩ | ⟨T, hT, hk⟩
      · exact .inl ⟨n, rfl, _, rfl, by rw [hn]; exact ⟨_, rfl, mko q⟩⟩
      · exact .inr ⟨T, hT, hk, _, rfl, ⟨_, rfl, mko q⟩⟩
end
end K04

namespace K04
open PySem PySem.Spec PyProof.Rows StX L2 TL GG OO LY
/-! ### rows that the laws draw keep the rules -/
section
variable {ns ms : List Str}
def KindI (ns : List Str) (t : Bool) (d : PyData) : Prop := (∃ w ∈ (["touch", "use", "enter", "leave", "lock", "unlock"] : List Str), d = T1 w) ∨ (∃ n ∈ ns, d = GG.TS n) ∨ (t = true ∧ d = T1 "let")
def KindA (ns ms : List Str) (t : Bool) (d : PyData) : Prop := KindI ns t d ∨ ∃ m ∈ ms, ∃ o : List PyData, d = TA3 m o ∧ o.length ≤ 4 ∧ ∀ z ∈ o, KindI ns t z
theorem rowOk_kind {t a u l : Bool} {r : List PyData} (h : RowOk ns ms t a u l r) : ∀ d ∈ r, (a = false → KindI ns t d) ∧ KindA ns ms t d := by
  induction h with
  | nil => intro d hd; cases hd
  | lets ht =>
    intro d hd
    obtain rfl := List.mem_singleton.mp hd
    exact ⟨fun _ => .inr (.inr ⟨ht, rfl⟩), .inl (.inr (.inr ⟨ht, rfl⟩))⟩
  | @plain a u l w r hw _ ih =>
    intro d hd
    rcases List.mem_cons.mp hd with rfl | hd
    · have k : KindI ns t (T1 w) := .inl ⟨w, by rcases List.mem_cons.mp hw with rfl | hw; · simp
                                                · rw [List.mem_singleton.mp hw]; simp, rfl⟩
      exact ⟨fun _ => k, .inl k⟩
    · exact ih d hd
  | @start a u l n r hn _ ih =>
    intro d hd
    rcases List.mem_cons.mp hd with rfl | hd
    · exact ⟨fun _ => .inr (.inl ⟨n, hn, rfl⟩), .inl (.inr (.inl ⟨n, hn, rfl⟩))⟩
    · exact ih d hd
  | enter _ ih =>
    intro d hd
    rcases List.mem_cons.mp hd with rfl | hd
    · exact ⟨fun _ => .inl ⟨"enter", by simp, rfl⟩, .inl (.inl ⟨"enter", by simp, rfl⟩)⟩
    · exact ih d hd
  | leave _ ih =>
    intro d hd
    rcases List.mem_cons.mp hd with rfl | hd
    · exact ⟨fun _ => .inl ⟨"leave", by simp, rfl⟩, .inl (.inl ⟨"leave", by simp, rfl⟩)⟩
    · exact ih d hd
  | lock _ ih =>
    intro d hd
    rcases List.mem_cons.mp hd with rfl | hd
    · exact ⟨fun _ => .inl ⟨"lock", by simp, rfl⟩, .inl (.inl ⟨"lock", by simp, rfl⟩)⟩
    · exact ih d hd
  | unlock _ ih =>
    intro d hd
    rcases List.mem_cons.mp hd with rfl | hd
    · exact ⟨fun _ => .inl ⟨"unlock", by simp, rfl⟩, .inl (.inl ⟨"unlock", by simp, rfl⟩)⟩
    · exact ih d hd
  | @ask u l m o r hm _ h4 _ iho ih =>
    intro d hd
    rcases List.mem_cons.mp hd with rfl | hd
    · exact ⟨(fun z => nomatch z), .inr ⟨m, hm, o, rfl, h4, fun z hz => (iho z hz).1 rfl⟩⟩
    · exact ih d hd
theorem rowG_of {t a u l : Bool} {r : List PyData} (h : RowOk ns ms t a u l r) : RowG a u l r := by
  induction h with
  | nil => exact .nil
  | lets ht => exact .lets
  | @plain a u l w r hw _ ih =>
    rcases List.mem_cons.mp hw with rfl | hw
    · exact .item rfl (by decide) rfl ih
    · obtain rfl := List.mem_singleton.mp hw
      exact .item rfl (by decide) rfl ih
  | @start a u l n r hn _ ih => exact .item rfl (show ¬ (("start" : Str) = "let") by decide) rfl ih
  | enter _ ih => exact .item rfl (by decide) rfl ih
  | leave _ ih => exact .item rfl (by decide) rfl ih
  | lock _ ih => exact .item rfl (by decide) rfl ih
  | unlock _ ih => exact .item rfl (by decide) rfl ih
  | ask hm _ h4 _ iho ih => exact .ask rfl rfl iho ih
def NmOk (ns : List Str) : Prop := ∀ n ∈ ns, isName n = true
theorem kindI_ok {t : Bool} {d : PyData} (hn : NmOk ns) (h : KindI ns t d) : isWayItemP d = true ∧ isHeadP d = false ∧ way d = [] ∧ (∃ w r, d = .tuple (.str w :: r) ∧ w ≠ "ask" ∧ wayOf d = none) ∧ headW d ∉ wNotB ∧ (t = false → headW d ∉ wNotW) := by
  rcases h with ⟨w, hw, rfl⟩ | ⟨n, hm, rfl⟩ | ⟨ht, rfl⟩
  · have hall : ((["touch", "use", "enter", "leave", "lock", "unlock"] : List Str).all fun w => isWayItemP (T1 w) && (decide (w ≠ "ask") && (decide (w ∉ wNotB) && decide (w ∉ wNotW)))) = true := by decide +kernel
    have h1 := List.all_eq_true.mp hall w hw
    rw [Bool.and_eq_true_iff, Bool.and_eq_true_iff, Bool.and_eq_true_iff, decide_eq_true_iff, decide_eq_true_iff, decide_eq_true_iff] at h1
    exact ⟨h1.1, rfl, rfl, ⟨w, [], rfl, h1.2.1, rfl⟩, h1.2.2.1, fun _ => h1.2.2.2⟩
  · refine ⟨?_, rfl, rfl, ⟨"start", [.str n], rfl, by decide, rfl⟩, (show ("start" : Str) ∉ wNotB by decide), fun _ => (show ("start" : Str) ∉ wNotW by decide)⟩
    show (false || (isWordP wNamed (.str "start") && isName n)) = true
    rw [hn n hm]
    decide +kernel
  · exact ⟨by decide +kernel, rfl, rfl, ⟨"let", [], rfl, by decide, rfl⟩, (show ("let" : Str) ∉ wNotB by decide), fun z => by rw [ht] at z; cases z⟩
theorem kindA_ok {t : Bool} {d : PyData} (hn : NmOk ns) (hm : NmOk ms) (h : KindA ns ms t d) : itOk d ∧ ItemD d ∧ (∀ z ∈ way d, KindI ns t z) ∧ headW d ∉ wNotB ∧ (t = false → headW d ∉ wNotW) ∧ size1 d = 1 + (way d).length := by
  rcases h with h | ⟨m, hmm, o, rfl, h4, ho⟩
  · obtain ⟨h1, h2, h3, h4, h5, h6⟩ := kindI_ok hn h
    refine ⟨.inr ⟨h2, ?_, h3⟩, .inl h4, by rw [h3]; simp, h5, h6, ?_⟩
    · unfold isItemP
      rw [h1]
      simp
    · rw [h3]
      rcases h with ⟨w, hw, rfl⟩ | ⟨n, hm, rfl⟩ | ⟨ht, rfl⟩ <;> rfl
  · refine ⟨.inl ⟨?_, fun z hz => (kindI_ok hn (ho z hz)).1⟩, .inr ⟨_, _, rfl⟩, ho, (show ("ask" : Str) ∉ wNotB by decide), fun _ => (show ("ask" : Str) ∉ wNotW by decide), rfl⟩
    show (isWordP wAsk (.str "ask") && (isName m && decide (o.length ≤ 4))) = true
    rw [hm m hmm, decide_eq_true h4]
    decide +kernel
theorem spread_size {r : List PyData} (h : ∀ d ∈ r, size1 d = 1 + (way d).length) : (spread r).length = sizeR r := by
  induction r with
  | nil => rfl
  | cons d r ih =>
    rw [spread_cons, List.length_cons, List.length_append, ih fun d hd => h d (List.mem_cons_of_mem _ hd)]
    have := h d List.mem_cons_self
    unfold sizeR
    rw [List.map_cons, List.sum_cons, this]
    omega
theorem spread_mem {r : List PyData} {d : PyData} (h : d ∈ spread r) : ∃ e ∈ r, d = e ∨ d ∈ way e := by
  unfold spread at h
  obtain ⟨e, he, hd⟩ := List.mem_flatMap.mp h
  exact ⟨e, he, List.mem_cons.mp hd⟩
theorem spread_app (a b : List PyData) : spread (a ++ b) = spread a ++ spread b := List.flatMap_append ..
theorem spread_T1 : ∀ op : List Str, spread (op.map T1) = op.map T1
  | [] => rfl
  | w :: r => by
    rw [List.map_cons, spread_cons, spread_T1 r]
    rfl
theorem spread_kind {t : Bool} {r : List PyData} (hn : NmOk ns) (hm : NmOk ms) (h : ∀ d ∈ r, KindA ns ms t d) : ∀ d ∈ spread r, KindA ns ms t d := fun d hd => by
  obtain ⟨e, he, hd⟩ := spread_mem hd
  rcases hd with rfl | hd
  · exact h _ he
  · exact .inl ((kindA_ok hn hm (h e he)).2.2.1 d hd)
/-- places let by, from RowG -/
theorem rowG_ok {ds : List PyData} (h : RowG true false false ds) : ∀ (i : Nat) (d : PyData) (bs : List Nat) (t : St3), (spread ds)[i]? = some d → (leads (spread ds).length 0 ds)[i]? = some bs → (stds ds)[i]? = some t → okAt (spread ds).length d bs t := fun i d bs t hd hb ht => by
  have hi := (List.getElem?_eq_some_iff.mp hd).1
  have g := outer (spread ds).length ds false false h 0 (List.replicate ((spread ds).length + 1) ff3) (by omega) (by rw [List.length_replicate]) fun _ => ⟨false, by rw [List.getElem?_replicate_of_lt (by omega)]; rfl⟩
  have k := good_at (spread ds).length _ 0 _ g i d bs (by rw [List.getElem?_zip_eq_some]; exact ⟨hd, hb⟩)
  have e : (runs (List.replicate ((spread ds).length + 1) ff3) 0 ((spread ds).zip (leads (spread ds).length 0 ds))).getD (0 + i) (false, false, false) = t := by
    rw [Nat.zero_add]
    refine getD_of ?_
    unfold stds at ht
    rw [List.getElem?_take_of_lt hi] at ht
    exact ht
  rw [e] at k
  exact k
theorem work_row {ds : List PyData} (hn : NmOk ns) (hm : NmOk ms) (h : WorkOk ns ms ds) : RowK 0 wNotW ds := by
  obtain ⟨h1, h2, h3⟩ := h
  have k := fun d hd => (rowOk_kind h1 d hd).2
  have ks := spread_kind hn hm k
  have es := spread_size fun d hd => (kindA_ok hn hm (k d hd)).2.2.2.2.2
  refine ⟨fun d hd => (kindA_ok hn hm (k d hd)).1, fun d hd => (kindA_ok hn hm (k d hd)).2.1, fun d hd => (kindA_ok hn hm (ks d hd)).2.1, ?_, by omega, rowG_ok (rowG_of h1), fun i d hd _ => (kindA_ok hn hm (ks d (List.mem_of_getElem? hd))).2.2.2.2.1 rfl⟩
  cases ds with
  | nil => exact absurd rfl h2
  | cons d r => rw [spread_cons]; simp
theorem op_rowG {b : List PyData} (h : RowG true false false b) : ∀ op ∈ GG.opens, RowG true false false (op.map T1 ++ b) := by
  intro op hop
  simp only [GG.opens, List.mem_cons, List.not_mem_nil, or_false] at hop
  rcases hop with rfl | rfl | rfl | rfl | rfl | rfl
  · exact .item rfl (by decide) rfl (.item rfl (by decide) rfl h)
  · exact .item rfl (by decide) rfl (.item rfl (by decide) rfl h)
  · exact .item rfl (by decide) rfl (.item rfl (by decide) rfl (.item rfl (by decide) rfl (.item rfl (by decide) rfl h)))
  · exact .item rfl (by decide) rfl (.item rfl (by decide) rfl (.item rfl (by decide) rfl (.item rfl (by decide) rfl h)))
  · exact .item rfl (by decide) rfl (.item rfl (by decide) rfl (.item rfl (by decide) rfl (.item rfl (by decide) rfl h)))
  · exact .item rfl (by decide) rfl (.item rfl (by decide) rfl (.item rfl (by decide) rfl (.item rfl (by decide) rfl h)))
theorem op_words : (GG.opens.all fun op => op.all fun w => isItemP (T1 w) && decide (w ≠ "ask")) = true := by decide +kernel
theorem op_item {op : List Str} {w : Str} (h : op ∈ GG.opens) (hw : w ∈ op) : itOk (T1 w) ∧ ItemD (T1 w) := by
  have h1 := List.all_eq_true.mp (List.all_eq_true.mp op_words op h) w hw
  rw [Bool.and_eq_true_iff, decide_eq_true_iff] at h1
  exact ⟨.inr ⟨rfl, h1.1, rfl⟩, .inl ⟨w, [], rfl, h1.2, rfl⟩⟩
theorem head_T1 : ∀ op : List Str, (op.map T1).map headW = op
  | [] => rfl
  | w :: r => by
    rw [List.map_cons, List.map_cons, head_T1 r]
    rfl
theorem hand_row {ds : List PyData} (hn : NmOk ns) (hm : NmOk ms) (h : HandOk ns ms ds) : ∃ o, RowK o wNotB ds ∧ OpenK o ds := by
  obtain ⟨op, b, hop, rfl, h1, h3⟩ := h
  have k := fun d hd => (rowOk_kind h1 d hd).2
  have ks := spread_kind hn hm k
  have es := spread_size fun d hd => (kindA_ok hn hm (k d hd)).2.2.2.2.2
  have esp : spread (op.map T1 ++ b) = op.map T1 ++ spread b := by rw [spread_app, spread_T1]
  have mem : ∀ {x : List PyData} {d : PyData} {C : PyData → Prop}, d ∈ op.map T1 ++ x → (∀ w ∈ op, C (T1 w)) → (∀ d ∈ x, C d) → C d := fun {x d C} hd a b => by
    rcases List.mem_append.mp hd with hd | hd
    · obtain ⟨w, hw, rfl⟩ := List.mem_map.mp hd
      exact a w hw
    · exact b d hd
  have hl := GG.opens_len hop
  refine ⟨op.length, ⟨fun d hd => mem (C := itOk) hd (fun w hw => (op_item hop hw).1) fun d hd => (kindA_ok hn hm (k d hd)).1, fun d hd => mem (C := ItemD) hd (fun w hw => (op_item hop hw).2) fun d hd => (kindA_ok hn hm (k d hd)).2.1, fun d hd => mem (C := ItemD) (by rw [esp] at hd; exact hd) (fun w hw => (op_item hop hw).2) fun d hd => (kindA_ok hn hm (ks d hd)).2.1, ?_, ?_, rowG_ok (op_rowG (rowG_of h1) op hop), fun i d hd hi => ?_⟩, op, hop, rfl, ?_⟩
  · rw [esp, List.length_append, List.length_map]
    omega
  · rw [esp, List.length_append, List.length_map]
    omega
  · rw [esp, List.getElem?_append_right (by rw [List.length_map]; exact hi)] at hd
    exact (kindA_ok hn hm (ks d (List.mem_of_getElem? hd))).2.2.2.1
  · rw [List.map_append, head_T1, List.take_left']
    rfl
end
end K04

namespace K04
open PySem PySem.Spec PyProof.Rows StX L2 TL GG OO LY
abbrev s_hr_parts : Stmt := inClass s_HandRow 2
abbrev s_hr_size : Stmt := inClass s_HandRow 3
abbrev s_hr_opening : Stmt := inClass s_HandRow 4
abbrev s_hr_len : Stmt := inClass s_HandRow 5
abbrev s_hr_item : Stmt := inClass s_HandRow 10
abbrev s_hr_nexts : Stmt := inClass s_HandRow 11
abbrev s_hr_holds : Stmt := inClass s_HandRow 12
abbrev s_hr_under : Stmt := inClass s_HandRow 13
abbrev s_hr_locked : Stmt := inClass s_HandRow 14
abbrev s_hr_places : Stmt := inClass s_HandRow 15
abbrev s_wr_parts : Stmt := inClass s_WorkRow 2
abbrev s_wr_size : Stmt := inClass s_WorkRow 3
abbrev s_wr_len : Stmt := inClass s_WorkRow 4
abbrev s_wr_item : Stmt := inClass s_WorkRow 9
abbrev s_wr_nexts : Stmt := inClass s_WorkRow 10
abbrev s_wr_holds : Stmt := inClass s_WorkRow 11
abbrev s_wr_under : Stmt := inClass s_WorkRow 12
abbrev s_wr_locked : Stmt := inClass s_WorkRow 13
abbrev s_wr_places : Stmt := inClass s_WorkRow 14
theorem rowFl_no (ho : Option Nat) (y p : Addr) {m : Str} (h1 : ¬ m = "_parts") (h2 : ¬ m = "layout") (h3 : ¬ m = "_opening") : (rowFl ho y p).lookup m = none := by
  unfold rowFl
  rw [lookup_putF, if_neg h1, lookup_putF, if_neg h2]
  cases ho with
  | none => rfl
  | some o =>
    unfold opF
    rw [lookup_putF, if_neg h3]
    rfl
theorem rowFl_o (o : Nat) (y p : Addr) : (rowFl (some o) y p).lookup ("_opening" : Str) = some (iN o) := by
  unfold rowFl
  rw [lookup_putF, if_neg (show ¬ (("_opening" : Str) = "_parts") by decide +kernel), lookup_putF, if_neg n_oy]
  unfold opF
  rw [lookup_putF, if_pos rfl]
theorem is_ix1 {n m : Nat} (h : n < m) : isInt (n : Int) 0 ((m : Int) - 1) = true := by
  unfold isInt
  rw [decide_eq_true (by omega), decide_eq_true (by omega)]
  rfl
def plc (ds : List PyData) (w : Str) : List Nat := (List.range (spread ds).length).filter fun i => decide (headW ((spread ds).getD i .none) = w)
section
variable (K : PySem.W.Frag) (C CL N : Addr)
def spCkP : Sp := fun vs H Q E => ∃ (y : Addr) (x : V) (ds : List PyData), vs = [.ref y, x] ∧ LayAt K CL H y ds ∧ ((∃ n : Nat, x = .int n ∧ n < (spread ds).length ∧ Q (.int n) H) ∨
  (NoIx K H x (((spread ds).length : Int) - 1) ∧ ∀ (d : Addr) (H' : Hp), H d = none → Same H H' → H' d = some (.xd [("value", x)]) → E (.ref N) (some d) H'))
def spStd : Sp := fun vs H Q E => ∃ (y : Addr) (x : V) (ds : List PyData), vs = [.ref y, x] ∧ LayAt K CL H y ds ∧ ((∃ (n : Nat) (t : St3), x = .int n ∧ (stds ds)[n]? = some t ∧ ∀ a : Addr, SqT K H a (v3 t) → Q (.ref a) H) ∨
  (NoIx K H x (((spread ds).length : Int) - 1) ∧ ∀ (d : Addr) (H' : Hp), H d = none → Same H H' → H' d = some (.xd [("value", x)]) → E (.ref N) (some d) H'))
def spPlc : Sp := fun vs H Q _ => ∃ (y : Addr) (w : Str) (ds : List PyData), vs = [.ref y, .str w] ∧ LayAt K CL H y ds ∧ (∀ d ∈ spread ds, ItemD d) ∧ (spread ds).length ≤ 100 ∧ ∀ H' l, Same H H' → H l = none → H' l = some (.lst ((plc ds w).map iN)) → Q (.ref l) H'
/-- a method told of a place -/
def spAt (R : Hp → List PyData → Nat → V → Prop) : Sp := fun vs H Q E => ∃ (r : Addr) (x : V) (ho : Option Nat) (ds : List PyData), vs = [.ref r, x] ∧ RowH K C CL H r ho ds ∧ ((∃ n : Nat, x = .int n ∧ n < (spread ds).length ∧ ∀ v, R H ds n v → Q v H) ∨
  (NoIx K H x (((spread ds).length : Int) - 1) ∧ ∀ (d : Addr) (H' : Hp), H d = none → Same H H' → H' d = some (.xd [("value", x)]) → E (.ref N) (some d) H'))
def RItem (H : Hp) (ds : List PyData) (n : Nat) (v : V) : Prop := ∃ d, (spread ds)[n]? = some d ∧ Dp K H v d
def RNext (H : Hp) (ds : List PyData) (n : Nat) (v : V) : Prop := ∃ (bs : List Nat) (a : Addr), (leads (spread ds).length 0 ds)[n]? = some bs ∧ v = .ref a ∧ SqT K H a (bs.map iN)
def RFlag (i : Nat) (_ : Hp) (ds : List PyData) (n : Nat) (v : V) : Prop := ∃ t, (stds ds)[n]? = some t ∧ (v3 t)[i]? = some v
def spSize : Sp := fun vs H Q _ => ∃ (r : Addr) (ho : Option Nat) (ds : List PyData), vs = [.ref r] ∧ RowH K C CL H r ho ds ∧ Q (iN (spread ds).length) H
def spOpn : Sp := fun vs H Q _ => ∃ (r : Addr) (o : Nat) (ds : List PyData), vs = [.ref r] ∧ RowH K C CL H r (some o) ds ∧ Q (iN o) H
def spLenH : Sp := fun vs H Q _ => ∃ (r : Addr) (ho : Option Nat) (ds : List PyData), vs = [.ref r] ∧ RowH K C CL H r ho ds ∧ Q (.int (ds.length : Nat)) H
def spPlcR : Sp := fun vs H Q _ => ∃ (r : Addr) (w : Str) (ho : Option Nat) (ds : List PyData), vs = [.ref r, .str w] ∧ RowH K C CL H r ho ds ∧ (∀ d ∈ spread ds, ItemD d) ∧ (spread ds).length ≤ 100 ∧ ∀ H' l, Same H H' → H l = none → H' l = some (.lst ((plc ds w).map iN)) → Q (.ref l) H'
end
section
variable {P : Program} {w : World} {K : PySem.W.Frag} {C CL N fN : Addr} {mg : Str → Option Value} {base : Heap} {lt0 lt1 lt2 lt3 lt4 : Tok} {t0 t1 t2 t3 t4 t5 t6 t7 t8 tF tO dC : Addr}
theorem LayAt.parts {H : Hp} {y : Addr} {ds : List PyData} (h : LayAt K CL H y ds) : ∃ dx p l s : Addr, H y = some (.ins CL dx (layF p l s (spread ds).length)) ∧ (∃ ps : List V, SqT K H p ps ∧ DpAll K H ps (spread ds)) ∧ (∃ ls : List V, SqT K H l ls ∧ ∀ (n : Nat) (bs : List Nat), (leads (spread ds).length 0 ds)[n]? = some bs → ∃ a : Addr, ls[n]? = some (V.ref a) ∧ SqT K H a (bs.map iN)) ∧
    ∃ zs : List V, SqT K H s zs ∧ ∀ (n : Nat) (t : St3), (stds ds)[n]? = some t → ∃ a : Addr, zs[n]? = some (V.ref a) ∧ SqT K H a (v3 t) := by
  obtain ⟨dx, p, l, s, zs, h1, h2, h3, h4, h5⟩ := h
  refine ⟨dx, p, l, s, h1, ?_, ?_, zs, .inl (.inl h4), h5.2⟩
  · cases h2 with
    | tup a b => exact ⟨_, a, b⟩
  · cases h3 with
    | tup a b =>
      rename_i vs
      refine ⟨vs, a, fun n bs hb => ?_⟩
      have hl := dpAll_len b
      rw [List.length_map] at hl
      have hi := (List.getElem?_eq_some_iff.mp hb).1
      have hv : vs[n]? = some (vs[n]'(by omega)) := List.getElem?_eq_getElem (by omega)
      obtain ⟨a', e, hs⟩ := dp_ld (dpAll_at b hv (d := ldD bs) (by rw [List.getElem?_map, hb]; rfl))
      rw [e] at hv
      exact ⟨a', hv, hs⟩
theorem sc_checked_place : FnScope ["layout", "place"] ["layout", "place"] (defScope s_checked_place) := ⟨rfl, rfl, rfl, by decide +kernel, rfl, by decide +kernel, by decide +kernel⟩
theorem ok_checked_place {f : Addr} {fd : FuncData} (F : Fun K "_checked_place" "_checked_place" s_checked_place f fd) (LT : LyT K mg CL) {f1 : Addr} {fd1 : FuncData} (F_checked : Fun K "_checked" "_checked" s_checked f1 fd1) (b_checked : Binds K fd1 ["value", "highest"] []) (g_checked : mg "_checked" = some (.ref f1)) (G_checked : FnOk P w K mg base (L2.CX P w) 3 f1 fd1 ["value", "highest"] (spChecked K N)) : FnOk P w K mg base (L2.CX P w) 4 f fd ["layout", "place"] (spCkP K CL N) := by
  refine F.okX sc_checked_place (fun vs H Q E h => ?_) (fun cdv A outer s H vs Q E hr h => ?_)
  · obtain ⟨y, x, ds, rfl, _⟩ := h
    rfl
  · obtain ⟨y, x, ds, rfl, hL, h⟩ := h
    refine ⟨_, pss_one (ps_ret (pe_call G_checked hr (by rfl) g_checked F_checked.kp b_checked .nil (passX (takes_of rfl rfl rfl rfl)) (pa_cons (pv 1) (pa_cons (pe_op op_sub (pe_fld (pv 0) rfl) pe_int) pa_nil)))), ?_⟩
    obtain ⟨dx, p, l, s, h1, _⟩ := hL.parts
    refine ⟨_, rfl, _, rfl, y, CL, dx, _, _, rfl, h1, LT.cl, LT.nE, layF_e _ _ _ _, _, _, rfl, rfl, x, ((spread ds).length : Int) - 1, rfl, ?_⟩
    rcases h with ⟨n, rfl, hn, q⟩ | ⟨hno, q⟩
    · exact .inl ⟨n, rfl, is_ix1 hn, q⟩
    · exact .inr ⟨hno, q⟩
theorem sc_standing : FnScope ["layout", "place"] ["layout", "place"] (defScope s_standing) := ⟨rfl, rfl, rfl, by decide +kernel, rfl, by decide +kernel, by decide +kernel⟩
theorem ok_standing {f : Addr} {fd : FuncData} (F : Fun K "_standing" "_standing" s_standing f fd) (LT : LyT K mg CL) {f1 : Addr} {fd1 : FuncData} (F_checked_place : Fun K "_checked_place" "_checked_place" s_checked_place f1 fd1) (b_checked_place : Binds K fd1 ["layout", "place"] []) (g_checked_place : mg "_checked_place" = some (.ref f1)) (G_checked_place : FnOk P w K mg base (L2.CX P w) 4 f1 fd1 ["layout", "place"] (spCkP K CL N)) : FnOk P w K mg base (L2.CX P w) 5 f fd ["layout", "place"] (spStd K CL N) := by
  refine F.okX sc_standing (fun vs H Q E h => ?_) (fun cdv A outer s H vs Q E hr h => ?_)
  · obtain ⟨y, x, ds, rfl, _⟩ := h
    rfl
  · obtain ⟨y, x, ds, rfl, hL, h⟩ := h
    refine ⟨_, pss_one (ps_ret (pe_ix ix_tup (pe_fld (pv 0) rfl) (pe_call G_checked_place hr (by rfl) g_checked_place F_checked_place.kp b_checked_place .nil (passX (takes_of rfl rfl rfl rfl)) (pa_cons (pv 0) (pa_cons (pv 1) pa_nil))) (fun _ _ => rfl))), ?_⟩
    obtain ⟨dx, p, l, s, h1, _, _, zs, hz, hza⟩ := hL.parts
    refine ⟨_, rfl, y, CL, dx, _, _, rfl, h1, LT.cl, LT.nS, layF_s _ _ _ _, _, rfl, _, rfl, y, x, ds, rfl, hL, ?_⟩
    rcases h with ⟨n, t, rfl, ht, q⟩ | ⟨hno, q⟩
    · obtain ⟨a, ha1, ha2⟩ := hza n t ht
      exact .inl ⟨n, rfl, by have := (List.getElem?_eq_some_iff.mp ht).1; rw [stds_len] at this; exact this, s, zs, _, _, rfl, rfl, hz, atI_nat ha1, q a ha2⟩
    · exact .inr ⟨hno, q⟩
theorem plc_snoc {ds : List PyData} {w : Str} {i : Nat} {d : PyData} (h : (spread ds)[i]? = some d) : ((List.range (i + 1)).filter fun i => decide (headW ((spread ds).getD i .none) = w)) = ((List.range i).filter fun i => decide (headW ((spread ds).getD i .none) = w)) ++ (if headW d = w then [i] else []) := by
  have e : (spread ds).getD i .none = d := by rw [List.getD_eq_getElem?_getD, h]; rfl
  rw [List.range_succ, List.filter_append]
  congr 1
  by_cases hw : headW d = w
  · rw [if_pos hw, List.filter_cons_of_pos (by rw [e]; exact decide_eq_true hw)]
    rfl
  · rw [if_neg hw, List.filter_cons_of_neg (by rw [e]; simpa using hw)]
    rfl
theorem sc_places_of : FnScope ["layout", "word", "place", "item"] ["layout", "word"] (defScope s_places_of) := ⟨rfl, rfl, rfl, by decide +kernel, rfl, by decide +kernel, by decide +kernel⟩
theorem ok_places_of {f : Addr} {fd : FuncData} (F : Fun K "_places_of" "_places_of" s_places_of f fd) (T : Txt K mg lt0 lt1 lt2 lt3 lt4 t0 t1 t2 t3 t4 t5 t6 t7 t8 tF tO dC) (LT : LyT K mg CL) : FnOk P w K mg base CX0 1 f fd ["layout", "word"] (spPlc K CL) := by
  refine F.ok sc_places_of (fun vs H Q E h => ?_) (fun cdv A outer s H vs Q E hr h => ?_)
  · obtain ⟨y, w, ds, rfl, _⟩ := h
    rfl
  · obtain ⟨y, z, ds, rfl, hL, hit, h100, q⟩ := h
    refine ⟨_, pss_one (ps_ret (pe_lc (own := [("place", 2), ("item", 3)]) (g := gTup K 2 (gCons (gName 2) (gCons (gName 3) gNil))) rfl sc_places_of.nd (pi_enumT (by rfl) T.m_enumerate (pa_cons (pe_fld (pv 0) rfl) pa_nil)) (blkOk_by (N := ["layout", "word", "place", "item"]) (sc := defScope s_places_of) (by decide +kernel)) (fun _ _ _ _ _ => pg_tup rfl (pgs_cons (pg_name (i := 2) sc_places_of.nd rfl (.inl rfl)) (pgs_cons (pg_name (i := 3) sc_places_of.nd rfl (.inl rfl)) pgs_nil))) (fun _ _ _ _ _ => (pts_one (pt_cmpR op_eq (pe_ix (r := rIxT K) ix_tup (pv 3) pe_int (fun _ _ => rfl)) (pv 1) (nomark _)))) (fun _ _ _ _ _ => (pv 2)))), ?_⟩
    obtain ⟨dx, p, l, s, h1, ⟨ps, hp, hpa⟩, _⟩ := hL.parts
    have hpl := dpAll_len hpa
    refine ⟨_, rfl, y, CL, dx, _, _, rfl, h1, LT.cl, LT.nP, layF_p _ _ _ _, p, ps, rfl, hp, fun D hD => lc_it walk_enumT (fun j H' => Same H H' ∧ H' D = some (.lst (((List.range j).filter fun i => decide (headW ((spread ds).getD i .none) = z)).map iN))) ⟨same_upd hD, upd_same⟩ (fun j H' _ h => Same.seqT h.1 hp) ?_ ?_⟩
    · rintro m x Hd He hm ⟨s8, e8⟩ ⟨t, u, v, rfl, ht, rfl, hu, hv9⟩
      have eu : u = .int (m : Nat) := (Option.some.inj hu).symm
      subst eu
      have hv9 : ps[m]? = some v := hv9
      have hml : m < (spread ds).length := by omega
      have hd : (spread ds)[m]? = some (spread ds)[m] := List.getElem?_eq_getElem hml
      have s10 := s8.trans (same_upd (o := .tup [.int (m : Nat), v]) ht)
      have hvd := dp_same s10 _ _ (dpAll_at hpa hv9 hd)
      obtain ⟨hw, r5, hde, hhd⟩ := (hit _ (List.mem_of_getElem? hd)).head
      rw [hde] at hvd
      obtain ⟨xa, xv, rfl, hxs, hx0⟩ := dp_head hvd
      have e8' := (same_upd (o := .tup [.int (m : Nat), .ref xa]) ht) _ _ e8
      refine ⟨t, _, rfl, .inl (.inl upd_same), rfl, _, _, rfl, _, [], rfl, rfl, rfl, _, rfl, xa, xv, _, _, rfl, rfl, hxs, hx0, _, rfl, rfl, _, rfl, ite2 (fun hh => ?_) (fun hh => ?_)⟩
      · have hh : hw = z := V.str.inj (of_decide_eq_true hh)
        refine ⟨_, rfl, _, e8', ?_, same_st s10 hD, ?_⟩
        · rw [List.length_map]
          refine small1000 ?_
          have := List.length_filter_le (fun i => decide (headW ((spread ds).getD i .none) = z)) (List.range m)
          rw [List.length_range] at this
          omega
        · rw [upd_same, plc_snoc hd, hde, if_pos (show headW (.tuple (.str hw :: r5)) = z from hh), List.map_append]
          rfl
      · have hh : ¬ hw = z := fun q => hh (decide_eq_true (by rw [q]))
        refine ⟨s10, ?_⟩
        rw [e8', plc_snoc hd, hde, if_neg (show ¬ headW (.tuple (.str hw :: r5)) = z from hh), List.append_nil]
    · rintro H9 ⟨s9, e9⟩
      rw [hpl] at e9
      exact q _ D s9 hD e9
theorem sc_hr_parts : FnScope ["self"] ["self"] (defScope s_hr_parts) := ⟨rfl, rfl, rfl, by decide +kernel, rfl, by decide +kernel, by decide +kernel⟩
theorem ok_hr_parts {f : Addr} {fd : FuncData} (F : Fun K "parts" "HandRow.parts" s_hr_parts f fd) (CT : RwT K mg "HandRow" C) : FnOk P w K mg base CX0 1 f fd ["self"] (getSp C "_parts") := by
  refine F.ok sc_hr_parts (fun vs H Q E h => ?_) (fun cdv A outer s H vs Q E hr h => ?_)
  · obtain ⟨a, dx, fs, v, rfl, _⟩ := h
    rfl
  · obtain ⟨a, dx, fs, v, rfl, ha, hl, q⟩ := h
    refine ⟨_, pss_one (ps_ret (pe_fld (pv 0) rfl)), ?_⟩
    exact ⟨_, rfl, a, C, dx, fs, v, rfl, ha, CT.cl, CT.nP, hl, q⟩
theorem sc_hr_len : FnScope ["self"] ["self"] (defScope s_hr_len) := ⟨rfl, rfl, rfl, by decide +kernel, rfl, by decide +kernel, by decide +kernel⟩
theorem ok_hr_len {f : Addr} {fd : FuncData} (F : Fun K "__len__" "HandRow.__len__" s_hr_len f fd) (T : Txt K mg lt0 lt1 lt2 lt3 lt4 t0 t1 t2 t3 t4 t5 t6 t7 t8 tF tO dC) (CT : RwT K mg "HandRow" C) : FnOk P w K mg base CX0 1 f fd ["self"] (spLenH K C CL) := by
  refine F.ok sc_hr_len (fun vs H Q E h => ?_) (fun cdv A outer s H vs Q E hr h => ?_)
  · obtain ⟨r, ho, ds, rfl, _⟩ := h
    rfl
  · obtain ⟨r, ho, ds, rfl, ⟨dx, y, p, h1, hL, h2⟩, q⟩ := h
    refine ⟨_, pss_one (ps_ret (pe_callB call_len_seq (by rfl) T.m_len PySem.boot_len (pa_cons (pe_fld (pv 0) rfl) pa_nil))), ?_⟩
    obtain ⟨b, xs, eb, hs, ha, hl, h1000, hget⟩ := h2.tup
    cases eb
    refine ⟨_, rfl, r, C, dx, _, _, rfl, h1, CT.cl, CT.nP, rowFl_p _ _ _, p, xs, rfl, .inr hs, ?_⟩
    rw [hl]
    exact q
theorem sc_hr_size : FnScope ["self"] ["self"] (defScope s_hr_size) := ⟨rfl, rfl, rfl, by decide +kernel, rfl, by decide +kernel, by decide +kernel⟩
theorem ok_hr_size {f : Addr} {fd : FuncData} (F : Fun K "size" "HandRow.size" s_hr_size f fd) (CT : RwT K mg "HandRow" C) (LT : LyT K mg CL) : FnOk P w K mg base CX0 1 f fd ["self"] (spSize K C CL) := by
  refine F.ok sc_hr_size (fun vs H Q E h => ?_) (fun cdv A outer s H vs Q E hr h => ?_)
  · obtain ⟨r, ho, ds, rfl, _⟩ := h
    rfl
  · obtain ⟨r, ho, ds, rfl, ⟨dx, y, p, h1, hL, h2⟩, q⟩ := h
    refine ⟨_, pss_one (ps_ret (pe_fld (pe_fld (pv 0) rfl) rfl)), ?_⟩
    obtain ⟨dy, p', l, s, g1, _⟩ := hL.parts
    exact ⟨_, rfl, r, C, dx, _, _, rfl, h1, CT.cl, CT.nY, rowFl_y _ _ _, y, CL, dy, _, _, rfl, g1, LT.cl, LT.nE, layF_e _ _ _ _, q⟩
theorem sc_hr_opening : FnScope ["self"] ["self"] (defScope s_hr_opening) := ⟨rfl, rfl, rfl, by decide +kernel, rfl, by decide +kernel, by decide +kernel⟩
theorem ok_hr_opening {f : Addr} {fd : FuncData} (F : Fun K "opening" "HandRow.opening" s_hr_opening f fd) (CT : RwT K mg "HandRow" C) : FnOk P w K mg base CX0 1 f fd ["self"] (spOpn K C CL) := by
  refine F.ok sc_hr_opening (fun vs H Q E h => ?_) (fun cdv A outer s H vs Q E hr h => ?_)
  · obtain ⟨r, o, ds, rfl, _⟩ := h
    rfl
  · obtain ⟨r, o, ds, rfl, ⟨dx, y, p, h1, hL, h2⟩, q⟩ := h
    refine ⟨_, pss_one (ps_ret (pe_fld (pv 0) rfl)), ?_⟩
    exact ⟨_, rfl, r, C, dx, _, _, rfl, h1, CT.cl, CT.nO, rowFl_o _ _ _, q⟩
theorem sc_hr_item : FnScope ["self", "place"] ["self", "place"] (defScope s_hr_item) := ⟨rfl, rfl, rfl, by decide +kernel, rfl, by decide +kernel, by decide +kernel⟩
theorem ok_hr_item {f : Addr} {fd : FuncData} (F : Fun K "item" "HandRow.item" s_hr_item f fd) (CT : RwT K mg "HandRow" C) (LT : LyT K mg CL) {f1 : Addr} {fd1 : FuncData} (F_checked_place : Fun K "_checked_place" "_checked_place" s_checked_place f1 fd1) (b_checked_place : Binds K fd1 ["layout", "place"] []) (g_checked_place : mg "_checked_place" = some (.ref f1)) (G_checked_place : FnOk P w K mg base (L2.CX P w) 4 f1 fd1 ["layout", "place"] (spCkP K CL N)) : FnOk P w K mg base (L2.CX P w) 5 f fd ["self", "place"] (spAt K C CL N (RItem K)) := by
  refine F.okX sc_hr_item (fun vs H Q E h => ?_) (fun cdv A outer s H vs Q E hr h => ?_)
  · obtain ⟨r, x, ho, ds, rfl, _⟩ := h
    rfl
  · obtain ⟨r, x, ho, ds, rfl, ⟨dx, y, p, h1, hL, h2⟩, h⟩ := h
    refine ⟨_, pss_one (ps_ret (pe_ix ix_tup (pe_fld (pe_fld (pv 0) rfl) rfl) (pe_call G_checked_place hr (by rfl) g_checked_place F_checked_place.kp b_checked_place .nil (passX (takes_of rfl rfl rfl rfl)) (pa_cons (pe_fld (pv 0) rfl) (pa_cons (pv 1) pa_nil))) (fun _ _ => rfl))), ?_⟩
    obtain ⟨dy, p', l, s, g1, ⟨ps, hp, hpa⟩, ⟨ls, hls, hla⟩, _⟩ := hL.parts
    refine ⟨_, rfl, r, C, dx, _, _, rfl, h1, CT.cl, CT.nY, rowFl_y _ _ _, y, CL, dy, _, _, rfl, g1, LT.cl, LT.nP, layF_p _ _ _ _, _, rfl, r, C, dx, _, _, rfl, h1, CT.cl, CT.nY, rowFl_y _ _ _, _, rfl, y, x, ds, rfl, hL, ?_⟩
    rcases h with ⟨n, rfl, hn, q⟩ | ⟨hno, q⟩
    · have hpl := dpAll_len hpa
      have hv : ps[n]? = some (ps[n]'(by omega)) := List.getElem?_eq_getElem (by omega)
      have hd : (spread ds)[n]? = some (spread ds)[n] := List.getElem?_eq_getElem hn
      exact .inl ⟨n, rfl, hn, p', ps, _, _, rfl, rfl, hp, atI_nat hv, q _ ⟨_, hd, dpAll_at hpa hv hd⟩⟩
    · exact .inr ⟨hno, q⟩
theorem sc_hr_nexts : FnScope ["self", "place"] ["self", "place"] (defScope s_hr_nexts) := ⟨rfl, rfl, rfl, by decide +kernel, rfl, by decide +kernel, by decide +kernel⟩
theorem ok_hr_nexts {f : Addr} {fd : FuncData} (F : Fun K "nexts" "HandRow.nexts" s_hr_nexts f fd) (CT : RwT K mg "HandRow" C) (LT : LyT K mg CL) {f1 : Addr} {fd1 : FuncData} (F_checked_place : Fun K "_checked_place" "_checked_place" s_checked_place f1 fd1) (b_checked_place : Binds K fd1 ["layout", "place"] []) (g_checked_place : mg "_checked_place" = some (.ref f1)) (G_checked_place : FnOk P w K mg base (L2.CX P w) 4 f1 fd1 ["layout", "place"] (spCkP K CL N)) : FnOk P w K mg base (L2.CX P w) 5 f fd ["self", "place"] (spAt K C CL N (RNext K)) := by
  refine F.okX sc_hr_nexts (fun vs H Q E h => ?_) (fun cdv A outer s H vs Q E hr h => ?_)
  · obtain ⟨r, x, ho, ds, rfl, _⟩ := h
    rfl
  · obtain ⟨r, x, ho, ds, rfl, ⟨dx, y, p, h1, hL, h2⟩, h⟩ := h
    refine ⟨_, pss_one (ps_ret (pe_ix ix_tup (pe_fld (pe_fld (pv 0) rfl) rfl) (pe_call G_checked_place hr (by rfl) g_checked_place F_checked_place.kp b_checked_place .nil (passX (takes_of rfl rfl rfl rfl)) (pa_cons (pe_fld (pv 0) rfl) (pa_cons (pv 1) pa_nil))) (fun _ _ => rfl))), ?_⟩
    obtain ⟨dy, p', l, s, g1, ⟨ps, hp, hpa⟩, ⟨ls, hls, hla⟩, _⟩ := hL.parts
    refine ⟨_, rfl, r, C, dx, _, _, rfl, h1, CT.cl, CT.nY, rowFl_y _ _ _, y, CL, dy, _, _, rfl, g1, LT.cl, LT.nL, layF_l _ _ _ _, _, rfl, r, C, dx, _, _, rfl, h1, CT.cl, CT.nY, rowFl_y _ _ _, _, rfl, y, x, ds, rfl, hL, ?_⟩
    rcases h with ⟨n, rfl, hn, q⟩ | ⟨hno, q⟩
    · have hll := leads_len (spread ds).length ds 0
      have hb : (leads (spread ds).length 0 ds)[n]? = some ((leads (spread ds).length 0 ds)[n]'(by omega)) := List.getElem?_eq_getElem (by omega)
      obtain ⟨a, ha1, ha2⟩ := hla n _ hb
      exact .inl ⟨n, rfl, hn, l, ls, _, _, rfl, rfl, hls, atI_nat ha1, q _ ⟨_, a, hb, rfl, ha2⟩⟩
    · exact .inr ⟨hno, q⟩
theorem sc_hr_holds : FnScope ["self", "place"] ["self", "place"] (defScope s_hr_holds) := ⟨rfl, rfl, rfl, by decide +kernel, rfl, by decide +kernel, by decide +kernel⟩
theorem ok_hr_holds {f : Addr} {fd : FuncData} (F : Fun K "holds" "HandRow.holds" s_hr_holds f fd) (CT : RwT K mg "HandRow" C) {f1 : Addr} {fd1 : FuncData} (F_standing : Fun K "_standing" "_standing" s_standing f1 fd1) (b_standing : Binds K fd1 ["layout", "place"] []) (g_standing : mg "_standing" = some (.ref f1)) (G_standing : FnOk P w K mg base (L2.CX P w) 5 f1 fd1 ["layout", "place"] (spStd K CL N)) : FnOk P w K mg base (L2.CX P w) 6 f fd ["self", "place"] (spAt K C CL N (RFlag 0)) := by
  refine F.okX sc_hr_holds (fun vs H Q E h => ?_) (fun cdv A outer s H vs Q E hr h => ?_)
  · obtain ⟨r, x, ho, ds, rfl, _⟩ := h
    rfl
  · obtain ⟨r, x, ho, ds, rfl, ⟨dx, y, p, h1, hL, h2⟩, h⟩ := h
    refine ⟨_, pss_one (ps_ret (pe_ix ix_tup (pe_call G_standing hr (by rfl) g_standing F_standing.kp b_standing .nil (passX (takes_of rfl rfl rfl rfl)) (pa_cons (pe_fld (pv 0) rfl) (pa_cons (pv 1) pa_nil))) pe_int (fun _ _ => rfl))), ?_⟩
    refine ⟨_, rfl, r, C, dx, _, _, rfl, h1, CT.cl, CT.nY, rowFl_y _ _ _, _, rfl, y, x, ds, rfl, hL, ?_⟩
    rcases h with ⟨n, rfl, hn, q⟩ | ⟨hno, q⟩
    · have ht : (stds ds)[n]? = some ((stds ds)[n]'(by rw [stds_len]; exact hn)) := List.getElem?_eq_getElem (by rw [stds_len]; exact hn)
      exact .inl ⟨n, _, rfl, ht, fun a ha => ⟨a, _, _, _, rfl, rfl, ha, atI_nat (j := 0) rfl, q _ ⟨_, ht, rfl⟩⟩⟩
    · exact .inr ⟨hno, q⟩
theorem sc_hr_under : FnScope ["self", "place"] ["self", "place"] (defScope s_hr_under) := ⟨rfl, rfl, rfl, by decide +kernel, rfl, by decide +kernel, by decide +kernel⟩
theorem ok_hr_under {f : Addr} {fd : FuncData} (F : Fun K "is_under" "HandRow.is_under" s_hr_under f fd) (CT : RwT K mg "HandRow" C) {f1 : Addr} {fd1 : FuncData} (F_standing : Fun K "_standing" "_standing" s_standing f1 fd1) (b_standing : Binds K fd1 ["layout", "place"] []) (g_standing : mg "_standing" = some (.ref f1)) (G_standing : FnOk P w K mg base (L2.CX P w) 5 f1 fd1 ["layout", "place"] (spStd K CL N)) : FnOk P w K mg base (L2.CX P w) 6 f fd ["self", "place"] (spAt K C CL N (RFlag 1)) := by
  refine F.okX sc_hr_under (fun vs H Q E h => ?_) (fun cdv A outer s H vs Q E hr h => ?_)
  · obtain ⟨r, x, ho, ds, rfl, _⟩ := h
    rfl
  · obtain ⟨r, x, ho, ds, rfl, ⟨dx, y, p, h1, hL, h2⟩, h⟩ := h
    refine ⟨_, pss_one (ps_ret (pe_ix ix_tup (pe_call G_standing hr (by rfl) g_standing F_standing.kp b_standing .nil (passX (takes_of rfl rfl rfl rfl)) (pa_cons (pe_fld (pv 0) rfl) (pa_cons (pv 1) pa_nil))) pe_int (fun _ _ => rfl))), ?_⟩
    refine ⟨_, rfl, r, C, dx, _, _, rfl, h1, CT.cl, CT.nY, rowFl_y _ _ _, _, rfl, y, x, ds, rfl, hL, ?_⟩
    rcases h with ⟨n, rfl, hn, q⟩ | ⟨hno, q⟩
    · have ht : (stds ds)[n]? = some ((stds ds)[n]'(by rw [stds_len]; exact hn)) := List.getElem?_eq_getElem (by rw [stds_len]; exact hn)
      exact .inl ⟨n, _, rfl, ht, fun a ha => ⟨a, _, _, _, rfl, rfl, ha, atI_nat (j := 1) rfl, q _ ⟨_, ht, rfl⟩⟩⟩
    · exact .inr ⟨hno, q⟩
theorem sc_hr_locked : FnScope ["self", "place"] ["self", "place"] (defScope s_hr_locked) := ⟨rfl, rfl, rfl, by decide +kernel, rfl, by decide +kernel, by decide +kernel⟩
theorem ok_hr_locked {f : Addr} {fd : FuncData} (F : Fun K "is_locked" "HandRow.is_locked" s_hr_locked f fd) (CT : RwT K mg "HandRow" C) {f1 : Addr} {fd1 : FuncData} (F_standing : Fun K "_standing" "_standing" s_standing f1 fd1) (b_standing : Binds K fd1 ["layout", "place"] []) (g_standing : mg "_standing" = some (.ref f1)) (G_standing : FnOk P w K mg base (L2.CX P w) 5 f1 fd1 ["layout", "place"] (spStd K CL N)) : FnOk P w K mg base (L2.CX P w) 6 f fd ["self", "place"] (spAt K C CL N (RFlag 2)) := by
  refine F.okX sc_hr_locked (fun vs H Q E h => ?_) (fun cdv A outer s H vs Q E hr h => ?_)
  · obtain ⟨r, x, ho, ds, rfl, _⟩ := h
    rfl
  · obtain ⟨r, x, ho, ds, rfl, ⟨dx, y, p, h1, hL, h2⟩, h⟩ := h
    refine ⟨_, pss_one (ps_ret (pe_ix ix_tup (pe_call G_standing hr (by rfl) g_standing F_standing.kp b_standing .nil (passX (takes_of rfl rfl rfl rfl)) (pa_cons (pe_fld (pv 0) rfl) (pa_cons (pv 1) pa_nil))) pe_int (fun _ _ => rfl))), ?_⟩
    refine ⟨_, rfl, r, C, dx, _, _, rfl, h1, CT.cl, CT.nY, rowFl_y _ _ _, _, rfl, y, x, ds, rfl, hL, ?_⟩
    rcases h with ⟨n, rfl, hn, q⟩ | ⟨hno, q⟩
    · have ht : (stds ds)[n]? = some ((stds ds)[n]'(by rw [stds_len]; exact hn)) := List.getElem?_eq_getElem (by rw [stds_len]; exact hn)
      exact .inl ⟨n, _, rfl, ht, fun a ha => ⟨a, _, _, _, rfl, rfl, ha, atI_nat (j := 2) rfl, q _ ⟨_, ht, rfl⟩⟩⟩
    · exact .inr ⟨hno, q⟩
theorem sc_hr_places : FnScope ["self", "word"] ["self", "word"] (defScope s_hr_places) := ⟨rfl, rfl, rfl, by decide +kernel, rfl, by decide +kernel, by decide +kernel⟩
theorem ok_hr_places {f : Addr} {fd : FuncData} (F : Fun K "places_of" "HandRow.places_of" s_hr_places f fd) (CT : RwT K mg "HandRow" C) {f1 : Addr} {fd1 : FuncData} (F_places_of : Fun K "_places_of" "_places_of" s_places_of f1 fd1) (b_places_of : Binds K fd1 ["layout", "word"] []) (g_places_of : mg "_places_of" = some (.ref f1)) (G_places_of : FnOk P w K mg base CX0 1 f1 fd1 ["layout", "word"] (spPlc K CL)) : FnOk P w K mg base CX0 2 f fd ["self", "word"] (spPlcR K C CL) := by
  refine F.ok sc_hr_places (fun vs H Q E h => ?_) (fun cdv A outer s H vs Q E hr h => ?_)
  · obtain ⟨r, x, ho, ds, rfl, _⟩ := h
    rfl
  · obtain ⟨r, z, ho, ds, rfl, ⟨dx, y, p, h1, hL, h2⟩, hit, h100, q⟩ := h
    refine ⟨_, pss_one (ps_ret (pe_call G_places_of hr (by rfl) g_places_of F_places_of.kp b_places_of .nil pass0 (pa_cons (pe_fld (pv 0) rfl) (pa_cons (pv 1) pa_nil)))), ?_⟩
    exact ⟨_, rfl, r, C, dx, _, _, rfl, h1, CT.cl, CT.nY, rowFl_y _ _ _, _, rfl, y, z, ds, rfl, hL, hit, h100, q⟩
theorem sc_wr_parts : FnScope ["self"] ["self"] (defScope s_wr_parts) := ⟨rfl, rfl, rfl, by decide +kernel, rfl, by decide +kernel, by decide +kernel⟩
theorem ok_wr_parts {f : Addr} {fd : FuncData} (F : Fun K "parts" "WorkRow.parts" s_wr_parts f fd) (CT : RwT K mg "WorkRow" C) : FnOk P w K mg base CX0 1 f fd ["self"] (getSp C "_parts") := by
  refine F.ok sc_wr_parts (fun vs H Q E h => ?_) (fun cdv A outer s H vs Q E hr h => ?_)
  · obtain ⟨a, dx, fs, v, rfl, _⟩ := h
    rfl
  · obtain ⟨a, dx, fs, v, rfl, ha, hl, q⟩ := h
    refine ⟨_, pss_one (ps_ret (pe_fld (pv 0) rfl)), ?_⟩
    exact ⟨_, rfl, a, C, dx, fs, v, rfl, ha, CT.cl, CT.nP, hl, q⟩
theorem sc_wr_len : FnScope ["self"] ["self"] (defScope s_wr_len) := ⟨rfl, rfl, rfl, by decide +kernel, rfl, by decide +kernel, by decide +kernel⟩
theorem ok_wr_len {f : Addr} {fd : FuncData} (F : Fun K "__len__" "WorkRow.__len__" s_wr_len f fd) (T : Txt K mg lt0 lt1 lt2 lt3 lt4 t0 t1 t2 t3 t4 t5 t6 t7 t8 tF tO dC) (CT : RwT K mg "WorkRow" C) : FnOk P w K mg base CX0 1 f fd ["self"] (spLenH K C CL) := by
  refine F.ok sc_wr_len (fun vs H Q E h => ?_) (fun cdv A outer s H vs Q E hr h => ?_)
  · obtain ⟨r, ho, ds, rfl, _⟩ := h
    rfl
  · obtain ⟨r, ho, ds, rfl, ⟨dx, y, p, h1, hL, h2⟩, q⟩ := h
    refine ⟨_, pss_one (ps_ret (pe_callB call_len_seq (by rfl) T.m_len PySem.boot_len (pa_cons (pe_fld (pv 0) rfl) pa_nil))), ?_⟩
    obtain ⟨b, xs, eb, hs, ha, hl, h1000, hget⟩ := h2.tup
    cases eb
    refine ⟨_, rfl, r, C, dx, _, _, rfl, h1, CT.cl, CT.nP, rowFl_p _ _ _, p, xs, rfl, .inr hs, ?_⟩
    rw [hl]
    exact q
theorem sc_wr_size : FnScope ["self"] ["self"] (defScope s_wr_size) := ⟨rfl, rfl, rfl, by decide +kernel, rfl, by decide +kernel, by decide +kernel⟩
theorem ok_wr_size {f : Addr} {fd : FuncData} (F : Fun K "size" "WorkRow.size" s_wr_size f fd) (CT : RwT K mg "WorkRow" C) (LT : LyT K mg CL) : FnOk P w K mg base CX0 1 f fd ["self"] (spSize K C CL) := by
  refine F.ok sc_wr_size (fun vs H Q E h => ?_) (fun cdv A outer s H vs Q E hr h => ?_)
  · obtain ⟨r, ho, ds, rfl, _⟩ := h
    rfl
  · obtain ⟨r, ho, ds, rfl, ⟨dx, y, p, h1, hL, h2⟩, q⟩ := h
    refine ⟨_, pss_one (ps_ret (pe_fld (pe_fld (pv 0) rfl) rfl)), ?_⟩
    obtain ⟨dy, p', l, s, g1, _⟩ := hL.parts
    exact ⟨_, rfl, r, C, dx, _, _, rfl, h1, CT.cl, CT.nY, rowFl_y _ _ _, y, CL, dy, _, _, rfl, g1, LT.cl, LT.nE, layF_e _ _ _ _, q⟩
theorem sc_wr_item : FnScope ["self", "place"] ["self", "place"] (defScope s_wr_item) := ⟨rfl, rfl, rfl, by decide +kernel, rfl, by decide +kernel, by decide +kernel⟩
theorem ok_wr_item {f : Addr} {fd : FuncData} (F : Fun K "item" "WorkRow.item" s_wr_item f fd) (CT : RwT K mg "WorkRow" C) (LT : LyT K mg CL) {f1 : Addr} {fd1 : FuncData} (F_checked_place : Fun K "_checked_place" "_checked_place" s_checked_place f1 fd1) (b_checked_place : Binds K fd1 ["layout", "place"] []) (g_checked_place : mg "_checked_place" = some (.ref f1)) (G_checked_place : FnOk P w K mg base (L2.CX P w) 4 f1 fd1 ["layout", "place"] (spCkP K CL N)) : FnOk P w K mg base (L2.CX P w) 5 f fd ["self", "place"] (spAt K C CL N (RItem K)) := by
  refine F.okX sc_wr_item (fun vs H Q E h => ?_) (fun cdv A outer s H vs Q E hr h => ?_)
  · obtain ⟨r, x, ho, ds, rfl, _⟩ := h
    rfl
  · obtain ⟨r, x, ho, ds, rfl, ⟨dx, y, p, h1, hL, h2⟩, h⟩ := h
    refine ⟨_, pss_one (ps_ret (pe_ix ix_tup (pe_fld (pe_fld (pv 0) rfl) rfl) (pe_call G_checked_place hr (by rfl) g_checked_place F_checked_place.kp b_checked_place .nil (passX (takes_of rfl rfl rfl rfl)) (pa_cons (pe_fld (pv 0) rfl) (pa_cons (pv 1) pa_nil))) (fun _ _ => rfl))), ?_⟩
    obtain ⟨dy, p', l, s, g1, ⟨ps, hp, hpa⟩, ⟨ls, hls, hla⟩, _⟩ := hL.parts
    refine ⟨_, rfl, r, C, dx, _, _, rfl, h1, CT.cl, CT.nY, rowFl_y _ _ _, y, CL, dy, _, _, rfl, g1, LT.cl, LT.nP, layF_p _ _ _ _, _, rfl, r, C, dx, _, _, rfl, h1, CT.cl, CT.nY, rowFl_y _ _ _, _, rfl, y, x, ds, rfl, hL, ?_⟩
    rcases h with ⟨n, rfl, hn, q⟩ | ⟨hno, q⟩
    · have hpl := dpAll_len hpa
      have hv : ps[n]? = some (ps[n]'(by omega)) := List.getElem?_eq_getElem (by omega)
      have hd : (spread ds)[n]? = some (spread ds)[n] := List.getElem?_eq_getElem hn
      exact .inl ⟨n, rfl, hn, p', ps, _, _, rfl, rfl, hp, atI_nat hv, q _ ⟨_, hd, dpAll_at hpa hv hd⟩⟩
    · exact .inr ⟨hno, q⟩
theorem sc_wr_nexts : FnScope ["self", "place"] ["self", "place"] (defScope s_wr_nexts) := ⟨rfl, rfl, rfl, by decide +kernel, rfl, by decide +kernel, by decide +kernel⟩
theorem ok_wr_nexts {f : Addr} {fd : FuncData} (F : Fun K "nexts" "WorkRow.nexts" s_wr_nexts f fd) (CT : RwT K mg "WorkRow" C) (LT : LyT K mg CL) {f1 : Addr} {fd1 : FuncData} (F_checked_place : Fun K "_checked_place" "_checked_place" s_checked_place f1 fd1) (b_checked_place : Binds K fd1 ["layout", "place"] []) (g_checked_place : mg "_checked_place" = some (.ref f1)) (G_checked_place : FnOk P w K mg base (L2.CX P w) 4 f1 fd1 ["layout", "place"] (spCkP K CL N)) : FnOk P w K mg base (L2.CX P w) 5 f fd ["self", "place"] (spAt K C CL N (RNext K)) := by
  refine F.okX sc_wr_nexts (fun vs H Q E h => ?_) (fun cdv A outer s H vs Q E hr h => ?_)
  · obtain ⟨r, x, ho, ds, rfl, _⟩ := h
    rfl
  · obtain ⟨r, x, ho, ds, rfl, ⟨dx, y, p, h1, hL, h2⟩, h⟩ := h
    refine ⟨_, pss_one (ps_ret (pe_ix ix_tup (pe_fld (pe_fld (pv 0) rfl) rfl) (pe_call G_checked_place hr (by rfl) g_checked_place F_checked_place.kp b_checked_place .nil (passX (takes_of rfl rfl rfl rfl)) (pa_cons (pe_fld (pv 0) rfl) (pa_cons (pv 1) pa_nil))) (fun _ _ => rfl))), ?_⟩
    obtain ⟨dy, p', l, s, g1, ⟨ps, hp, hpa⟩, ⟨ls, hls, hla⟩, _⟩ := hL.parts
    refine ⟨_, rfl, r, C, dx, _, _, rfl, h1, CT.cl, CT.nY, rowFl_y _ _ _, y, CL, dy, _, _, rfl, g1, LT.cl, LT.nL, layF_l _ _ _ _, _, rfl, r, C, dx, _, _, rfl, h1, CT.cl, CT.nY, rowFl_y _ _ _, _, rfl, y, x, ds, rfl, hL, ?_⟩
    rcases h with ⟨n, rfl, hn, q⟩ | ⟨hno, q⟩
    · have hll := leads_len (spread ds).length ds 0
      have hb : (leads (spread ds).length 0 ds)[n]? = some ((leads (spread ds).length 0 ds)[n]'(by omega)) := List.getElem?_eq_getElem (by omega)
      obtain ⟨a, ha1, ha2⟩ := hla n _ hb
      exact .inl ⟨n, rfl, hn, l, ls, _, _, rfl, rfl, hls, atI_nat ha1, q _ ⟨_, a, hb, rfl, ha2⟩⟩
    · exact .inr ⟨hno, q⟩
theorem sc_wr_holds : FnScope ["self", "place"] ["self", "place"] (defScope s_wr_holds) := ⟨rfl, rfl, rfl, by decide +kernel, rfl, by decide +kernel, by decide +kernel⟩
theorem ok_wr_holds {f : Addr} {fd : FuncData} (F : Fun K "holds" "WorkRow.holds" s_wr_holds f fd) (CT : RwT K mg "WorkRow" C) {f1 : Addr} {fd1 : FuncData} (F_standing : Fun K "_standing" "_standing" s_standing f1 fd1) (b_standing : Binds K fd1 ["layout", "place"] []) (g_standing : mg "_standing" = some (.ref f1)) (G_standing : FnOk P w K mg base (L2.CX P w) 5 f1 fd1 ["layout", "place"] (spStd K CL N)) : FnOk P w K mg base (L2.CX P w) 6 f fd ["self", "place"] (spAt K C CL N (RFlag 0)) := by
  refine F.okX sc_wr_holds (fun vs H Q E h => ?_) (fun cdv A outer s H vs Q E hr h => ?_)
  · obtain ⟨r, x, ho, ds, rfl, _⟩ := h
    rfl
  · obtain ⟨r, x, ho, ds, rfl, ⟨dx, y, p, h1, hL, h2⟩, h⟩ := h
    refine ⟨_, pss_one (ps_ret (pe_ix ix_tup (pe_call G_standing hr (by rfl) g_standing F_standing.kp b_standing .nil (passX (takes_of rfl rfl rfl rfl)) (pa_cons (pe_fld (pv 0) rfl) (pa_cons (pv 1) pa_nil))) pe_int (fun _ _ => rfl))), ?_⟩
    refine ⟨_, rfl, r, C, dx, _, _, rfl, h1, CT.cl, CT.nY, rowFl_y _ _ _, _, rfl, y, x, ds, rfl, hL, ?_⟩
    rcases h with ⟨n, rfl, hn, q⟩ | ⟨hno, q⟩
    · have ht : (stds ds)[n]? = some ((stds ds)[n]'(by rw [stds_len]; exact hn)) := List.getElem?_eq_getElem (by rw [stds_len]; exact hn)
      exact .inl ⟨n, _, rfl, ht, fun a ha => ⟨a, _, _, _, rfl, rfl, ha, atI_nat (j := 0) rfl, q _ ⟨_, ht, rfl⟩⟩⟩
    · exact .inr ⟨hno, q⟩
theorem sc_wr_under : FnScope ["self", "place"] ["self", "place"] (defScope s_wr_under) := ⟨rfl, rfl, rfl, by decide +kernel, rfl, by decide +kernel, by decide +kernel⟩
theorem ok_wr_under {f : Addr} {fd : FuncData} (F : Fun K "is_under" "WorkRow.is_under" s_wr_under f fd) (CT : RwT K mg "WorkRow" C) {f1 : Addr} {fd1 : FuncData} (F_standing : Fun K "_standing" "_standing" s_standing f1 fd1) (b_standing : Binds K fd1 ["layout", "place"] []) (g_standing : mg "_standing" = some (.ref f1)) (G_standing : FnOk P w K mg base (L2.CX P w) 5 f1 fd1 ["layout", "place"] (spStd K CL N)) : FnOk P w K mg base (L2.CX P w) 6 f fd ["self", "place"] (spAt K C CL N (RFlag 1)) := by
  refine F.okX sc_wr_under (fun vs H Q E h => ?_) (fun cdv A outer s H vs Q E hr h => ?_)
  · obtain ⟨r, x, ho, ds, rfl, _⟩ := h
    rfl
  · obtain ⟨r, x, ho, ds, rfl, ⟨dx, y, p, h1, hL, h2⟩, h⟩ := h
    refine ⟨_, pss_one (ps_ret (pe_ix ix_tup (pe_call G_standing hr (by rfl) g_standing F_standing.kp b_standing .nil (passX (takes_of rfl rfl rfl rfl)) (pa_cons (pe_fld (pv 0) rfl) (pa_cons (pv 1) pa_nil))) pe_int (fun _ _ => rfl))), ?_⟩
    refine ⟨_, rfl, r, C, dx, _, _, rfl, h1, CT.cl, CT.nY, rowFl_y _ _ _, _, rfl, y, x, ds, rfl, hL, ?_⟩
    rcases h with ⟨n, rfl, hn, q⟩ | ⟨hno, q⟩
    · have ht : (stds ds)[n]? = some ((stds ds)[n]'(by rw [stds_len]; exact hn)) := List.getElem?_eq_getElem (by rw [stds_len]; exact hn)
      exact .inl ⟨n, _, rfl, ht, fun a ha => ⟨a, _, _, _, rfl, rfl, ha, atI_nat (j := 1) rfl, q _ ⟨_, ht, rfl⟩⟩⟩
    · exact .inr ⟨hno, q⟩
theorem sc_wr_locked : FnScope ["self", "place"] ["self", "place"] (defScope s_wr_locked) := ⟨rfl, rfl, rfl, by decide +kernel, rfl, by decide +kernel, by decide +kernel⟩
theorem ok_wr_locked {f : Addr} {fd : FuncData} (F : Fun K "is_locked" "WorkRow.is_locked" s_wr_locked f fd) (CT : RwT K mg "WorkRow" C) {f1 : Addr} {fd1 : FuncData} (F_standing : Fun K "_standing" "_standing" s_standing f1 fd1) (b_standing : Binds K fd1 ["layout", "place"] []) (g_standing : mg "_standing" = some (.ref f1)) (G_standing : FnOk P w K mg base (L2.CX P w) 5 f1 fd1 ["layout", "place"] (spStd K CL N)) : FnOk P w K mg base (L2.CX P w) 6 f fd ["self", "place"] (spAt K C CL N (RFlag 2)) := by
  refine F.okX sc_wr_locked (fun vs H Q E h => ?_) (fun cdv A outer s H vs Q E hr h => ?_)
  · obtain ⟨r, x, ho, ds, rfl, _⟩ := h
    rfl
  · obtain ⟨r, x, ho, ds, rfl, ⟨dx, y, p, h1, hL, h2⟩, h⟩ := h
    refine ⟨_, pss_one (ps_ret (pe_ix ix_tup (pe_call G_standing hr (by rfl) g_standing F_standing.kp b_standing .nil (passX (takes_of rfl rfl rfl rfl)) (pa_cons (pe_fld (pv 0) rfl) (pa_cons (pv 1) pa_nil))) pe_int (fun _ _ => rfl))), ?_⟩
    refine ⟨_, rfl, r, C, dx, _, _, rfl, h1, CT.cl, CT.nY, rowFl_y _ _ _, _, rfl, y, x, ds, rfl, hL, ?_⟩
    rcases h with ⟨n, rfl, hn, q⟩ | ⟨hno, q⟩
    · have ht : (stds ds)[n]? = some ((stds ds)[n]'(by rw [stds_len]; exact hn)) := List.getElem?_eq_getElem (by rw [stds_len]; exact hn)
      exact .inl ⟨n, _, rfl, ht, fun a ha => ⟨a, _, _, _, rfl, rfl, ha, atI_nat (j := 2) rfl, q _ ⟨_, ht, rfl⟩⟩⟩
    · exact .inr ⟨hno, q⟩
theorem sc_wr_places : FnScope ["self", "word"] ["self", "word"] (defScope s_wr_places) := ⟨rfl, rfl, rfl, by decide +kernel, rfl, by decide +kernel, by decide +kernel⟩
theorem ok_wr_places {f : Addr} {fd : FuncData} (F : Fun K "places_of" "WorkRow.places_of" s_wr_places f fd) (CT : RwT K mg "WorkRow" C) {f1 : Addr} {fd1 : FuncData} (F_places_of : Fun K "_places_of" "_places_of" s_places_of f1 fd1) (b_places_of : Binds K fd1 ["layout", "word"] []) (g_places_of : mg "_places_of" = some (.ref f1)) (G_places_of : FnOk P w K mg base CX0 1 f1 fd1 ["layout", "word"] (spPlc K CL)) : FnOk P w K mg base CX0 2 f fd ["self", "word"] (spPlcR K C CL) := by
  refine F.ok sc_wr_places (fun vs H Q E h => ?_) (fun cdv A outer s H vs Q E hr h => ?_)
  · obtain ⟨r, x, ho, ds, rfl, _⟩ := h
    rfl
  · obtain ⟨r, z, ho, ds, rfl, ⟨dx, y, p, h1, hL, h2⟩, hit, h100, q⟩ := h
    refine ⟨_, pss_one (ps_ret (pe_call G_places_of hr (by rfl) g_places_of F_places_of.kp b_places_of .nil pass0 (pa_cons (pe_fld (pv 0) rfl) (pa_cons (pv 1) pa_nil)))), ?_⟩
    exact ⟨_, rfl, r, C, dx, _, _, rfl, h1, CT.cl, CT.nY, rowFl_y _ _ _, _, rfl, y, z, ds, rfl, hL, hit, h100, q⟩
theorem sc_hr_of : FnScope ["items"] ["items"] (defScope sHR_of) := ⟨rfl, rfl, rfl, by decide +kernel, rfl, by decide +kernel, by decide +kernel⟩
def spHrOf (K : PySem.W.Frag) (C CL : Addr) : Sp := fun vs H Q _ => ∃ (x : V) (d : PyData) (ds : List PyData) (ho : Option Nat), vs = [x] ∧ Val K H x d ∧ rowOf d = some ds ∧ RowK (ho.getD 0) wNotB ds ∧ (true = true → ∃ o, ho = some o ∧ OpenK o ds) ∧ (true = false → ho = none) ∧ ∀ H' r, Same H H' → H r = none → RowH K C CL H' r ho ds → Q (.ref r) H'
theorem ok_hr_of {C CL f : Addr} {fd : FuncData} (F : Fun K "of" "HandRow.of" sHR_of f fd) (T : Txt K mg lt0 lt1 lt2 lt3 lt4 t0 t1 t2 t3 t4 t5 t6 t7 t8 tF tO dC) (CT : RwT K mg "HandRow" C) {S fS : Addr} (TS : ExT K mg "InvalidItem" "number" S fS) {fdS : FuncData} (bS : Binds K fdS ["self", "number"] []) (GS : FnOk P w K mg base CX0 1 fS fdS ["self", "number"] (spExI S "number")) {fI : Addr} (M : Mk K C fI) (GI : FnR P w K mg base (L2.CX P w) 8 fI (spStar 1 (spRowHI K C CL true wNotB))) : FnOk P w K mg base (L2.CX P w) 10 f fd ["items"] (spHrOf K C CL) := by
  refine F.okX sc_hr_of (fun vs H Q E h => ?_) (fun cdv A outer s H vs Q E hr h => ?_)
  · obtain ⟨x, d, ds, ho, rfl, _⟩ := h
    rfl
  · obtain ⟨x, d, ds, ho, rfl, hv, e, g, hop, hno, q⟩ := h
    have hr2 : Room 2 _ := hr.mono (by decide)
    refine ⟨_, (pss_cons (ps_if (pt_not (pt_val (pe_callB call_isiT (by rfl) T.m_isinstance (by decide +kernel) (pa_cons (pv 0) (pa_cons (pe_tup (pa_cons (pe_bltn (v := .ty "tuple") (u := .type "tuple") (by rfl) T.m_tuple (by decide +kernel) rfl) (pa_cons (pe_bltn (v := .ty "list") (u := .type "list") (by rfl) T.m_list (by decide +kernel) rfl) pa_nil))) pa_nil)))))
        (pss_one (ps_raise rfl (takes_of rfl rfl rfl rfl) (pmk_oex TS.o TS.i TS.t GS hr2 bS .nil pass0 rfl TS.g (pa_cons pe_non pa_nil)))) pss_nil)
      (pss_one (ps_ret (pe_makeSt (E := fun _ => E) M GI hr rfl CT.mgC (pat (passX (takes_of rfl rfl rfl rfl))) (pv 0))))), ?_⟩
    refine ⟨_, rfl, (by show 2 ≤ sizeLine; decide), fun t ht => ?_⟩
    have s1 : Same H (upd H t (.tup [V.ty "tuple", V.ty "list"])) := same_upd ht
    refine ⟨x, t, _, _, _, _, rfl, upd_same, .cons (.ty "tuple") (.cons (.ty "list") .nil), (hv.same s1).ty, any_tl d, _, rfl, ?_⟩
    rw [e]
    obtain ⟨a, xs, rfl, hs, ha, hg⟩ := val_items hv e
    have hs1 : SqT K (upd H t (.tup [V.ty "tuple", V.ty "list"])) a xs ∨ SqL K (upd H t (.tup [V.ty "tuple", V.ty "list"])) a xs := hs.elim (fun z => .inl (Same.seqT s1 z)) fun z => .inr (s1.seq z)
    have ha1 := dpAll_same s1 _ _ ha
    have hlen := dpAll_len ha
    have h1000 := (Good.tup (n := 59)).mp hg
    refine ⟨_, rfl, a, xs, rfl, hs1, fun x dx hx hdx hne => ⟨[.ref x], xs, rfl, rfl, Nat.le_of_lt (small1000 (by omega)), fun p ob hp hcl hob => ?_⟩⟩
    have s2 : Same (upd H t (.tup [V.ty "tuple", V.ty "list"])) (upd (upd (upd (upd H t (.tup [V.ty "tuple", V.ty "list"])) dx (.own x)) x (.ins C dx [])) p (.frz ob (.tup xs))) := ((same_upd hdx).trans (same_upd (by rw [upd_ne hne.symm]; exact hx))).trans (same_upd hp)
    have s3 := s1.trans s2
    have hxp : x ≠ p := ne_of_none upd_same hp
    refine ⟨x, p, dx, ds, ho, rfl, by rw [upd_ne hxp]; exact upd_same, .inl ⟨.tup (.inl (.inr ⟨ob, upd_same⟩)) (dpAll_same s2 _ _ ha1), hg⟩, g, hop, hno, fun H' k1 hrow => ⟨rfl, ?_⟩⟩
    exact q H' x (keep_same k1 s3 (s1.free hx)) (s1.free hx) hrow
theorem sc_wr_of : FnScope ["items"] ["items"] (defScope sWR_of) := ⟨rfl, rfl, rfl, by decide +kernel, rfl, by decide +kernel, by decide +kernel⟩
def spWrOf (K : PySem.W.Frag) (C CL : Addr) : Sp := fun vs H Q _ => ∃ (x : V) (d : PyData) (ds : List PyData) (ho : Option Nat), vs = [x] ∧ Val K H x d ∧ rowOf d = some ds ∧ RowK (ho.getD 0) wNotW ds ∧ (false = true → ∃ o, ho = some o ∧ OpenK o ds) ∧ (false = false → ho = none) ∧ ∀ H' r, Same H H' → H r = none → RowH K C CL H' r ho ds → Q (.ref r) H'
theorem ok_wr_of {C CL f : Addr} {fd : FuncData} (F : Fun K "of" "WorkRow.of" sWR_of f fd) (T : Txt K mg lt0 lt1 lt2 lt3 lt4 t0 t1 t2 t3 t4 t5 t6 t7 t8 tF tO dC) (CT : RwT K mg "WorkRow" C) {S fS : Addr} (TS : ExT K mg "InvalidItem" "number" S fS) {fdS : FuncData} (bS : Binds K fdS ["self", "number"] []) (GS : FnOk P w K mg base CX0 1 fS fdS ["self", "number"] (spExI S "number")) {fI : Addr} (M : Mk K C fI) (GI : FnR P w K mg base (L2.CX P w) 8 fI (spStar 1 (spRowHI K C CL false wNotW))) : FnOk P w K mg base (L2.CX P w) 10 f fd ["items"] (spWrOf K C CL) := by
  refine F.okX sc_wr_of (fun vs H Q E h => ?_) (fun cdv A outer s H vs Q E hr h => ?_)
  · obtain ⟨x, d, ds, ho, rfl, _⟩ := h
    rfl
  · obtain ⟨x, d, ds, ho, rfl, hv, e, g, hop, hno, q⟩ := h
    have hr2 : Room 2 _ := hr.mono (by decide)
    refine ⟨_, (pss_cons (ps_if (pt_not (pt_val (pe_callB call_isiT (by rfl) T.m_isinstance (by decide +kernel) (pa_cons (pv 0) (pa_cons (pe_tup (pa_cons (pe_bltn (v := .ty "tuple") (u := .type "tuple") (by rfl) T.m_tuple (by decide +kernel) rfl) (pa_cons (pe_bltn (v := .ty "list") (u := .type "list") (by rfl) T.m_list (by decide +kernel) rfl) pa_nil))) pa_nil)))))
        (pss_one (ps_raise rfl (takes_of rfl rfl rfl rfl) (pmk_oex TS.o TS.i TS.t GS hr2 bS .nil pass0 rfl TS.g (pa_cons pe_non pa_nil)))) pss_nil)
      (pss_one (ps_ret (pe_makeSt (E := fun _ => E) M GI hr rfl CT.mgC (pat (passX (takes_of rfl rfl rfl rfl))) (pv 0))))), ?_⟩
    refine ⟨_, rfl, (by show 2 ≤ sizeLine; decide), fun t ht => ?_⟩
    have s1 : Same H (upd H t (.tup [V.ty "tuple", V.ty "list"])) := same_upd ht
    refine ⟨x, t, _, _, _, _, rfl, upd_same, .cons (.ty "tuple") (.cons (.ty "list") .nil), (hv.same s1).ty, any_tl d, _, rfl, ?_⟩
    rw [e]
    obtain ⟨a, xs, rfl, hs, ha, hg⟩ := val_items hv e
    have hs1 : SqT K (upd H t (.tup [V.ty "tuple", V.ty "list"])) a xs ∨ SqL K (upd H t (.tup [V.ty "tuple", V.ty "list"])) a xs := hs.elim (fun z => .inl (Same.seqT s1 z)) fun z => .inr (s1.seq z)
    have ha1 := dpAll_same s1 _ _ ha
    have hlen := dpAll_len ha
    have h1000 := (Good.tup (n := 59)).mp hg
    refine ⟨_, rfl, a, xs, rfl, hs1, fun x dx hx hdx hne => ⟨[.ref x], xs, rfl, rfl, Nat.le_of_lt (small1000 (by omega)), fun p ob hp hcl hob => ?_⟩⟩
    have s2 : Same (upd H t (.tup [V.ty "tuple", V.ty "list"])) (upd (upd (upd (upd H t (.tup [V.ty "tuple", V.ty "list"])) dx (.own x)) x (.ins C dx [])) p (.frz ob (.tup xs))) := ((same_upd hdx).trans (same_upd (by rw [upd_ne hne.symm]; exact hx))).trans (same_upd hp)
    have s3 := s1.trans s2
    have hxp : x ≠ p := ne_of_none upd_same hp
    refine ⟨x, p, dx, ds, ho, rfl, by rw [upd_ne hxp]; exact upd_same, .inl ⟨.tup (.inl (.inr ⟨ob, upd_same⟩)) (dpAll_same s2 _ _ ha1), hg⟩, g, hop, hno, fun H' k1 hrow => ⟨rfl, ?_⟩⟩
    exact q H' x (keep_same k1 s3 (s1.free hx)) (s1.free hx) hrow
end
end K04

namespace K04
open PySem PySem.Spec PyProof.Rows StX L2 TL GG OO LY
theorem flags_eq (s : St3) (z : Str) : (!decide (V.str z = V.str "let") && (s.1 || inV (.str z) [.str "hold", .str "try"]), !decide (V.str z = V.str "leave") && (s.2.1 || decide (V.str z = V.str "enter")), !decide (V.str z = V.str "unlock") && (s.2.2 || decide (V.str z = V.str "lock"))) = stB s z := by
  obtain ⟨h, u, l⟩ := s
  have e1 : inV (.str z) [.str "hold", .str "try"] = (decide (z = "hold") || decide (z = "try")) := by
    rw [show [V.str "hold", V.str "try"] = (["hold", "try"] : List Str).map V.str from rfl, inV_strs, Bool.eq_iff_iff, Bool.or_eq_true, decide_eq_true_iff, decide_eq_true_iff, decide_eq_true_iff]
    simp
  have e2 : ∀ k : Str, decide (V.str z = V.str k) = decide (z = k) := fun k => by
    rw [Bool.eq_iff_iff, decide_eq_true_iff, decide_eq_true_iff]
    exact ⟨fun h => V.str.inj h, fun h => by rw [h]⟩
  rw [e1, e2, e2, e2, e2, e2]
  by_cases h1 : z = "hold"
  · subst h1
    cases h <;> cases u <;> cases l <;> decide +kernel
  by_cases h2 : z = "try"
  · subst h2
    cases h <;> cases u <;> cases l <;> decide +kernel
  by_cases h3 : z = "let"
  · subst h3
    cases h <;> cases u <;> cases l <;> decide +kernel
  by_cases h4 : z = "enter"
  · subst h4
    cases h <;> cases u <;> cases l <;> decide +kernel
  by_cases h5 : z = "leave"
  · subst h5
    cases h <;> cases u <;> cases l <;> decide +kernel
  by_cases h6 : z = "lock"
  · subst h6
    cases h <;> cases u <;> cases l <;> decide +kernel
  by_cases h7 : z = "unlock"
  · subst h7
    cases h <;> cases u <;> cases l <;> decide +kernel
  unfold stB
  rw [if_neg h1, if_neg h2, if_neg h3, if_neg h4, if_neg h5, if_neg h6, if_neg h7, decide_eq_false h1, decide_eq_false h2, decide_eq_false h3, decide_eq_false h4, decide_eq_false h5, decide_eq_false h6, decide_eq_false h7]
  cases h <;> cases u <;> cases l <;> rfl
/-- an entry, as it lies -/
def EntAt (K : PySem.W.Frag) (H : Hp) (x : V) (t : Ent) : Prop := ∃ (a : Addr) (v : V), x = .ref a ∧ H a = some (.lst ([v, iN t.2.1, iN t.2.2.1] ++ v3 t.2.2.2)) ∧ Dp K H v t.1
theorem EntAt.same {K : PySem.W.Frag} {H H' : Hp} {x : V} {t : Ent} (h : EntAt K H x t) (s : Same H H') : EntAt K H' x t := by
  obtain ⟨a, v, h1, h2, h3⟩ := h
  exact ⟨a, v, h1, s _ _ h2, dp_same s _ _ h3⟩
def EntAll (K : PySem.W.Frag) (H : Hp) (zs : List V) (ts : List Ent) : Prop := zs.length = ts.length ∧ ∀ (i : Nat) (t : Ent), ts[i]? = some t → ∃ x, zs[i]? = some x ∧ EntAt K H x t
theorem EntAll.same {K : PySem.W.Frag} {H H' : Hp} {zs : List V} {ts : List Ent} (h : EntAll K H zs ts) (s : Same H H') : EntAll K H' zs ts := ⟨h.1, fun i t e => by
  obtain ⟨x, h1, h2⟩ := h.2 i t e
  exact ⟨x, h1, h2.same s⟩⟩
theorem EntAll.snoc {K : PySem.W.Frag} {H : Hp} {zs : List V} {ts : List Ent} {x : V} {t : Ent} (h : EntAll K H zs ts) (hx : EntAt K H x t) : EntAll K H (zs ++ [x]) (ts ++ [t]) := by
  refine ⟨by rw [List.length_append, List.length_append, h.1]; rfl, fun i u e => ?_⟩
  by_cases hi : i < ts.length
  · rw [List.getElem?_append_left hi] at e
    rw [List.getElem?_append_left (by rw [h.1]; exact hi)]
    exact h.2 i u e
  · rw [List.getElem?_append_right (by omega)] at e
    rw [List.getElem?_append_right (by rw [h.1]; omega), h.1]
    have h0 : i - ts.length = 0 := by
      have := (List.getElem?_eq_some_iff.mp e).1
      simp at this
      omega
    rw [h0] at e ⊢
    obtain rfl := Option.some.inj e
    exact ⟨x, rfl, hx⟩
/-- entries of the items up to i -/
theorem entO_take (e : Nat) : ∀ (r : List PyData) (o : Nat) (s : St3) (i : Nat) (d : PyData), r[i]? = some d → entO e o s (r.take (i + 1)) = entO e o s (r.take i) ++ (let o' := o + (spread (r.take i)).length; let s' := (r.take i).foldl (fun s d => stB s (headW d)) s; (d, o' + 1 + (way d).length, (if (way d).length = 0 then e else o' + 1), s') :: entI e (o' + 1) (stB s' (headW d)) (way d))
  | [], _, _, _, _, h => nomatch h
  | a :: r, o, s, 0, d, h => by
    obtain rfl := Option.some.inj h
    show (_ :: (entI e (o + 1) (stB s (headW a)) (way a) ++ [])) = _
    rw [List.append_nil]
    rfl
  | a :: r, o, s, i + 1, d, h => by
    have ih := entO_take e r (o + 1 + (way a).length) (stB s (headW a)) i d h
    show (_ :: (entI e (o + 1) (stB s (headW a)) (way a) ++ entO e (o + 1 + (way a).length) (stB s (headW a)) (r.take (i + 1)))) = (_ :: (entI e (o + 1) (stB s (headW a)) (way a) ++ entO e (o + 1 + (way a).length) (stB s (headW a)) (r.take i))) ++ _
    rw [ih]
    have e1 : o + (spread ((a :: r).take (i + 1))).length = o + 1 + (way a).length + (spread (r.take i)).length := by
      show o + (spread (a :: r.take i)).length = _
      rw [spread_cons, List.length_cons, List.length_append]
      omega
    rw [e1]
    simp only [List.cons_append, List.append_assoc]
    rfl
theorem entI_take (e : Nat) : ∀ (r : List PyData) (o : Nat) (s : St3) (i : Nat) (d : PyData) (n : Nat), r[i]? = some d → n = r.length → (entI e o s r).take (i + 1) = (entI e o s r).take i ++ [(d, (if i + 1 < n then o + i + 1 else e), (if i + 1 < n then o + i + 1 else e), (r.take i).foldl (fun s d => stB s (headW d)) s)]
  | [], _, _, _, _, _, h, _ => nomatch h
  | [a], o, s, i, d, n, h, hn => by
    cases i with
    | zero =>
      obtain rfl := Option.some.inj h
      subst hn
      rfl
    | succ i => cases h
  | a :: b :: r, o, s, i, d, n, h, hn => by
    cases i with
    | zero =>
      obtain rfl := Option.some.inj h
      have : 0 + 1 < n := by rw [hn]; simp
      rw [if_pos this]
      rfl
    | succ i =>
      have ih := entI_take e (b :: r) (o + 1) (stB s (headW a)) i d (n - 1) h (by rw [hn]; rfl)
      show (_ :: (entI e (o + 1) (stB s (headW a)) (b :: r)).take (i + 1)) = (_ :: (entI e (o + 1) (stB s (headW a)) (b :: r)).take i) ++ _
      rw [ih]
      have e1 : (i + 1 < n - 1) = (i + 1 + 1 < n) := by
        rw [eq_iff_iff]
        omega
      have e2 : o + 1 + i + 1 = o + (i + 1) + 1 := by omega
      rw [List.cons_append]
      simp only [e1, e2]
      rfl
def spFlags (K : PySem.W.Frag) : Sp := fun vs H Q _ => ∃ (f : Addr) (v : V) (s : St3) (d : PyData), vs = [.ref f, v] ∧ H f = some (.lst (v3 s)) ∧ Dp K H v d ∧ ItemD d ∧ ∀ H' l, Same H H' → H l = none → H' l = some (.lst (v3 (stB s (headW d)))) → Q (.ref l) H'
/-- the law's own laying of a row -/
def ents (ds : List PyData) : List Ent := entO (spread ds).length 0 ff3 ds
def spLaid (K : PySem.W.Frag) : Sp := fun vs H Q _ => ∃ (x : V) (ds : List PyData), vs = [x] ∧ Dp K H x (.tuple ds) ∧ (∀ d ∈ ds, ItemD d) ∧ (∀ d ∈ spread ds, ItemD d) ∧ (spread ds).length ≤ 100 ∧ (∀ d ∈ ds, SeqAt.shaped d = true ∧ SeqAt.shaped (.tuple (way d)) = true) ∧ ∀ H' l zs, Same H H' → H l = none → H' l = some (.lst zs) → EntAll K H' zs (ents ds) → Q (.ref l) H'
section
variable {P : Program} {w : World} {K : PySem.W.Frag} {mg : Str → Option Value} {base : Heap} {lt0 lt1 lt2 lt3 lt4 : Tok} {t0 t1 t2 t3 t4 t5 t6 t7 t8 tF tO dC : Addr}
theorem sc_l_flags : FnScope ["_law_flags_here", "_law_item", "_law_word", "_law_holds", "_law_under"] ["_law_flags_here", "_law_item"] (defScope s_l_flags) := ⟨rfl, rfl, rfl, by decide +kernel, rfl, by decide +kernel, by decide +kernel⟩
theorem ok_l_flags {f : Addr} {fd : FuncData} (F : Fun K "_law_flags" "_law_flags" s_l_flags f fd) (T : Txt K mg lt0 lt1 lt2 lt3 lt4 t0 t1 t2 t3 t4 t5 t6 t7 t8 tF tO dC) : FnOk P w K mg base CX0 1 f fd ["_law_flags_here", "_law_item"] (spFlags K) := by
  refine F.ok sc_l_flags (fun vs H Q E h => ?_) (fun cdv A outer s H vs Q E hr h => ?_)
  · obtain ⟨f0, v, s0, d, rfl, _⟩ := h
    rfl
  · obtain ⟨f0, v, s0, d, rfl, hf, hd, hit, q⟩ := h
    refine ⟨_, (pss_cons (ps_set (i := 2) sc_l_flags.nd rfl (.inl rfl) (pe_ix ix_tup (pv 1) pe_int (fun _ _ => rfl))) 
        (pss_cons (ps_set (i := 3) sc_l_flags.nd rfl (.inl rfl) (pe_and (pe_cmpR op_ne (pv 2) pe_str (nomark _)) (pe_one (pe_or (pe_ix ix_list (pv 0) pe_int (fun _ _ => rfl)) (pe_one (pe_cmpR op_in_seq (pv 2) (pe_lst (pa_cons pe_str (pa_cons pe_str pa_nil))) (by rfl))))))) 
        (pss_cons (ps_set (i := 4) sc_l_flags.nd rfl (.inl rfl) (pe_and (pe_cmpR op_ne (pv 2) pe_str (nomark _)) (pe_one (pe_or (pe_ix ix_list (pv 0) pe_int (fun _ _ => rfl)) (pe_one (pe_cmpR op_eq (pv 2) pe_str (nomark _))))))) 
        (pss_one (ps_ret (pe_lst (pa_cons (pv 3) (pa_cons (pv 4) (pa_cons (pe_and (pe_cmpR op_ne (pv 2) pe_str (nomark _)) (pe_one (pe_or (pe_ix ix_list (pv 0) pe_int (fun _ _ => rfl)) (pe_one (pe_cmpR op_eq (pv 2) pe_str (nomark _)))))) pa_nil))))))))), ?_⟩
    obtain ⟨z, r5, rfl, hhd⟩ := hit.head
    obtain ⟨xa, xv, rfl, hxs, hx0⟩ := dp_head hd
    obtain ⟨b0, b1, b2⟩ := s0
    have fin : ∀ (c0 c1 c2 : Bool) (H1 : Hp), Same H H1 → (c0, c1, c2) = stB (b0, b1, b2) z → [V.bl c0, .bl c1, .bl c2].length ≤ sizeLine ∧ ∀ l, H1 l = none → Q (.ref l) (upd H1 l (.lst [V.bl c0, .bl c1, .bl c2])) := fun c0 c1 c2 H1 s1 e => ⟨(by show 3 ≤ sizeLine; decide), fun l hl => q _ l (s1.trans (same_upd hl)) (s1.free hl) (by rw [upd_same, show headW (.tuple (.str z :: r5)) = z from rfl, ← e]; rfl)⟩
    have fe := flags_eq (b0, b1, b2) z
    have hf2 : ∀ H1, Same H H1 → SqL K H1 f0 [V.bl b0, .bl b1, .bl b2] := fun H1 s1 => .inl (.inl (s1 _ _ hf))
    refine ⟨_, rfl, xa, xv, _, _, rfl, rfl, hxs, hx0, ?_⟩
    refine ⟨_, rfl, rfl, _, rfl, ite2 (fun a0 => ?_) (fun a0 => ?_)⟩
    · refine ⟨_, rfl, f0, _, _, _, rfl, rfl, hf2 _ (Same.refl _), atI_nat (j := 0) rfl, _, rfl, ite2 (fun c0 => ?_) (fun c0 => ?_)⟩
      · refine ⟨_, rfl, rfl, _, rfl, ite2 (fun a1 => ?_) (fun a1 => ?_)⟩
        · refine ⟨_, rfl, f0, _, _, _, rfl, rfl, hf2 _ (Same.refl _), atI_nat (j := 1) rfl, _, rfl, ite2 (fun c1 => ?_) (fun c1 => ?_)⟩
          · refine ⟨_, rfl, _, rfl, _, rfl, rfl, _, rfl, ite2 (fun a2 => ?_) (fun a2 => ?_)⟩
            · refine ⟨_, rfl, f0, _, _, _, rfl, rfl, hf2 _ (Same.refl _), atI_nat (j := 2) rfl, _, rfl, ite2 (fun c2 => ?_) (fun c2 => ?_)⟩
              · exact fin _ _ _ _ (Same.refl _) (by rw [← fe]; exact Prod.ext (by show _ = (!decide (V.str z = V.str "let") && (b0 || _)); rw [show (!decide (V.str z = V.str "let")) = true from a0, c0]; rfl) (Prod.ext (by show _ = (!decide (V.str z = V.str "leave") && (b1 || _)); rw [show (!decide (V.str z = V.str "leave")) = true from a1, c1]; rfl) (by show _ = (!decide (V.str z = V.str "unlock") && (b2 || _)); rw [show (!decide (V.str z = V.str "unlock")) = true from a2, c2]; rfl)))
              · refine ⟨_, rfl, rfl, ?_⟩
                exact fin _ _ _ _ (Same.refl _) (by rw [← fe]; exact Prod.ext (by show _ = (!decide (V.str z = V.str "let") && (b0 || _)); rw [show (!decide (V.str z = V.str "let")) = true from a0, c0]; rfl) (Prod.ext (by show _ = (!decide (V.str z = V.str "leave") && (b1 || _)); rw [show (!decide (V.str z = V.str "leave")) = true from a1, c1]; rfl) (by show _ = (!decide (V.str z = V.str "unlock") && (b2 || _)); rw [show (!decide (V.str z = V.str "unlock")) = true from a2, bf c2]; rfl)))
            · exact fin _ _ _ _ (Same.refl _) (by rw [← fe]; exact Prod.ext (by show _ = (!decide (V.str z = V.str "let") && (b0 || _)); rw [show (!decide (V.str z = V.str "let")) = true from a0, c0]; rfl) (Prod.ext (by show _ = (!decide (V.str z = V.str "leave") && (b1 || _)); rw [show (!decide (V.str z = V.str "leave")) = true from a1, c1]; rfl) (by show _ = (!decide (V.str z = V.str "unlock") && (b2 || _)); rw [show (!decide (V.str z = V.str "unlock")) = false from bf a2]; rfl)))
          · refine ⟨_, rfl, rfl, ?_⟩
            refine ⟨_, rfl, _, rfl, _, rfl, rfl, _, rfl, ite2 (fun a2 => ?_) (fun a2 => ?_)⟩
            · refine ⟨_, rfl, f0, _, _, _, rfl, rfl, hf2 _ (Same.refl _), atI_nat (j := 2) rfl, _, rfl, ite2 (fun c2 => ?_) (fun c2 => ?_)⟩
              · exact fin _ _ _ _ (Same.refl _) (by rw [← fe]; exact Prod.ext (by show _ = (!decide (V.str z = V.str "let") && (b0 || _)); rw [show (!decide (V.str z = V.str "let")) = true from a0, c0]; rfl) (Prod.ext (by show _ = (!decide (V.str z = V.str "leave") && (b1 || _)); rw [show (!decide (V.str z = V.str "leave")) = true from a1, bf c1]; rfl) (by show _ = (!decide (V.str z = V.str "unlock") && (b2 || _)); rw [show (!decide (V.str z = V.str "unlock")) = true from a2, c2]; rfl)))
              · refine ⟨_, rfl, rfl, ?_⟩
                exact fin _ _ _ _ (Same.refl _) (by rw [← fe]; exact Prod.ext (by show _ = (!decide (V.str z = V.str "let") && (b0 || _)); rw [show (!decide (V.str z = V.str "let")) = true from a0, c0]; rfl) (Prod.ext (by show _ = (!decide (V.str z = V.str "leave") && (b1 || _)); rw [show (!decide (V.str z = V.str "leave")) = true from a1, bf c1]; rfl) (by show _ = (!decide (V.str z = V.str "unlock") && (b2 || _)); rw [show (!decide (V.str z = V.str "unlock")) = true from a2, bf c2]; rfl)))
            · exact fin _ _ _ _ (Same.refl _) (by rw [← fe]; exact Prod.ext (by show _ = (!decide (V.str z = V.str "let") && (b0 || _)); rw [show (!decide (V.str z = V.str "let")) = true from a0, c0]; rfl) (Prod.ext (by show _ = (!decide (V.str z = V.str "leave") && (b1 || _)); rw [show (!decide (V.str z = V.str "leave")) = true from a1, bf c1]; rfl) (by show _ = (!decide (V.str z = V.str "unlock") && (b2 || _)); rw [show (!decide (V.str z = V.str "unlock")) = false from bf a2]; rfl)))
        · refine ⟨_, rfl, _, rfl, _, rfl, rfl, _, rfl, ite2 (fun a2 => ?_) (fun a2 => ?_)⟩
          · refine ⟨_, rfl, f0, _, _, _, rfl, rfl, hf2 _ (Same.refl _), atI_nat (j := 2) rfl, _, rfl, ite2 (fun c2 => ?_) (fun c2 => ?_)⟩
            · exact fin _ _ _ _ (Same.refl _) (by rw [← fe]; exact Prod.ext (by show _ = (!decide (V.str z = V.str "let") && (b0 || _)); rw [show (!decide (V.str z = V.str "let")) = true from a0, c0]; rfl) (Prod.ext (by show _ = (!decide (V.str z = V.str "leave") && (b1 || _)); rw [show (!decide (V.str z = V.str "leave")) = false from bf a1]; rfl) (by show _ = (!decide (V.str z = V.str "unlock") && (b2 || _)); rw [show (!decide (V.str z = V.str "unlock")) = true from a2, c2]; rfl)))
            · refine ⟨_, rfl, rfl, ?_⟩
              exact fin _ _ _ _ (Same.refl _) (by rw [← fe]; exact Prod.ext (by show _ = (!decide (V.str z = V.str "let") && (b0 || _)); rw [show (!decide (V.str z = V.str "let")) = true from a0, c0]; rfl) (Prod.ext (by show _ = (!decide (V.str z = V.str "leave") && (b1 || _)); rw [show (!decide (V.str z = V.str "leave")) = false from bf a1]; rfl) (by show _ = (!decide (V.str z = V.str "unlock") && (b2 || _)); rw [show (!decide (V.str z = V.str "unlock")) = true from a2, bf c2]; rfl)))
          · exact fin _ _ _ _ (Same.refl _) (by rw [← fe]; exact Prod.ext (by show _ = (!decide (V.str z = V.str "let") && (b0 || _)); rw [show (!decide (V.str z = V.str "let")) = true from a0, c0]; rfl) (Prod.ext (by show _ = (!decide (V.str z = V.str "leave") && (b1 || _)); rw [show (!decide (V.str z = V.str "leave")) = false from bf a1]; rfl) (by show _ = (!decide (V.str z = V.str "unlock") && (b2 || _)); rw [show (!decide (V.str z = V.str "unlock")) = false from bf a2]; rfl)))
      · refine ⟨_, rfl, (by show 2 ≤ sizeLine; decide), fun o0 ho => ⟨o0, _, rfl, .inl (.inl (.inl upd_same)), rfl, flat_strs ["hold", "try"], ?_⟩⟩
        refine ⟨_, rfl, rfl, _, rfl, ite2 (fun a1 => ?_) (fun a1 => ?_)⟩
        · refine ⟨_, rfl, f0, _, _, _, rfl, rfl, hf2 _ ((Same.refl _).trans (same_upd ho)), atI_nat (j := 1) rfl, _, rfl, ite2 (fun c1 => ?_) (fun c1 => ?_)⟩
          · refine ⟨_, rfl, _, rfl, _, rfl, rfl, _, rfl, ite2 (fun a2 => ?_) (fun a2 => ?_)⟩
            · refine ⟨_, rfl, f0, _, _, _, rfl, rfl, hf2 _ ((Same.refl _).trans (same_upd ho)), atI_nat (j := 2) rfl, _, rfl, ite2 (fun c2 => ?_) (fun c2 => ?_)⟩
              · exact fin _ _ _ _ ((Same.refl _).trans (same_upd ho)) (by rw [← fe]; exact Prod.ext (by show _ = (!decide (V.str z = V.str "let") && (b0 || _)); rw [show (!decide (V.str z = V.str "let")) = true from a0, bf c0]; rfl) (Prod.ext (by show _ = (!decide (V.str z = V.str "leave") && (b1 || _)); rw [show (!decide (V.str z = V.str "leave")) = true from a1, c1]; rfl) (by show _ = (!decide (V.str z = V.str "unlock") && (b2 || _)); rw [show (!decide (V.str z = V.str "unlock")) = true from a2, c2]; rfl)))
              · refine ⟨_, rfl, rfl, ?_⟩
                exact fin _ _ _ _ ((Same.refl _).trans (same_upd ho)) (by rw [← fe]; exact Prod.ext (by show _ = (!decide (V.str z = V.str "let") && (b0 || _)); rw [show (!decide (V.str z = V.str "let")) = true from a0, bf c0]; rfl) (Prod.ext (by show _ = (!decide (V.str z = V.str "leave") && (b1 || _)); rw [show (!decide (V.str z = V.str "leave")) = true from a1, c1]; rfl) (by show _ = (!decide (V.str z = V.str "unlock") && (b2 || _)); rw [show (!decide (V.str z = V.str "unlock")) = true from a2, bf c2]; rfl)))
            · exact fin _ _ _ _ ((Same.refl _).trans (same_upd ho)) (by rw [← fe]; exact Prod.ext (by show _ = (!decide (V.str z = V.str "let") && (b0 || _)); rw [show (!decide (V.str z = V.str "let")) = true from a0, bf c0]; rfl) (Prod.ext (by show _ = (!decide (V.str z = V.str "leave") && (b1 || _)); rw [show (!decide (V.str z = V.str "leave")) = true from a1, c1]; rfl) (by show _ = (!decide (V.str z = V.str "unlock") && (b2 || _)); rw [show (!decide (V.str z = V.str "unlock")) = false from bf a2]; rfl)))
          · refine ⟨_, rfl, rfl, ?_⟩
            refine ⟨_, rfl, _, rfl, _, rfl, rfl, _, rfl, ite2 (fun a2 => ?_) (fun a2 => ?_)⟩
            · refine ⟨_, rfl, f0, _, _, _, rfl, rfl, hf2 _ ((Same.refl _).trans (same_upd ho)), atI_nat (j := 2) rfl, _, rfl, ite2 (fun c2 => ?_) (fun c2 => ?_)⟩
              · exact fin _ _ _ _ ((Same.refl _).trans (same_upd ho)) (by rw [← fe]; exact Prod.ext (by show _ = (!decide (V.str z = V.str "let") && (b0 || _)); rw [show (!decide (V.str z = V.str "let")) = true from a0, bf c0]; rfl) (Prod.ext (by show _ = (!decide (V.str z = V.str "leave") && (b1 || _)); rw [show (!decide (V.str z = V.str "leave")) = true from a1, bf c1]; rfl) (by show _ = (!decide (V.str z = V.str "unlock") && (b2 || _)); rw [show (!decide (V.str z = V.str "unlock")) = true from a2, c2]; rfl)))
              · refine ⟨_, rfl, rfl, ?_⟩
                exact fin _ _ _ _ ((Same.refl _).trans (same_upd ho)) (by rw [← fe]; exact Prod.ext (by show _ = (!decide (V.str z = V.str "let") && (b0 || _)); rw [show (!decide (V.str z = V.str "let")) = true from a0, bf c0]; rfl) (Prod.ext (by show _ = (!decide (V.str z = V.str "leave") && (b1 || _)); rw [show (!decide (V.str z = V.str "leave")) = true from a1, bf c1]; rfl) (by show _ = (!decide (V.str z = V.str "unlock") && (b2 || _)); rw [show (!decide (V.str z = V.str "unlock")) = true from a2, bf c2]; rfl)))
            · exact fin _ _ _ _ ((Same.refl _).trans (same_upd ho)) (by rw [← fe]; exact Prod.ext (by show _ = (!decide (V.str z = V.str "let") && (b0 || _)); rw [show (!decide (V.str z = V.str "let")) = true from a0, bf c0]; rfl) (Prod.ext (by show _ = (!decide (V.str z = V.str "leave") && (b1 || _)); rw [show (!decide (V.str z = V.str "leave")) = true from a1, bf c1]; rfl) (by show _ = (!decide (V.str z = V.str "unlock") && (b2 || _)); rw [show (!decide (V.str z = V.str "unlock")) = false from bf a2]; rfl)))
        · refine ⟨_, rfl, _, rfl, _, rfl, rfl, _, rfl, ite2 (fun a2 => ?_) (fun a2 => ?_)⟩
          · refine ⟨_, rfl, f0, _, _, _, rfl, rfl, hf2 _ ((Same.refl _).trans (same_upd ho)), atI_nat (j := 2) rfl, _, rfl, ite2 (fun c2 => ?_) (fun c2 => ?_)⟩
            · exact fin _ _ _ _ ((Same.refl _).trans (same_upd ho)) (by rw [← fe]; exact Prod.ext (by show _ = (!decide (V.str z = V.str "let") && (b0 || _)); rw [show (!decide (V.str z = V.str "let")) = true from a0, bf c0]; rfl) (Prod.ext (by show _ = (!decide (V.str z = V.str "leave") && (b1 || _)); rw [show (!decide (V.str z = V.str "leave")) = false from bf a1]; rfl) (by show _ = (!decide (V.str z = V.str "unlock") && (b2 || _)); rw [show (!decide (V.str z = V.str "unlock")) = true from a2, c2]; rfl)))
            · refine ⟨_, rfl, rfl, ?_⟩
              exact fin _ _ _ _ ((Same.refl _).trans (same_upd ho)) (by rw [← fe]; exact Prod.ext (by show _ = (!decide (V.str z = V.str "let") && (b0 || _)); rw [show (!decide (V.str z = V.str "let")) = true from a0, bf c0]; rfl) (Prod.ext (by show _ = (!decide (V.str z = V.str "leave") && (b1 || _)); rw [show (!decide (V.str z = V.str "leave")) = false from bf a1]; rfl) (by show _ = (!decide (V.str z = V.str "unlock") && (b2 || _)); rw [show (!decide (V.str z = V.str "unlock")) = true from a2, bf c2]; rfl)))
          · exact fin _ _ _ _ ((Same.refl _).trans (same_upd ho)) (by rw [← fe]; exact Prod.ext (by show _ = (!decide (V.str z = V.str "let") && (b0 || _)); rw [show (!decide (V.str z = V.str "let")) = true from a0, bf c0]; rfl) (Prod.ext (by show _ = (!decide (V.str z = V.str "leave") && (b1 || _)); rw [show (!decide (V.str z = V.str "leave")) = false from bf a1]; rfl) (by show _ = (!decide (V.str z = V.str "unlock") && (b2 || _)); rw [show (!decide (V.str z = V.str "unlock")) = false from bf a2]; rfl)))
    · refine ⟨_, rfl, rfl, _, rfl, ite2 (fun a1 => ?_) (fun a1 => ?_)⟩
      · refine ⟨_, rfl, f0, _, _, _, rfl, rfl, hf2 _ (Same.refl _), atI_nat (j := 1) rfl, _, rfl, ite2 (fun c1 => ?_) (fun c1 => ?_)⟩
        · refine ⟨_, rfl, _, rfl, _, rfl, rfl, _, rfl, ite2 (fun a2 => ?_) (fun a2 => ?_)⟩
          · refine ⟨_, rfl, f0, _, _, _, rfl, rfl, hf2 _ (Same.refl _), atI_nat (j := 2) rfl, _, rfl, ite2 (fun c2 => ?_) (fun c2 => ?_)⟩
            · exact fin _ _ _ _ (Same.refl _) (by rw [← fe]; exact Prod.ext (by show _ = (!decide (V.str z = V.str "let") && (b0 || _)); rw [show (!decide (V.str z = V.str "let")) = false from bf a0]; rfl) (Prod.ext (by show _ = (!decide (V.str z = V.str "leave") && (b1 || _)); rw [show (!decide (V.str z = V.str "leave")) = true from a1, c1]; rfl) (by show _ = (!decide (V.str z = V.str "unlock") && (b2 || _)); rw [show (!decide (V.str z = V.str "unlock")) = true from a2, c2]; rfl)))
            · refine ⟨_, rfl, rfl, ?_⟩
              exact fin _ _ _ _ (Same.refl _) (by rw [← fe]; exact Prod.ext (by show _ = (!decide (V.str z = V.str "let") && (b0 || _)); rw [show (!decide (V.str z = V.str "let")) = false from bf a0]; rfl) (Prod.ext (by show _ = (!decide (V.str z = V.str "leave") && (b1 || _)); rw [show (!decide (V.str z = V.str "leave")) = true from a1, c1]; rfl) (by show _ = (!decide (V.str z = V.str "unlock") && (b2 || _)); rw [show (!decide (V.str z = V.str "unlock")) = true from a2, bf c2]; rfl)))
          · exact fin _ _ _ _ (Same.refl _) (by rw [← fe]; exact Prod.ext (by show _ = (!decide (V.str z = V.str "let") && (b0 || _)); rw [show (!decide (V.str z = V.str "let")) = false from bf a0]; rfl) (Prod.ext (by show _ = (!decide (V.str z = V.str "leave") && (b1 || _)); rw [show (!decide (V.str z = V.str "leave")) = true from a1, c1]; rfl) (by show _ = (!decide (V.str z = V.str "unlock") && (b2 || _)); rw [show (!decide (V.str z = V.str "unlock")) = false from bf a2]; rfl)))
        · refine ⟨_, rfl, rfl, ?_⟩
          refine ⟨_, rfl, _, rfl, _, rfl, rfl, _, rfl, ite2 (fun a2 => ?_) (fun a2 => ?_)⟩
          · refine ⟨_, rfl, f0, _, _, _, rfl, rfl, hf2 _ (Same.refl _), atI_nat (j := 2) rfl, _, rfl, ite2 (fun c2 => ?_) (fun c2 => ?_)⟩
            · exact fin _ _ _ _ (Same.refl _) (by rw [← fe]; exact Prod.ext (by show _ = (!decide (V.str z = V.str "let") && (b0 || _)); rw [show (!decide (V.str z = V.str "let")) = false from bf a0]; rfl) (Prod.ext (by show _ = (!decide (V.str z = V.str "leave") && (b1 || _)); rw [show (!decide (V.str z = V.str "leave")) = true from a1, bf c1]; rfl) (by show _ = (!decide (V.str z = V.str "unlock") && (b2 || _)); rw [show (!decide (V.str z = V.str "unlock")) = true from a2, c2]; rfl)))
            · refine ⟨_, rfl, rfl, ?_⟩
              exact fin _ _ _ _ (Same.refl _) (by rw [← fe]; exact Prod.ext (by show _ = (!decide (V.str z = V.str "let") && (b0 || _)); rw [show (!decide (V.str z = V.str "let")) = false from bf a0]; rfl) (Prod.ext (by show _ = (!decide (V.str z = V.str "leave") && (b1 || _)); rw [show (!decide (V.str z = V.str "leave")) = true from a1, bf c1]; rfl) (by show _ = (!decide (V.str z = V.str "unlock") && (b2 || _)); rw [show (!decide (V.str z = V.str "unlock")) = true from a2, bf c2]; rfl)))
          · exact fin _ _ _ _ (Same.refl _) (by rw [← fe]; exact Prod.ext (by show _ = (!decide (V.str z = V.str "let") && (b0 || _)); rw [show (!decide (V.str z = V.str "let")) = false from bf a0]; rfl) (Prod.ext (by show _ = (!decide (V.str z = V.str "leave") && (b1 || _)); rw [show (!decide (V.str z = V.str "leave")) = true from a1, bf c1]; rfl) (by show _ = (!decide (V.str z = V.str "unlock") && (b2 || _)); rw [show (!decide (V.str z = V.str "unlock")) = false from bf a2]; rfl)))
      · refine ⟨_, rfl, _, rfl, _, rfl, rfl, _, rfl, ite2 (fun a2 => ?_) (fun a2 => ?_)⟩
        · refine ⟨_, rfl, f0, _, _, _, rfl, rfl, hf2 _ (Same.refl _), atI_nat (j := 2) rfl, _, rfl, ite2 (fun c2 => ?_) (fun c2 => ?_)⟩
          · exact fin _ _ _ _ (Same.refl _) (by rw [← fe]; exact Prod.ext (by show _ = (!decide (V.str z = V.str "let") && (b0 || _)); rw [show (!decide (V.str z = V.str "let")) = false from bf a0]; rfl) (Prod.ext (by show _ = (!decide (V.str z = V.str "leave") && (b1 || _)); rw [show (!decide (V.str z = V.str "leave")) = false from bf a1]; rfl) (by show _ = (!decide (V.str z = V.str "unlock") && (b2 || _)); rw [show (!decide (V.str z = V.str "unlock")) = true from a2, c2]; rfl)))
          · refine ⟨_, rfl, rfl, ?_⟩
            exact fin _ _ _ _ (Same.refl _) (by rw [← fe]; exact Prod.ext (by show _ = (!decide (V.str z = V.str "let") && (b0 || _)); rw [show (!decide (V.str z = V.str "let")) = false from bf a0]; rfl) (Prod.ext (by show _ = (!decide (V.str z = V.str "leave") && (b1 || _)); rw [show (!decide (V.str z = V.str "leave")) = false from bf a1]; rfl) (by show _ = (!decide (V.str z = V.str "unlock") && (b2 || _)); rw [show (!decide (V.str z = V.str "unlock")) = true from a2, bf c2]; rfl)))
        · exact fin _ _ _ _ (Same.refl _) (by rw [← fe]; exact Prod.ext (by show _ = (!decide (V.str z = V.str "let") && (b0 || _)); rw [show (!decide (V.str z = V.str "let")) = false from bf a0]; rfl) (Prod.ext (by show _ = (!decide (V.str z = V.str "leave") && (b1 || _)); rw [show (!decide (V.str z = V.str "leave")) = false from bf a1]; rfl) (by show _ = (!decide (V.str z = V.str "unlock") && (b2 || _)); rw [show (!decide (V.str z = V.str "unlock")) = false from bf a2]; rfl)))
end
end K04

namespace K04
open PySem PySem.Spec PyProof.Rows StX L2 TL GG OO LY
def ItemS (d : PyData) : Prop := (∃ w r, d = .tuple (.str w :: r) ∧ w ≠ "ask" ∧ r.length ≤ 1) ∨ ∃ m o, d = .tuple [.str "ask", m, .tuple o]
theorem way_short {w : PyData} {r : List PyData} (h : r.length ≤ 1) : wayOf (.tuple (w :: r)) = none := by
  match r, h with
  | [], _ => rfl
  | [_], _ => rfl
theorem ItemS.d {d : PyData} (h : ItemS d) : ItemD d := by
  rcases h with ⟨w, r, rfl, h1, h2⟩ | ⟨m, o, rfl⟩
  · exact .inl ⟨w, r, rfl, h1, way_short h2⟩
  · exact .inr ⟨m, o, rfl⟩
def off (ds : List PyData) (j : Nat) : Nat := (spread (ds.take j)).length
theorem off_succ {ds : List PyData} {i : Nat} {d : PyData} (h : ds[i]? = some d) : off ds (i + 1) = off ds i + 1 + (way d).length := by
  have e : ds.take (i + 1) = ds.take i ++ [d] := by rw [List.take_add_one, h]; rfl
  unfold off
  rw [e, spread_app, List.length_append]
  show _ + (spread [d]).length = _
  rw [spread_cons, List.length_cons, List.length_append]
  show _ + ((way d).length + 0 + 1) = _
  omega
def starts (ds : List PyData) (i : Nat) : List V := (List.range i).map fun j => iN (off ds j)
theorem starts_succ (ds : List PyData) (i : Nat) : starts ds (i + 1) = starts ds i ++ [iN (off ds i)] := by
  unfold starts
  rw [List.range_succ, List.map_append]
  rfl
theorem starts_at {ds : List PyData} {i n : Nat} (h : i < n) : (starts ds n)[i]? = some (iN (off ds i)) := by
  unfold starts
  rw [List.getElem?_map, List.getElem?_range h]
  rfl
theorem starts_len (ds : List PyData) (n : Nat) : (starts ds n).length = n := by
  unfold starts
  rw [List.length_map, List.length_range]
theorem starts_next {ds : List PyData} {i : Nat} (h : i < ds.length) : (starts ds ds.length ++ [iN (spread ds).length])[i + 1]? = some (iN (off ds (i + 1))) := by
  by_cases hi : i + 1 < ds.length
  · rw [List.getElem?_append_left (by rw [starts_len]; exact hi)]
    exact starts_at hi
  · have e : i + 1 = ds.length := by omega
    rw [List.getElem?_append_right (by rw [starts_len]; omega), starts_len, e, Nat.sub_self]
    unfold off
    rw [List.take_length]
    rfl
abbrev stF (s : St3) (ds : List PyData) : St3 := ds.foldl (fun s d => stB s (headW d)) s
theorem stF_succ {s : St3} {ds : List PyData} {i : Nat} {d : PyData} (h : ds[i]? = some d) : stF s (ds.take (i + 1)) = stB (stF s (ds.take i)) (headW d) := by
  have e : ds.take (i + 1) = ds.take i ++ [d] := by rw [List.take_add_one, h]; rfl
  show List.foldl _ _ _ = _
  rw [e, List.foldl_append]
  rfl
/-- what is kept while a row is laid -/
structure LdI (K : PySem.W.Frag) (H : Hp) (fo st : Addr) (ds : List PyData) (H' : Hp) (zs : List V) (ts : List Ent) (fl : Addr) (s : St3) : Prop where
  same : Same H H'
  st_ : hide fo H' st = some (.lst (starts ds ds.length))
  fo_ : H' fo = some (.lst zs)
  ent : EntAll K (hide fo H') zs ts
  fl_ : hide fo H' fl = some (.lst (v3 s))
theorem LdI.new {K : PySem.W.Frag} {H H' H2 : Hp} {fo st fl : Addr} {ds : List PyData} {zs : List V} {ts : List Ent} {s : St3} (h : LdI K H fo st ds H' zs ts fl s) (k : Same H' H2) : LdI K H fo st ds H2 zs ts fl s :=
  ⟨h.same.trans k, hide_same k _ _ h.st_, k _ _ h.fo_, h.ent.same (hide_same k), hide_same k _ _ h.fl_⟩
theorem LdI.put {K : PySem.W.Frag} {H H' : Hp} {fo st fl : Addr} {ds : List PyData} {zs : List V} {ts : List Ent} {s : St3} {x : V} {t : Ent} (h : LdI K H fo st ds H' zs ts fl s) (h0 : H fo = none) (hx : EntAt K (hide fo H') x t) : LdI K H fo st ds (upd H' fo (.lst (zs ++ [x]))) (zs ++ [x]) (ts ++ [t]) fl s :=
  ⟨same_st h.same h0, by rw [hide_upd]; exact h.st_, upd_same, by rw [hide_upd]; exact h.ent.snoc hx, by rw [hide_upd]; exact h.fl_⟩
theorem LdI.flag {K : PySem.W.Frag} {H H' : Hp} {fo st fl fl2 : Addr} {ds : List PyData} {zs : List V} {ts : List Ent} {s s2 : St3} (h : LdI K H fo st ds H' zs ts fl s) (h2 : hide fo H' fl2 = some (.lst (v3 s2))) : LdI K H fo st ds H' zs ts fl2 s2 := ⟨h.same, h.st_, h.fo_, h.ent, h2⟩
theorem hide_new {H : Hp} {fo t : Addr} {o : HO} {zs : List V} (h : H fo = some (.lst zs)) (ht : H t = none) : hide fo (upd H t o) t = some o := by
  rw [hide_ne (fun z => by rw [z, h] at ht; cases ht), upd_same]
theorem if_any {b : Bool} {σ : L2.St} {H : Hp} {Q : VK} {ta tb : TE} (P : V → Hp → Prop) (h1 : b = true → ∀ C : VK, (∀ x H', P x H' → C x H') → ta σ H C) (h2 : b = false → ∀ C : VK, (∀ x H', P x H' → C x H') → tb σ H C) (hq : ∀ x H', P x H' → Q x H') : if b = true then ta σ H Q else tb σ H Q := by
  cases b with
  | true => exact h1 rfl Q hq
  | false => exact h2 rfl Q hq
theorem sq_put {K : PySem.W.Frag} {H : Hp} {fo a : Addr} {xs ys zs : List V} (h : SqT K H a xs) (hf : H fo = some (.lst zs)) : SqT K (upd H fo (.lst ys)) a xs := by
  rcases h with h | h
  · refine .inl ?_
    rcases h with h | ⟨o, h⟩
    · refine .inl ?_
      rw [upd_ne (fun z => by rw [z, hf] at h; cases h)]
      exact h
    · refine .inr ⟨o, ?_⟩
      rw [upd_ne (fun z => by rw [z, hf] at h; cases h)]
      exact h
  · exact .inr h
theorem sq_hide {K : PySem.W.Frag} {H : Hp} {fo a : Addr} {xs zs : List V} (hf : H fo = some (.lst zs)) (h : SqT K H a xs) : SqT K (hide fo H) a xs := by
  rcases h with h | h
  · refine .inl ?_
    rcases h with h | ⟨o, h⟩
    · refine .inl ?_
      rw [hide_ne (fun z => by rw [z, hf] at h; cases h)]
      exact h
    · refine .inr ⟨o, ?_⟩
      rw [hide_ne (fun z => by rw [z, hf] at h; cases h)]
      exact h
  · exact .inr h
def spLaid2 (K : PySem.W.Frag) : Sp := fun vs H Q _ => ∃ (x : V) (ds : List PyData), vs = [x] ∧ Dp K H x (.tuple ds) ∧ (∀ d ∈ ds, ItemS d ∧ SeqAt.shaped (.tuple (way d)) = true ∧ ∀ z ∈ way d, ItemD z) ∧ (spread ds).length ≤ 100 ∧ ∀ H' l zs, Same H H' → H l = none → H' l = some (.lst zs) → EntAll K H' zs (ents ds) → Q (.ref l) H'
theorem len_spread : ∀ ds : List PyData, ds.length ≤ (spread ds).length
  | [] => Nat.le_refl _
  | d :: r => by
    have := len_spread r
    rw [spread_cons, List.length_cons, List.length_cons, List.length_append]
    omega
theorem way_le {ds : List PyData} {d : PyData} (h : d ∈ ds) : (way d).length ≤ (spread ds).length := by
  induction ds with
  | nil => cases h
  | cons a r ih =>
    rw [spread_cons, List.length_cons, List.length_append]
    rcases List.mem_cons.mp h with rfl | h
    · omega
    · have := ih h
      omega
theorem off_le (ds : List PyData) : off ds ds.length = (spread ds).length := by
  unfold off
  rw [List.take_length]
section
variable {P : Program} {w : World} {K : PySem.W.Frag} {mg : Str → Option Value} {base : Heap} {lt0 lt1 lt2 lt3 lt4 : Tok} {t0 t1 t2 t3 t4 t5 t6 t7 t8 tF tO dC : Addr}
theorem sc_l_laid : FnScope ["_law_items", "_law_found", "_law_starts", "_law_at", "_law_item", "_law_flags_here", "_law_index", "_law_behind", "_law_out", "_law_other", "_law_inner", "_law_k", "_law_one", "_law_later"] ["_law_items"] (defScope s_l_laid) := ⟨rfl, rfl, rfl, by decide +kernel, rfl, by decide +kernel, by decide +kernel⟩
theorem ok_l_laid {f : Addr} {fd : FuncData} (F : Fun K "_law_laid" "_law_laid" s_l_laid f fd) (T : Txt K mg lt0 lt1 lt2 lt3 lt4 t0 t1 t2 t3 t4 t5 t6 t7 t8 tF tO dC) {f1 : Addr} {fd1 : FuncData} (F_l_flags : Fun K "_law_flags" "_law_flags" s_l_flags f1 fd1) (b_l_flags : Binds K fd1 ["_law_flags_here", "_law_item"] []) (g_l_flags : mg "_law_flags" = some (.ref f1)) (G_l_flags : FnOk P w K mg base CX0 1 f1 fd1 ["_law_flags_here", "_law_item"] (spFlags K)) : FnOk P w K mg base CX0 2 f fd ["_law_items"] (spLaid2 K) := by
  refine F.ok sc_l_laid (fun vs H Q E h => ?_) (fun cdv A outer s H vs Q E hr h => ?_)
  · obtain ⟨x, ds, rfl, _⟩ := h
    rfl
  · obtain ⟨x, ds, rfl, hx, hit, h100, q⟩ := h
    refine ⟨_, (pss_cons (ps_par3 (i := 1) (j := 2) (l := 3) rfl sc_l_laid.nd rfl rfl rfl (by decide) (by decide) (by decide) rfl rfl rfl (pa_cons (pe_lst pa_nil) (pa_cons (pe_lst pa_nil) (pa_cons pe_int pa_nil))) (by rfl)) 
        (pss_cons (ps_for PassesOwn.never rfl (pi_tup (pv 0)) (pg_name (i := 4) sc_l_laid.nd rfl (.inl rfl)) 
          (pss_cons (ps_expr (pe_bm PySem.F.plainAttrs_list PySem.F.slot_list_append PySem.F.type_list_append mt_append (pv 2) (pa_cons (pv 3) pa_nil))) 
          (pss_one (ps_set (i := 3) sc_l_laid.nd rfl (.inl rfl) (pe_op op_add (pe_op op_add (pv 3) pe_int) (pe_callB call_len_seq (by rfl) T.m_len PySem.boot_len (pa_cons (pe_andT (pe_slice sl_tupA (pv 4) (po_some pe_int) po_none) (pe_one (pe_ix ix_tup (pv 4) pe_int (fun _ _ => rfl)))) pa_nil))))))) 
        (pss_cons (ps_set (i := 5) sc_l_laid.nd rfl (.inl rfl) (pe_lst (pa_cons pe_bl (pa_cons pe_bl (pa_cons pe_bl pa_nil))))) 
        (pss_cons (ps_for PassesOwn.never rfl (pi_enumT (by rfl) T.m_enumerate (pa_cons (pv 0) pa_nil)) (pg_tup rfl (pgs_cons (pg_name (i := 6) sc_l_laid.nd rfl (.inl rfl)) (pgs_cons (pg_name (i := 4) sc_l_laid.nd rfl (.inl rfl)) pgs_nil))) 
          (pss_cons (ps_set (i := 7) sc_l_laid.nd rfl (.inl rfl) (pe_ix ix_list (pe_op op_cat (pv 2) (pe_lst (pa_cons (pv 3) pa_nil))) (pe_op op_add (pv 6) pe_int) (fun _ _ => rfl))) 
          (pss_cons (ps_set (i := 8) sc_l_laid.nd rfl (.inl rfl) (pe_ifExp (pt_cmpR op_eq (pe_ix ix_tup (pv 4) pe_int (fun _ _ => rfl)) pe_str (nomark _)) (pe_ix ix_tup (pv 4) pe_int (fun _ _ => rfl)) (pe_tup pa_nil))) 
          (pss_cons (ps_set (i := 9) sc_l_laid.nd rfl (.inl rfl) (pe_ifExp (pt_cmpR (op_neD hr.units) (pv 8) (pe_tup pa_nil) (nomark _)) (pe_op op_add (pe_ix ix_list (pv 2) (pv 6) (fun _ _ => rfl)) pe_int) (pv 3))) 
          (pss_cons (ps_expr (pe_bm PySem.F.plainAttrs_list PySem.F.slot_list_append PySem.F.type_list_append mt_append (pv 1) (pa_cons (pe_op op_cat (pe_lst (pa_cons (pv 4) (pa_cons (pv 7) (pa_cons (pv 9) pa_nil)))) (pv 5)) pa_nil))) 
          (pss_cons (ps_set (i := 5) sc_l_laid.nd rfl (.inl rfl) (pe_call G_l_flags hr (by rfl) g_l_flags F_l_flags.kp b_l_flags .nil pass0 (pa_cons (pv 5) (pa_cons (pv 4) pa_nil)))) 
          (pss_cons (ps_set (i := 10) sc_l_laid.nd rfl (.inl rfl) (pv 5)) 
          (pss_one (ps_for PassesOwn.never rfl (pi_enumT (by rfl) T.m_enumerate (pa_cons (pv 8) pa_nil)) (pg_tup rfl (pgs_cons (pg_name (i := 11) sc_l_laid.nd rfl (.inl rfl)) (pgs_cons (pg_name (i := 12) sc_l_laid.nd rfl (.inl rfl)) pgs_nil))) 
            (pss_cons (ps_set (i := 13) sc_l_laid.nd rfl (.inl rfl) (pe_ifExp (pt_cmpR op_lt (pe_op op_add (pv 11) pe_int) (pe_callB call_len_seq (by rfl) T.m_len PySem.boot_len (pa_cons (pv 8) pa_nil)) (nomark _)) (pe_op op_add (pe_op op_add (pe_ix ix_list (pv 2) (pv 6) (fun _ _ => rfl)) pe_int) (pv 11)) (pv 3))) 
            (pss_cons (ps_expr (pe_bm PySem.F.plainAttrs_list PySem.F.slot_list_append PySem.F.type_list_append mt_append (pv 1) (pa_cons (pe_op op_cat (pe_lst (pa_cons (pv 12) (pa_cons (pv 13) (pa_cons (pv 13) pa_nil)))) (pv 10)) pa_nil))) 
            (pss_one (ps_set (i := 10) sc_l_laid.nd rfl (.inl rfl) (pe_call G_l_flags hr (by rfl) g_l_flags F_l_flags.kp b_l_flags .nil pass0 (pa_cons (pv 10) (pa_cons (pv 12) pa_nil)))))))))))))))) 
        (pss_one (ps_ret (pv 1))))))), ?_⟩
    obtain ⟨b, xs, rfl, hs, ha⟩ : ∃ (b : Addr) (xs : List V), x = .ref b ∧ SqT K H b xs ∧ DpAll K H xs ds := by
      cases hx with
      | tup h1 h2 => exact ⟨_, _, rfl, h1, h2⟩
    have hl := dpAll_len ha
    have hn100 : ds.length ≤ 100 := Nat.le_trans (len_spread ds) h100
    refine ⟨Nat.zero_le _, fun fo hfo => ⟨Nat.zero_le _, fun st hst => ⟨_, _, _, rfl, ?_⟩⟩⟩
    have a1 := same_upd (o := .lst []) hfo
    have a2 := same_upd (o := .lst []) hst
    have efo := a2 _ _ (upd_same (H := H) (a := fo) (o := .lst []))
    have est := (upd_same (H := upd H fo (.lst [])) (a := st) (o := .lst []))
    have hst0 : H st = none := a1.free hst
    have hne : fo ≠ st := fun z => by rw [← z, upd_same] at hst; cases hst
    have aa := a1.trans a2
    show tSeq _ _ _ _ (upd (upd H fo (.lst [])) st (.lst []))
    generalize upd (upd H fo (.lst [])) st (.lst []) = H1 at aa efo est ⊢
    clear a1 a2
    refine ⟨_, rfl, b, rfl, ⟨_, Same.seqT aa hs⟩, for_it (walk_tup (xs := xs)) (fun i σ H' => Same H H' ∧ H' fo = some (.lst []) ∧ H' st = some (.lst (starts ds i)) ∧ ∃ y4 y5 y6 y7 y8 y9 y10 y11 y12 y13 : Option V, σ = [some (.ref b), some (.ref fo), some (.ref st), some (iN (off ds i)), y4, y5, y6, y7, y8, y9, y10, y11, y12, y13]) ⟨aa, efo, est, _, _, _, _, _, _, _, _, _, _, rfl⟩ (fun i σ H' _ h => Same.seqT h.1 hs) ?_ ?_⟩
    · rintro i x σ _ H2 hi ⟨s2, f2, t2, y4, y5, y6, y7, y8, y9, y10, y11, y12, y13, rfl⟩ ⟨rfl, hx⟩
      have hid : i < ds.length := by omega
      have hd : ds[i]? = some ds[i] := List.getElem?_eq_getElem hid
      have hxd := dp_same s2 _ _ (dpAll_at ha hx hd)
      obtain ⟨his, _, _⟩ := hit _ (List.mem_of_getElem? hd)
      have s3 := same_st (o := .lst (starts ds i ++ [iN (off ds i)])) s2 hst0
      have f3 : upd H2 st (.lst (starts ds i ++ [iN (off ds i)])) fo = some (.lst []) := by rw [upd_ne hne]; exact f2
      have t3 : upd H2 st (.lst (starts ds i ++ [iN (off ds i)])) st = some (.lst (starts ds (i + 1))) := by rw [upd_same, starts_succ]
      have hxd3 : Dp K (upd H2 st (.lst (starts ds i ++ [iN (off ds i)]))) x ds[i] := dp_same s3 _ _ (dpAll_at ha hx hd)
      refine ⟨_, rfl, .inl ⟨rfl, _, .inl (.inl t2)⟩, _, rfl, st, _, _, rfl, rfl, t2, small1000 (by rw [starts_len]; omega), ?_⟩
      generalize upd H2 st (.lst (starts ds i ++ [iN (off ds i)])) = H3 at s3 f3 t3 hxd3 ⊢
      rcases his with ⟨w0, r0, he, hw, hr1⟩ | ⟨m0, o0, he⟩
      · have hway : way ds[i] = [] := by unfold LY.way; rw [he, way_short hr1]; rfl
        rw [he] at hxd3
        obtain ⟨xa, xv, rfl, hxs, hxl⟩ : ∃ (xa : Addr) (xv : List V), x = .ref xa ∧ SqT K H3 xa xv ∧ xv.length ≤ 2 := by
          cases hxd3 with
          | tup h1 h2 =>
            refine ⟨_, _, rfl, h1, ?_⟩
            rw [dpAll_len h2, List.length_cons]
            omega
        refine ⟨_, rfl, _, _, rfl, rfl, _, rfl, _, rfl, slN0 hxs fun H4 u s4 hu => ?_⟩
        have hcut : cutV xv (some 2) none = [] := by
          unfold cutV
          rw [show HT.sIx xv.length 0 (some 2) = min 2 xv.length from rfl, List.drop_eq_nil_of_le (by omega)]
          simp
        rw [hcut] at hu
        have e1 : off ds (i + 1) = off ds i + 1 := by rw [off_succ hd, hway]; rfl
        have e2 : iN (off ds (i + 1)) = V.int (Int.ofNat (off ds i) + 1 + (([] : List V).length : Int)) := by
          rw [e1]
          show V.int (Int.ofNat (off ds i + 1)) = V.int (Int.ofNat (off ds i) + 1 + 0)
          congr 1
        exact ⟨false, .inr (.inl ⟨[], hu, rfl⟩), iteF ⟨u, [], rfl, .inr hu, _, _, rfl, rfl, s3.trans s4, s4 _ _ f3, s4 _ _ t3, some (.ref xa), y5, y6, y7, y8, y9, y10, y11, y12, y13, by rw [e2]; rfl⟩⟩
      · have hway : way ds[i] = o0 := by unfold LY.way; rw [he]; rfl
        rw [he] at hxd3
        obtain ⟨xa, v1, v2, v3', rfl, hxs, k1, k2, k3⟩ := dp3 hxd3
        refine ⟨_, rfl, _, _, rfl, rfl, _, rfl, _, rfl, slN0 hxs fun H4 u s4 hu => ?_⟩
        have hcut : cutV [v1, v2, v3'] (some 2) none = [v3'] := rfl
        rw [hcut] at hu
        cases k3 with
        | @tup oa ov _ hov hoa =>
        have hol := dpAll_len hoa
        have e1 : off ds (i + 1) = off ds i + 1 + ov.length := by rw [off_succ hd, hway, hol]
        have e2 : iN (off ds (i + 1)) = V.int (Int.ofNat (off ds i) + 1 + (ov.length : Int)) := by
          rw [e1]
          show V.int (Int.ofNat (off ds i + 1 + ov.length)) = _
          congr 1
        exact ⟨true, .inr (.inl ⟨[.ref oa], hu, rfl⟩), iteT ⟨_, rfl, xa, _, _, _, rfl, rfl, Same.seqT s4 hxs, atI_nat (j := 2) rfl, oa, ov, rfl, .inr (Same.seqT s4 hov), _, _, rfl, rfl, s3.trans s4, s4 _ _ f3, s4 _ _ t3, some (.ref xa), y5, y6, y7, y8, y9, y10, y11, y12, y13, by rw [e2]; rfl⟩⟩
    · rintro σ H2 ⟨s2, f2, t2, y4, y5, y6, y7, y8, y9, y10, y11, y12, y13, rfl⟩
      rw [hl] at t2 ⊢
      rw [off_le]
      refine ⟨(by show 3 ≤ sizeLine; decide), fun fl hfl => ?_⟩
      have s3 := same_upd (o := .lst [V.bl false, .bl false, .bl false]) hfl
      have I0 : LdI K H fo st ds (upd H2 fl (.lst [V.bl false, .bl false, .bl false])) [] (entO (spread ds).length 0 ff3 (ds.take 0)) fl (stF ff3 (ds.take 0)) := by
        refine ⟨s2.trans s3, ?_, s3 _ _ f2, ⟨rfl, fun i t e => nomatch e⟩, hide_new f2 hfl⟩
        rw [hide_ne hne.symm]
        exact s3 _ _ t2
      refine ⟨_, rfl, b, xs, rfl, Same.seqT (s2.trans s3) hs, for_it walk_enumT (fun i σ H' => ∃ (zs : List V) (fl : Addr), LdI K H fo st ds H' zs (entO (spread ds).length 0 ff3 (ds.take i)) fl (stF ff3 (ds.take i)) ∧ zs.length ≤ off ds i ∧ ∃ y4 y6 y7 y8 y9 y10 y11 y12 y13 : Option V, σ = [some (.ref b), some (.ref fo), some (.ref st), some (iN (spread ds).length), y4, some (.ref fl), y6, y7, y8, y9, y10, y11, y12, y13]) ⟨_, _, I0, Nat.zero_le _, _, _, _, _, _, _, _, _, _, rfl⟩ (fun i σ H' _ h => by obtain ⟨_, _, I, _⟩ := h; exact Same.seqT I.same hs) ?_ ?_⟩
      · clear I0 s3 hfl fl
        rintro i x σ Ha Hb hi ⟨zs, fl, I, hzl, y4, y6, y7, y8, y9, y10, y11, y12, y13, rfl⟩ ⟨t, u, v, rfl, ht, rfl, hu, hx⟩
        have eu : u = .int (i : Nat) := (Option.some.inj hu).symm
        subst eu
        have hid : i < ds.length := by omega
        have hd : ds[i]? = some ds[i] := List.getElem?_eq_getElem hid
        have I := I.new (same_upd (o := .tup [.int (i : Nat), v]) ht)
        obtain ⟨his, hsh, hin⟩ := hit _ (List.mem_of_getElem? hd)
        have hwl := way_le (List.mem_of_getElem? hd)
        have ho1 := off_succ hd
        have hoe : off ds (i + 1) ≤ (spread ds).length := by
          have : off ds (i + 1) ≤ off ds ds.length := by
            unfold off
            have e1 : ds.take ds.length = ds.take (i + 1) ++ ds.drop (i + 1) := by rw [List.take_length, List.take_append_drop]
            rw [e1, spread_app, List.length_append]
            omega
          rw [off_le] at this
          exact this
        refine ⟨t, _, rfl, .inl (.inl upd_same), rfl, _, _, rfl, _, _, rfl, rfl, ?_⟩
        generalize upd Ha t (.tup [.int (i : Nat), v]) = H3 at I ⊢
        -- behind
        refine ⟨_, rfl, _, rfl, (by show 1 ≤ sizeLine; decide), fun l1 n1 => ?_⟩
        have est1 := hide_le _ _ I.st_
        have I := I.new (same_upd (o := .lst [iN (spread ds).length]) n1)
        refine ⟨st, l1, _, _, rfl, rfl, hide_le _ _ I.st_, upd_same, Nat.le_of_lt (small1000 (by rw [starts_len]; show ds.length + 1 ≤ 1000; omega)), fun l2 n2 => ?_⟩
        have I := I.new (same_upd (o := .lst (starts ds ds.length ++ [iN (spread ds).length])) n2)
        have e2 : (upd (upd H3 l1 (.lst [iN (spread ds).length])) l2 (.lst (starts ds ds.length ++ [iN (spread ds).length]))) l2 = some (.lst (starts ds ds.length ++ [iN (spread ds).length])) := upd_same
        generalize upd (upd H3 l1 (.lst [iN (spread ds).length])) l2 (.lst (starts ds ds.length ++ [iN (spread ds).length])) = H4 at I e2 ⊢
        refine ⟨_, rfl, _, _, rfl, rfl, l2, _, _, _, rfl, rfl, .inl (.inl e2), atI_nat (j := i + 1) (starts_next hid), ?_⟩
        clear e2 est1
        have hxd : Dp K H4 v ds[i] := dp_same I.same _ _ (dpAll_at ha hx hd)
        -- out
        obtain ⟨z, r5, hde, hhd⟩ := his.d.head
        have hxd1 := hxd
        rw [hde] at hxd1
        obtain ⟨xa, xv, rfl, hxs, hx0⟩ := dp_head hxd1
        refine ⟨_, rfl, xa, xv, _, _, rfl, rfl, hxs, hx0, rfl, _, rfl, if_any (fun x H5 => ∃ (oa : Addr) (ov : List V), x = .ref oa ∧ Same H4 H5 ∧ SqT K H5 oa ov ∧ DpAll K H ov (way ds[i])) (fun hb C c => ?_) (fun hb C c => ?_) (fun x H5 hP => ?_)⟩
        · have hb : z = "ask" := V.str.inj (of_decide_eq_true hb)
          rcases his with ⟨w0, r0, he, hw, hr1⟩ | ⟨m0, o0, he⟩
          · exact absurd (by rw [hde] at he; have := (PyData.str.inj (List.cons.inj (PyData.tuple.inj he)).1); rw [← this, hb]) hw
          · have hway : way ds[i] = o0 := by unfold LY.way; rw [he]; rfl
            have hx00 := dpAll_at ha hx hd
            rw [he] at hx00
            obtain ⟨xa2, v1, v2, v3', ex, hxs2, k1, k2, k3⟩ := dp3 hx00
            cases ex
            cases k3 with
            | @tup oa ov _ hov hoa =>
            exact ⟨_, rfl, xa, _, _, _, rfl, rfl, Same.seqT I.same hxs2, atI_nat (j := 2) rfl, c _ _ ⟨oa, ov, rfl, Same.refl _, Same.seqT I.same hov, by rw [hway]; exact hoa⟩⟩
        · have hb : ¬ z = "ask" := fun q => by rw [q] at hb; exact absurd hb (by decide)
          rcases his with ⟨w0, r0, he, hw, hr1⟩ | ⟨m0, o0, he⟩
          · have hway : way ds[i] = [] := by unfold LY.way; rw [he, way_short hr1]; rfl
            exact ⟨Nat.zero_le _, fun t ht => c _ _ ⟨t, [], rfl, same_upd ht, .inl (.inl upd_same), by rw [hway]; exact .nil⟩⟩
          · exact absurd (by rw [hde] at he; exact PyData.str.inj (List.cons.inj (PyData.tuple.inj he)).1) hb
        obtain ⟨oa, ov, rfl, s5, hov, hoa⟩ := hP
        have I := I.new s5
        replace hxd := dp_same s5 _ _ hxd
        have hol := dpAll_len hoa
        -- other
        refine ⟨_, rfl, Nat.zero_le _, fun t6 n6 => ?_⟩
        have s6 := same_upd (o := .tup []) n6
        have I := I.new s6
        replace hxd := dp_same s6 _ _ hxd
        replace hov := Same.seqT s6 hov
        have et6 : (upd H5 t6 (.tup [])) t6 = some (.tup []) := upd_same
        generalize upd H5 t6 (.tup []) = H6 at I hxd hov et6 ⊢
        refine ⟨.tuple (way ds[i]), .tuple [], .tup hov (dpAll_same I.same _ _ hoa), .tup (.inl (.inl et6)) .nil, hsh, by decide +kernel, _, rfl, if_any (fun x H7 => x = iN (if (way ds[i]).length = 0 then (spread ds).length else off ds i + 1) ∧ H7 = H6) (fun hb C c => ?_) (fun hb C c => ?_) (fun x H7 hP => ?_)⟩
        · have hb2 : ¬ (way ds[i]).length = 0 := fun z => by
            rw [eqv_unit, List.isEmpty_iff.mpr (List.length_eq_zero_iff.mp z)] at hb
            cases hb
          rw [if_neg hb2] at c
          exact ⟨_, rfl, _, rfl, st, _, _, _, rfl, rfl, .inl (.inl (hide_le _ _ I.st_)), atI_nat (j := i) (starts_at hid), _, _, rfl, rfl, c _ _ ⟨rfl, rfl⟩⟩
        · have hb2 : (way ds[i]).length = 0 := by
            rw [eqv_unit] at hb
            have : (way ds[i]).isEmpty = true := by
              cases h : (way ds[i]).isEmpty with
              | true => rfl
              | false => rw [h] at hb; cases hb
            rw [List.isEmpty_iff.mp this]
            rfl
          rw [if_pos hb2] at c
          exact ⟨_, rfl, c _ _ ⟨rfl, rfl⟩⟩
        obtain ⟨ex_, eH_⟩ := hP
        rw [ex_, eH_]
        clear ex_ eH_ x H7
        -- found
        refine ⟨_, rfl, .inl ⟨rfl, _, .inl (.inl I.fo_)⟩, _, rfl, _, rfl, _, rfl, (by show 3 ≤ sizeLine; decide), fun l7 n7 => ?_⟩
        have k7 := same_upd (o := .lst [V.ref xa, iN (off ds (i + 1)), iN (if (way ds[i]).length = 0 then (spread ds).length else off ds i + 1)]) n7
        have J := I.new k7
        refine ⟨_, rfl, l7, fl, _, _, rfl, rfl, upd_same, hide_le _ _ J.fl_, (by show 6 ≤ sizeLine; decide), fun l8 n8 => ?_⟩
        have k8 := same_upd (o := .lst ([V.ref xa, iN (off ds (i + 1)), iN (if (way ds[i]).length = 0 then (spread ds).length else off ds i + 1)] ++ v3 (stF ff3 (ds.take i)))) n8
        have J := J.new k8
        have el8 := hide_new (o := .lst ([V.ref xa, iN (off ds (i + 1)), iN (if (way ds[i]).length = 0 then (spread ds).length else off ds i + 1)] ++ v3 (stF ff3 (ds.take i)))) (k7 _ _ I.fo_) n8
        replace hxd := dp_same (k7.trans k8) _ _ hxd
        replace hov := Same.seqT (k7.trans k8) hov
        generalize (upd (upd H6 l7 (.lst [V.ref xa, iN (off ds (i + 1)), iN (if (way ds[i]).length = 0 then (spread ds).length else off ds i + 1)])) l8 (.lst ([V.ref xa, iN (off ds (i + 1)), iN (if (way ds[i]).length = 0 then (spread ds).length else off ds i + 1)] ++ v3 (stF ff3 (ds.take i))))) = H8 at J el8 hxd hov ⊢
        clear k7 k8
        have dpH : ∀ {H9 : Hp}, Same H H9 → Dp K (hide fo H9) (.ref xa) ds[i] := fun s9 => dp_same (same_hide s9 hfo) _ _ (dpAll_at ha hx hd)
        have hE : EntAt K (hide fo H8) (.ref l8) (ds[i], off ds (i + 1), (if (way ds[i]).length = 0 then (spread ds).length else off ds i + 1), stF ff3 (ds.take i)) := ⟨l8, .ref xa, rfl, el8, dpH J.same⟩
        refine ⟨fo, zs, .ref l8, rfl, rfl, J.fo_, small1000 (by omega), ?_⟩
        have J2 := J.put hfo hE
        have hov0 := hov
        replace hxd : Dp K (upd H8 fo (.lst (zs ++ [.ref l8]))) (.ref xa) ds[i] := dp_same J2.same _ _ (dpAll_at ha hx hd)
        replace hov : SqT K (upd H8 fo (.lst (zs ++ [.ref l8]))) oa ov := sq_put hov0 J.fo_
        have hovh : SqT K (hide fo (upd H8 fo (.lst (zs ++ [.ref l8])))) oa ov := by
          rw [hide_upd]
          exact sq_hide J.fo_ hov0
        show tSeq _ _ _ _ (upd H8 fo (.lst (zs ++ [.ref l8])))
        generalize upd H8 fo (.lst (zs ++ [.ref l8])) = H9 at J2 hxd hov hovh ⊢
        -- flags
        refine ⟨_, rfl, _, rfl, fl, .ref xa, stF ff3 (ds.take i), ds[i], rfl, hide_le _ _ J2.fl_, hxd, his.d, fun H10 fl2 s10 nfl2 efl2 => ?_⟩
        have J3 := J2.new s10
        have hfl2 : hide fo H10 fl2 = some (.lst (v3 (stF ff3 (ds.take (i + 1))))) := by
          rw [hide_ne (fun z => by rw [z, J2.fo_] at nfl2; cases nfl2), stF_succ hd]
          exact efl2
        have J4 := J3.flag hfl2
        replace hov := Same.seqT s10 hov
        replace hovh := Same.seqT (hide_same s10) hovh
        refine ⟨_, rfl, ?_⟩
        have es' : stB (stF ff3 (ds.take i)) (headW ds[i]) = stF ff3 (ds.take (i + 1)) := (stF_succ hd).symm
        have ht : entO (spread ds).length 0 ff3 (ds.take (i + 1)) = (entO (spread ds).length 0 ff3 (ds.take i) ++ [(ds[i], off ds (i + 1), (if (way ds[i]).length = 0 then (spread ds).length else off ds i + 1), stF ff3 (ds.take i))]) ++ entI (spread ds).length (off ds i + 1) (stF ff3 (ds.take (i + 1))) (way ds[i]) := by
          rw [entO_take (spread ds).length ds 0 ff3 i ds[i] hd, ← es', ho1, List.append_assoc]
          show _ ++ (_ :: _) = _ ++ (_ :: _)
          rw [Nat.zero_add]
          rfl
        refine ⟨_, rfl, oa, ov, rfl, hov, for_it walk_enumT (fun k σ H' => ∃ (zs2 : List V) (flI : Addr), LdI K H fo st ds H' zs2 ((entO (spread ds).length 0 ff3 (ds.take i) ++ [(ds[i], off ds (i + 1), (if (way ds[i]).length = 0 then (spread ds).length else off ds i + 1), stF ff3 (ds.take i))]) ++ (entI (spread ds).length (off ds i + 1) (stF ff3 (ds.take (i + 1))) (way ds[i])).take k) flI (stF (stF ff3 (ds.take (i + 1))) ((way ds[i]).take k)) ∧ SqT K H' oa ov ∧ SqT K (hide fo H') oa ov ∧ zs2.length ≤ off ds i + 1 + k ∧ hide fo H' fl2 = some (.lst (v3 (stF ff3 (ds.take (i + 1))))) ∧ ∃ y4 y7 y9 y11 y12 y13 : Option V, σ = [some (.ref b), some (.ref fo), some (.ref st), some (iN (spread ds).length), y4, some (.ref fl2), some (.int (i : Nat)), y7, some (.ref oa), y9, some (.ref flI), y11, y12, y13]) ⟨zs ++ [.ref l8], fl2, ?_, hov, hovh, ?_, hfl2, _, _, _, _, _, _, rfl⟩ (fun i σ H' _ h => by obtain ⟨_, _, _, h, _⟩ := h; exact h) ?_ ?_⟩
        · have e0 : (entI (spread ds).length (off ds i + 1) (stF ff3 (ds.take (i + 1))) (way ds[i])).take 0 = [] := rfl
          rw [e0, List.append_nil]
          exact J4
        · rw [List.length_append]
          show zs.length + 1 ≤ _
          omega
        · clear J J2 J3 J4 hE hov hovh hfl2 efl2 s10 el8
          rintro k x σ Hc Hd hk ⟨zs2, flI, L, hov, hovh, hzl2, hfl2, y4, y7, y9, y11, y12, y13, rfl⟩ ⟨t5, u, v, rfl, ht5, rfl, hu, hv5⟩
          have eu : u = .int (k : Nat) := (Option.some.inj hu).symm
          subst eu
          have hkw : k < (way ds[i]).length := by omega
          have hdk : (way ds[i])[k]? = some (way ds[i])[k] := List.getElem?_eq_getElem hkw
          have sA := same_upd (o := .tup [.int (k : Nat), v]) ht5
          have L := L.new sA
          replace hov := Same.seqT sA hov
          replace hovh := Same.seqT (hide_same sA) hovh
          replace hfl2 := hide_same sA _ _ hfl2
          refine ⟨t5, _, rfl, .inl (.inl upd_same), rfl, _, _, rfl, _, _, rfl, rfl, ?_⟩
          generalize upd Hc t5 (.tup [.int (k : Nat), v]) = He at L hov hovh hfl2 ⊢
          have hlt : (way ds[i]).length ≤ 100 := Nat.le_trans hwl h100
          refine ⟨_, rfl, _, _, rfl, rfl, _, rfl, oa, ov, rfl, .inr hov, _, _, rfl, rfl, _, rfl, if_any (fun x H7 => x = iN (if k + 1 < (way ds[i]).length then off ds i + 1 + k + 1 else (spread ds).length) ∧ H7 = He) (fun hb C c => ?_) (fun hb C c => ?_) (fun x H7 hP => ?_)⟩
          · have hb2 : k + 1 < (way ds[i]).length := by
              have : (k : Int) + 1 < (ov.length : Int) := of_decide_eq_true hb
              omega
            rw [if_pos hb2] at c
            refine ⟨_, rfl, _, rfl, st, _, _, _, rfl, rfl, .inl (.inl (hide_le _ _ L.st_)), atI_nat (j := i) (starts_at hid), _, _, rfl, rfl, _, rfl, _, _, rfl, rfl, c _ _ ⟨?_, rfl⟩⟩
            show V.int (Int.ofNat (off ds i) + 2 + (k : Int)) = V.int (Int.ofNat (off ds i + 1 + k + 1))
            congr 1
            show (off ds i : Int) + 2 + (k : Int) = ((off ds i + 1 + k + 1 : Nat) : Int)
            omega
          · have hb2 : ¬ k + 1 < (way ds[i]).length := fun z => by
              have : decide ((k : Int) + 1 < (ov.length : Int)) = true := decide_eq_true (by omega)
              have hb : decide ((k : Int) + 1 < (ov.length : Int)) = false := hb
              rw [this] at hb
              cases hb
            rw [if_neg hb2] at c
            exact ⟨_, rfl, c _ _ ⟨rfl, rfl⟩⟩
          obtain ⟨ex_, eH_⟩ := hP
          rw [ex_, eH_]
          clear ex_ eH_ x H7
          refine ⟨_, rfl, .inl ⟨rfl, _, .inl (.inl L.fo_)⟩, _, rfl, _, rfl, _, rfl, (by show 3 ≤ sizeLine; decide), fun l7 n7 => ?_⟩
          have k7 := same_upd (o := .lst [v, iN (if k + 1 < (way ds[i]).length then off ds i + 1 + k + 1 else (spread ds).length), iN (if k + 1 < (way ds[i]).length then off ds i + 1 + k + 1 else (spread ds).length)]) n7
          have M := L.new k7
          refine ⟨_, rfl, l7, flI, _, _, rfl, rfl, upd_same, hide_le _ _ M.fl_, (by show 6 ≤ sizeLine; decide), fun l8 n8 => ?_⟩
          have k8 := same_upd (o := .lst ([v, iN (if k + 1 < (way ds[i]).length then off ds i + 1 + k + 1 else (spread ds).length), iN (if k + 1 < (way ds[i]).length then off ds i + 1 + k + 1 else (spread ds).length)] ++ v3 (stF (stF ff3 (ds.take (i + 1))) ((way ds[i]).take k)))) n8
          have M := M.new k8
          have el8 := hide_new (o := .lst ([v, iN (if k + 1 < (way ds[i]).length then off ds i + 1 + k + 1 else (spread ds).length), iN (if k + 1 < (way ds[i]).length then off ds i + 1 + k + 1 else (spread ds).length)] ++ v3 (stF (stF ff3 (ds.take (i + 1))) ((way ds[i]).take k)))) (k7 _ _ L.fo_) n8
          replace hov := Same.seqT (k7.trans k8) hov
          replace hovh := Same.seqT (hide_same (k7.trans k8)) hovh
          replace hfl2 := hide_same (k7.trans k8) _ _ hfl2
          generalize (upd (upd He l7 (.lst [v, iN (if k + 1 < (way ds[i]).length then off ds i + 1 + k + 1 else (spread ds).length), iN (if k + 1 < (way ds[i]).length then off ds i + 1 + k + 1 else (spread ds).length)])) l8 (.lst ([v, iN (if k + 1 < (way ds[i]).length then off ds i + 1 + k + 1 else (spread ds).length), iN (if k + 1 < (way ds[i]).length then off ds i + 1 + k + 1 else (spread ds).length)] ++ v3 (stF (stF ff3 (ds.take (i + 1))) ((way ds[i]).take k))))) = Hf at M el8 hov hovh hfl2 ⊢
          clear k7 k8
          have hE : EntAt K (hide fo Hf) (.ref l8) ((way ds[i])[k], (if k + 1 < (way ds[i]).length then off ds i + 1 + k + 1 else (spread ds).length), (if k + 1 < (way ds[i]).length then off ds i + 1 + k + 1 else (spread ds).length), stF (stF ff3 (ds.take (i + 1))) ((way ds[i]).take k)) := ⟨l8, v, rfl, el8, dp_same (same_hide M.same hfo) _ _ (dpAll_at hoa hv5 hdk)⟩
          refine ⟨fo, zs2, .ref l8, rfl, rfl, M.fo_, small1000 (by omega), ?_⟩
          have M2 := M.put hfo hE
          replace hov : SqT K (upd Hf fo (.lst (zs2 ++ [.ref l8]))) oa ov := sq_put hov M.fo_
          replace hovh : SqT K (hide fo (upd Hf fo (.lst (zs2 ++ [.ref l8])))) oa ov := by
            rw [hide_upd]
            exact hovh
          replace hfl2 : hide fo (upd Hf fo (.lst (zs2 ++ [.ref l8]))) fl2 = some (.lst (v3 (stF ff3 (ds.take (i + 1))))) := by
            rw [hide_upd]
            exact hfl2
          have hvd : Dp K (upd Hf fo (.lst (zs2 ++ [.ref l8]))) v (way ds[i])[k] := dp_same M2.same _ _ (dpAll_at hoa hv5 hdk)
          show tSeq _ _ _ _ (upd Hf fo (.lst (zs2 ++ [.ref l8])))
          generalize upd Hf fo (.lst (zs2 ++ [.ref l8])) = Hg at M2 hvd hov hovh hfl2 ⊢
          refine ⟨_, rfl, _, rfl, flI, v, stF (stF ff3 (ds.take (i + 1))) ((way ds[i]).take k), (way ds[i])[k], rfl, hide_le _ _ M2.fl_, hvd, hin _ (List.mem_of_getElem? hdk), fun Hh fl3 s10 nfl3 efl3 => ?_⟩
          have M3 := M2.new s10
          have hfl3 : hide fo Hh fl3 = some (.lst (v3 (stF (stF ff3 (ds.take (i + 1))) ((way ds[i]).take (k + 1))))) := by
            rw [hide_ne (fun z => by rw [z, M2.fo_] at nfl3; cases nfl3), stF_succ hdk]
            exact efl3
          refine ⟨zs2 ++ [.ref l8], fl3, ?_, Same.seqT s10 hov, Same.seqT (hide_same s10) hovh, ?_, hide_same s10 _ _ hfl2, _, _, _, _, _, _, rfl⟩
          · have := M3.flag hfl3
            rw [List.append_assoc, ← entI_take (spread ds).length (way ds[i]) (off ds i + 1) (stF ff3 (ds.take (i + 1))) k _ (way ds[i]).length hdk rfl] at this
            exact this
          · rw [List.length_append]
            show zs2.length + 1 ≤ _
            omega
        · rintro σ He ⟨zs2, flI, L, hov, hovh, hzl2, hfl2, y4, y7, y9, y11, y12, y13, rfl⟩
          refine ⟨zs2, fl2, ?_, ?_, _, _, _, _, _, _, _, _, _, rfl⟩
          · have := L.flag hfl2
            have hT : (entI (spread ds).length (off ds i + 1) (stF ff3 (ds.take (i + 1))) (way ds[i])).take (way ds[i]).length = entI (spread ds).length (off ds i + 1) (stF ff3 (ds.take (i + 1))) (way ds[i]) := List.take_of_length_le (by rw [entI_len]; exact Nat.le_refl _)
            rw [hol, hT, ← ht] at this
            exact this
          · rw [ho1]
            omega
      · rintro σ H3 ⟨zs, fl, I, hzl, y4, y6, y7, y8, y9, y10, y11, y12, y13, rfl⟩
        refine ⟨_, rfl, q H3 fo zs I.same hfo I.fo_ ?_⟩
        have := I.ent.same hide_le
        rw [hl, List.take_length] at this
        exact this
end
end K04

namespace K04
open PySem PySem.Spec PyProof.Rows StX L2 TL GG OO LY
theorem lk1 (f : Str) (v : V) : ([(f, v)] : List (Str × V)).lookup f = some v := by simp [List.lookup]
/-- a class of rows, by the promises of its methods -/
structure RowM (P : Program) (w : World) (K : PySem.W.Frag) (mg : Str → Option Value) (base : Heap) (C CL N : Addr) : Prop where
  cl : Cls K C
  parts : ∃ (pp fP : Addr) (fdP : FuncData), PropOf K C "parts" pp fP ∧ Binds K fdP ["self"] [] ∧ FnOk P w K mg base CX0 1 fP fdP ["self"] (getSp C "_parts")
  size : ∃ (pp fP : Addr) (fdP : FuncData), PropOf K C "size" pp fP ∧ Binds K fdP ["self"] [] ∧ FnOk P w K mg base CX0 1 fP fdP ["self"] (spSize K C CL)
  len : ∃ g, PySem.W.findIn K (.ref C) "__len__" = some (some (.ref g)) ∧ PySem.W.isFn K (.ref g) = true ∧ FnR P w K mg base CX0 1 g (spLenH K C CL)
  item : ∃ g, Meth K C "item" g ∧ FnR P w K mg base (L2.CX P w) 5 g (spAt K C CL N (RItem K))
  nexts : ∃ g, Meth K C "nexts" g ∧ FnR P w K mg base (L2.CX P w) 5 g (spAt K C CL N (RNext K))
  holds : ∃ g, Meth K C "holds" g ∧ FnR P w K mg base (L2.CX P w) 6 g (spAt K C CL N (RFlag 0))
  under : ∃ g, Meth K C "is_under" g ∧ FnR P w K mg base (L2.CX P w) 6 g (spAt K C CL N (RFlag 1))
  locked : ∃ g, Meth K C "is_locked" g ∧ FnR P w K mg base (L2.CX P w) 6 g (spAt K C CL N (RFlag 2))
  places : ∃ g, Meth K C "places_of" g ∧ FnR P w K mg base CX0 2 g (spPlcR K C CL)
/-- what an entry tells of a place -/
def spEntry (K : PySem.W.Frag) (C : Bool → Addr) (CL : Addr) : Sp := fun vs H Q _ => ∃ (r : Addr) (n : Nat) (x : V) (k : Bool) (ho : Option Nat) (ds : List PyData) (t : Ent) (d : PyData) (bs : List Nat) (s : St3), vs = [.ref r, .int n, x] ∧ RowH K (C k) CL H r ho ds ∧ n < (spread ds).length ∧ EntAt K H x t ∧ (spread ds)[n]? = some d ∧ (leads (spread ds).length 0 ds)[n]? = some bs ∧ (stds ds)[n]? = some s ∧ EntR t d bs s ∧ ItemD d ∧ SeqAt.shaped d = true ∧ bs.length ≤ 2 ∧ ∀ H', Same H H' → Q (.bl true) H'
theorem v3_sh (s : St3) : SeqAt.shaped (.list [.bool s.1, .bool s.2.1, .bool s.2.2]) = true := by
  obtain ⟨a, b, c⟩ := s
  cases a <;> cases b <;> cases c <;> decide +kernel
theorem dp_v3 {K : PySem.W.Frag} {H : Hp} {a : Addr} {s : St3} (h : H a = some (.lst (v3 s))) : Dp K H (.ref a) (.list [.bool s.1, .bool s.2.1, .bool s.2.2]) := .lst (.inl (.inl h)) (.cons (.bl _) (.cons (.bl _) (.cons (.bl _) .nil)))
theorem ld_sh {bs : List Nat} (h : bs.length ≤ 2) : SeqAt.shaped (ldD bs) = true := by
  have g : GG.Good 2 (ldD bs) := GG.good_t (by rw [List.length_map]; omega) fun d hd => by
    obtain ⟨b, _, rfl⟩ := List.mem_map.mp hd
    exact ⟨rfl, Nat.zero_le _⟩
  exact g.lay (by decide)
theorem self_eqv {d : PyData} (h : SeqAt.shaped d = true) : PyData.eqv d d = true := SeqAt.eqv_refl _ (SeqAt.canLay_of_shaped h)
section
variable {P : Program} {w : World} {K : PySem.W.Frag} {C : Bool → Addr} {CL N fN : Addr} {mg : Str → Option Value} {base : Heap} {lt0 lt1 lt2 lt3 lt4 : Tok} {t0 t1 t2 t3 t4 t5 t6 t7 t8 tF tO dC : Addr}
theorem sc_l_entry_right : FnScope ["_law_row", "_law_place", "_law_entry", "_law_flags_here", "_law_due"] ["_law_row", "_law_place", "_law_entry"] (defScope s_l_entry_right) := ⟨rfl, rfl, rfl, by decide +kernel, rfl, by decide +kernel, by decide +kernel⟩
theorem ok_l_entry_right {f : Addr} {fd : FuncData} (F : Fun K "_law_entry_right" "_law_entry_right" s_l_entry_right f fd) (M : ∀ k, RowM P w K mg base (C k) CL N) : FnOk P w K mg base CX0 8 f fd ["_law_row", "_law_place", "_law_entry"] (spEntry K C CL) := by
  refine F.ok sc_l_entry_right (fun vs H Q E h => ?_) (fun cdv A outer s H vs Q E hr h => ?_)
  · obtain ⟨r, n, x, k, ho, ds, t, d, bs, s, rfl, _⟩ := h
    rfl
  · obtain ⟨r, n, x, k, ho, ds, t, d, bs, s, rfl, row, hn, ⟨a, v, rfl, he, hvd⟩, hd, hb, hs, ⟨e1, e2, e3⟩, hit, hsh, hb2, q⟩ := h
    obtain ⟨g_item, M_item, R_item⟩ := (M k).item
    obtain ⟨g_nexts, M_nexts, R_nexts⟩ := (M k).nexts
    obtain ⟨g_holds, M_holds, R_holds⟩ := (M k).holds
    obtain ⟨g_under, M_under, R_under⟩ := (M k).under
    obtain ⟨g_locked, M_locked, R_locked⟩ := (M k).locked
    refine ⟨_, (pss_cons (ps_set (i := 3) sc_l_entry_right.nd rfl (.inl rfl) (pe_lst (pa_cons (pe_methRS (E := fun _ => E0) (pv 0) (M k).cl M_holds R_holds (hr.mono (by decide)) (pat passL) (pa_cons (pv 1) pa_nil)) (pa_cons (pe_methRS (E := fun _ => E0) (pv 0) (M k).cl M_under R_under (hr.mono (by decide)) (pat passL) (pa_cons (pv 1) pa_nil)) (pa_cons (pe_methRS (E := fun _ => E0) (pv 0) (M k).cl M_locked R_locked (hr.mono (by decide)) (pat passL) (pa_cons (pv 1) pa_nil)) pa_nil))))) 
    (pss_cons (ps_if (PW.pt (pw_or (pt_cmpR (op_neD hr.units) (pe_methRS (E := fun _ => E0) (pv 0) (M k).cl M_item R_item (hr.mono (by decide)) (pat passL) (pa_cons (pv 1) pa_nil)) (pe_ix ix_list (pv 2) pe_int (fun _ _ => rfl)) (nomark _)) (pw_or1 (pt_cmpR (op_neD hr.units) (pv 3) (pe_slice sl_list (pv 2) (po_some pe_int) po_none) (nomark _))))) 
      (pss_one (ps_ret pe_bl)) pss_nil) 
    (pss_cons (ps_set (i := 4) sc_l_entry_right.nd rfl (.inl rfl) (pe_ifExp (pt_cmpR op_eq (pe_ix ix_tup (pe_ix ix_list (pv 2) pe_int (fun _ _ => rfl)) pe_int (fun _ _ => rfl)) pe_str (nomark _)) (pe_tup (pa_cons (pe_ix ix_list (pv 2) pe_int (fun _ _ => rfl)) (pa_cons (pe_ix ix_list (pv 2) pe_int (fun _ _ => rfl)) pa_nil))) (pe_tup (pa_cons (pe_ix ix_list (pv 2) pe_int (fun _ _ => rfl)) pa_nil)))) 
    (pss_one (ps_ret (pe_cmpR (op_eqD hr.units) (pe_methRS (E := fun _ => E0) (pv 0) (M k).cl M_nexts R_nexts (hr.mono (by decide)) (pat passL) (pa_cons (pv 1) pa_nil)) (pv 4) (nomark _))))))), ?_⟩
    obtain ⟨dx, y, p, h1, hL, h2⟩ := id row
    subst e1
    have flag : ∀ (i : Nat) (u w' : V), RFlag i H ds n u → (v3 s)[i]? = some w' → u = w' := fun i u w' ⟨t', ht', hu⟩ hw => by
      rw [hs] at ht'
      obtain rfl := Option.some.inj ht'
      exact Option.some.inj (hu.symm.trans hw)
    refine ⟨_, rfl, r, dx, _, rfl, h1, (rowFl_no _ _ _ (by decide +kernel) (by decide +kernel) (by decide +kernel)), _, rfl, r, .int n, ho, ds, rfl, row, .inl ⟨n, rfl, hn, fun u0 hu0 => ?_⟩⟩
    refine ⟨_, rfl, r, dx, _, rfl, h1, (rowFl_no _ _ _ (by decide +kernel) (by decide +kernel) (by decide +kernel)), _, rfl, r, .int n, ho, ds, rfl, row, .inl ⟨n, rfl, hn, fun u1 hu1 => ?_⟩⟩
    refine ⟨_, rfl, r, dx, _, rfl, h1, (rowFl_no _ _ _ (by decide +kernel) (by decide +kernel) (by decide +kernel)), _, rfl, r, .int n, ho, ds, rfl, row, .inl ⟨n, rfl, hn, fun u2 hu2 => ?_⟩⟩
    rw [flag 0 u0 (.bl s.1) hu0 rfl, flag 1 u1 (.bl s.2.1) hu1 rfl, flag 2 u2 (.bl s.2.2) hu2 rfl]
    clear hu0 hu1 hu2 u0 u1 u2
    refine ⟨(by show 3 ≤ sizeLine; decide), fun l hl => ?_⟩
    have s1 := same_upd (o := .lst [V.bl s.1, .bl s.2.1, .bl s.2.2]) hl
    have el : (upd H l (.lst [V.bl s.1, .bl s.2.1, .bl s.2.2])) l = some (.lst (v3 s)) := upd_same
    show tSeq _ _ _ _ (upd H l (.lst [V.bl s.1, .bl s.2.1, .bl s.2.2]))
    generalize upd H l (.lst [V.bl s.1, .bl s.2.1, .bl s.2.2]) = H1 at s1 el ⊢
    have row1 := row.same s1
    replace he := s1 _ _ he
    replace hvd := dp_same s1 _ _ hvd
    replace h1 := s1 _ _ h1
    have leH : ∀ {H2 : Hp}, Same H1 H2 → SqL K H2 a ([v, iN t.2.1, iN t.2.2.1] ++ v3 t.2.2.2) := fun z => .inl (.inl (z _ _ he))
    refine ⟨_, rfl, r, dx, _, rfl, h1, (rowFl_no _ _ _ (by decide +kernel) (by decide +kernel) (by decide +kernel)), _, rfl, r, .int n, ho, ds, rfl, row1, .inl ⟨n, rfl, hn, fun u ⟨d', hd', hu⟩ => ?_⟩⟩
    rw [hd] at hd'
    obtain rfl := Option.some.inj hd'
    refine ⟨_, rfl, a, _, _, _, rfl, rfl, leH (Same.refl _), atI_nat (j := 0) rfl, t.1, t.1, hu, hvd, hsh, hsh, _, rfl, iteB (c := false) (by rw [self_eqv hsh]; rfl) (iteF ?_)⟩
    refine ⟨_, rfl, _, rfl, _, rfl, a, _, rfl, leH (Same.refl _), fun l2 hl2 => ?_⟩
    have s2 := same_upd (o := .lst (cutV ([v, iN t.2.1, iN t.2.2.1] ++ v3 t.2.2.2) (some 3) none)) hl2
    refine ⟨_, _, dp_v3 (s := s) (s2 _ _ el), dp_v3 (s := s) (by rw [upd_same, ← e2]; rfl), v3_sh s, v3_sh s, _, rfl, iteB (c := false) (by rw [self_eqv (v3_sh s)]; rfl) (iteF ?_)⟩
    replace hvd := dp_same s2 _ _ hvd
    have row2 := row1.same s2
    replace h1 := s2 _ _ h1
    replace leH : ∀ {H3 : Hp}, Same _ H3 → SqL K H3 a ([v, iN t.2.1, iN t.2.2.1] ++ v3 t.2.2.2) := fun z => leH (s2.trans z)
    replace s1 := s1.trans s2
    show tSeq _ _ _ _ (upd H1 l2 (.lst (cutV ([v, iN t.2.1, iN t.2.2.1] ++ v3 t.2.2.2) (some 3) none)))
    generalize upd H1 l2 (.lst (cutV ([v, iN t.2.1, iN t.2.2.1] ++ v3 t.2.2.2) (some 3) none)) = H2 at s1 hvd row2 h1 leH ⊢
    obtain ⟨z, r5, hde, hhd⟩ := hit.head
    have hvd1 := hvd
    rw [hde] at hvd1
    obtain ⟨xa, xv, rfl, hxs, hx0⟩ := dp_head hvd1
    have eask : (headW t.1 = "ask") = (z = "ask") := by rw [hhd]
    refine ⟨_, rfl, a, _, _, _, rfl, rfl, leH (Same.refl _), atI_nat (j := 0) rfl, xa, xv, _, _, rfl, rfl, hxs, hx0, rfl, _, rfl, if_any (fun x H3 => ∃ b : Addr, x = .ref b ∧ Same H2 H3 ∧ SqT K H3 b (bs.map iN)) (fun hb C c => ?_) (fun hb C c => ?_) (fun x H3 hP => ?_)⟩
    · have hb : z = "ask" := V.str.inj (of_decide_eq_true hb)
      rw [if_pos (by rw [eask]; exact hb)] at e3
      refine ⟨_, rfl, a, _, _, _, rfl, rfl, leH (Same.refl _), atI_nat (j := 1) rfl, _, rfl, a, _, _, _, rfl, rfl, leH (Same.refl _), atI_nat (j := 2) rfl, (by show 2 ≤ sizeLine; decide), fun t9 h9 => c _ _ ⟨t9, rfl, same_upd h9, .inl (.inl ?_)⟩⟩
      rw [upd_same, e3]
      rfl
    · have hb : ¬ z = "ask" := fun q => by rw [q] at hb; exact absurd hb (by decide)
      rw [if_neg (by rw [eask]; exact hb)] at e3
      refine ⟨_, rfl, a, _, _, _, rfl, rfl, leH (Same.refl _), atI_nat (j := 1) rfl, (by show 1 ≤ sizeLine; decide), fun t9 h9 => c _ _ ⟨t9, rfl, same_upd h9, .inl (.inl ?_)⟩⟩
      rw [upd_same, e3]
      rfl
    obtain ⟨b9, rfl, s9, hb9⟩ := hP
    have row3 := row2.same s9
    refine ⟨_, rfl, r, dx, _, rfl, s9 _ _ h1, (rowFl_no _ _ _ (by decide +kernel) (by decide +kernel) (by decide +kernel)), _, rfl, r, .int n, ho, ds, rfl, row3, .inl ⟨n, rfl, hn, fun u ⟨bs', b8, hbs', ex, hb8⟩ => ?_⟩⟩
    rw [hb] at hbs'
    obtain rfl := Option.some.inj hbs'
    subst ex
    refine ⟨_, rfl, ldD bs, ldD bs, dp_sq bs hb8, dp_sq bs hb9, ld_sh hb2, ld_sh hb2, ?_⟩
    rw [self_eqv (ld_sh hb2)]
    exact q _ (s1.trans s9)
def spRefused (K : PySem.W.Frag) (C : Bool → Addr) (CL : Addr) : Sp := fun vs H Q _ => ∃ (r : Addr) (v : V) (d : PyData) (k : Bool) (ho : Option Nat) (ds : List PyData), vs = [.ref r, v] ∧ RowH K (C k) CL H r ho ds ∧ (∀ H', Same H H' → NoIx K H' v (((spread ds).length : Int) - 1)) ∧ Dp K H v d ∧ d.showable = true ∧ d.shown.length ≤ sizeLine ∧ d.depth ≤ 60 ∧ okD (.str d.shown) = true ∧ ∀ H', Same H H' → Q (.bl true) H'
def tsR (K : PySem.W.Frag) (N : Addr) : Addr → Value → Option Addr → TS := fun a cls d => tDrop (tBM K "list" rAppend (tVar 2) (tCons (tCB (rReprD K) (tCons (tXf a cls d N "value" (tVar 4)) tNil)) tNil))
def tbR (K : PySem.W.Frag) (C : Bool → Addr) (CL N : Addr) (k : Bool) : WX → TS := fun W => (tIfS (tTest (tOp rEq (tVar 3) (tC (.int 0)))) (tDrop (tMethRS (C k) "item" (spAt K (C k) CL N (RItem K)) (WE W) (tVar 0) (tCons (tVar 1) tNil))) (tIfS (tTest (tOp rEq (tVar 3) (tC (.int 1)))) (tDrop (tMethRS (C k) "nexts" (spAt K (C k) CL N (RNext K)) (WE W) (tVar 0) (tCons (tVar 1) tNil))) (tIfS (tTest (tOp rEq (tVar 3) (tC (.int 2)))) (tDrop (tMethRS (C k) "holds" (spAt K (C k) CL N (RFlag 0)) (WE W) (tVar 0) (tCons (tVar 1) tNil))) (tIfS (tTest (tOp rEq (tVar 3) (tC (.int 3)))) (tDrop (tMethRS (C k) "is_under" (spAt K (C k) CL N (RFlag 1)) (WE W) (tVar 0) (tCons (tVar 1) tNil))) (tDrop (tMethRS (C k) "is_locked" (spAt K (C k) CL N (RFlag 2)) (WE W) (tVar 0) (tCons (tVar 1) tNil)))))))
def tTR (K : PySem.W.Frag) (C : Bool → Addr) (CL N : Addr) (k : Bool) : TS := fun D σ H => tbR K C CL N k (wAs K (.ref N) 4 (tsR K N) (fun _ _ _ _ => False) D) D σ H
theorem rep5 {z : Str} (h : okD (.str z) = true) : SeqAt.shaped (.list (List.replicate 5 (PyData.str z))) = true := by
  have g : GG.Good 3 (.list (List.replicate 5 (PyData.str z))) := GG.Good.lst.mpr ⟨by show 5 ≤ 1000; decide, fun d hd => by
    rw [(List.mem_replicate.mp hd).2]
    exact ⟨h, Nat.zero_le _⟩⟩
  exact g.lay (by decide)
theorem sc_l_refused : FnScope ["_law_row", "_law_value", "_law_found", "_law_way", "e"] ["_law_row", "_law_value"] (defScope s_l_refused) := ⟨rfl, rfl, rfl, by decide +kernel, rfl, by decide +kernel, by decide +kernel⟩
theorem ok_l_refused {f : Addr} {fd : FuncData} (F : Fun K "_law_refused" "_law_refused" s_l_refused f fd) (T : Txt K mg lt0 lt1 lt2 lt3 lt4 t0 t1 t2 t3 t4 t5 t6 t7 t8 tF tO dC) (M : ∀ k, RowM P w K mg base (C k) CL N) (TN : ExT K mg "InvalidNumber" "value" N fN) : FnG P w K mg base CX0 8 f fd ["_law_row", "_law_value"] (spRefused K C CL) := by
  refine Fun.okG F sc_l_refused (fun vs H Q E h => ?_) (fun cdv A outer s H vs Q E hr gd h => ?_)
  · obtain ⟨r, v, d, k, ho, ds, rfl, _⟩ := h
    rfl
  · obtain ⟨r, v, d, k, ho, ds, rfl, row, hno, hvd, hsw, hsl, hdp, hok, q⟩ := h
    obtain ⟨g_item, M_item, R_item⟩ := (M k).item
    obtain ⟨g_nexts, M_nexts, R_nexts⟩ := (M k).nexts
    obtain ⟨g_holds, M_holds, R_holds⟩ := (M k).holds
    obtain ⟨g_under, M_under, R_under⟩ := (M k).under
    obtain ⟨g_locked, M_locked, R_locked⟩ := (M k).locked
    have hu65 := room65x hr
    refine ⟨_, (pss_cons (ps_set (i := 2) sc_l_refused.nd rfl (.inl rfl) (pe_lst pa_nil)) 
      (pss_cons (ps_for PassesOwn.never rfl (pi_range1 rfl T.m_range (pa_cons pe_int pa_nil)) (pg_name (i := 3) sc_l_refused.nd rfl (.inl rfl)) 
        (pss_one (show PS _ _ (tTR K C CL N k) from (ps_try_as (i := 4) (tb := tbR K C CL N k) (ts := tsR K N) (Wout := fun _ _ _ _ => False) rfl rfl sc_l_refused.nd rfl rfl ⟨rfl, by decide, .inl TN.g⟩ takes0
          (fun W pn xe tk _ => (pss_one (ps_if (pt_cmpR op_eq (pv 3) pe_int (nomark _)) 
            (pss_one (ps_expr (by exact (pe_methRS (E := WE W) (pv 0) (M k).cl M_item R_item (hr.mono (by decide)) (fun σ => passAt tk σ) (pa_cons (pv 1) pa_nil))))) 
            (pss_one (ps_if (pt_cmpR op_eq (pv 3) pe_int (nomark _)) 
            (pss_one (ps_expr (by exact (pe_methRS (E := WE W) (pv 0) (M k).cl M_nexts R_nexts (hr.mono (by decide)) (fun σ => passAt tk σ) (pa_cons (pv 1) pa_nil))))) 
            (pss_one (ps_if (pt_cmpR op_eq (pv 3) pe_int (nomark _)) 
            (pss_one (ps_expr (by exact (pe_methRS (E := WE W) (pv 0) (M k).cl M_holds R_holds (hr.mono (by decide)) (fun σ => passAt tk σ) (pa_cons (pv 1) pa_nil))))) 
            (pss_one (ps_if (pt_cmpR op_eq (pv 3) pe_int (nomark _)) 
            (pss_one (ps_expr (by exact (pe_methRS (E := WE W) (pv 0) (M k).cl M_under R_under (hr.mono (by decide)) (fun σ => passAt tk σ) (pa_cons (pv 1) pa_nil))))) 
            (pss_one (ps_expr (by exact (pe_methRS (E := WE W) (pv 0) (M k).cl M_locked R_locked (hr.mono (by decide)) (fun σ => passAt tk σ) (pa_cons (pv 1) pa_nil))))))))))))))
          (fun a oe cls d pn hzc hf => pss_one (ps_expr (by exact (pe_bm PySem.F.plainAttrs_list PySem.F.slot_list_append PySem.F.type_list_append mt_append (pv 2) (by exact (pa_cons (pe_callB (call_reprD gd hu65) (by rfl) T.m_repr (by decide +kernel) (by exact (pa_cons (pe_xf TN.x TN.no hzc hf (pv 4)) pa_nil))) pa_nil)))))))))) 
      (pss_one (ps_ret (pe_cmpR (op_eqD hr.units) (pv 2) (pe_op op_rep (pe_lst (pa_cons (pe_callB (call_reprD gd hu65) (by rfl) T.m_repr (by decide +kernel) (pa_cons (pv 1) pa_nil)) pa_nil)) pe_int) (nomark _)))))), ?_⟩
    refine ⟨Nat.zero_le _, fun p hp => ?_⟩
    have s0 : Same H (upd H p (.lst [])) := same_upd hp
    refine ⟨5, rfl, by decide, by decide, for_range (lo := 0) (fun i σ H' => Same H H' ∧ H' p = some (.lst (List.replicate i (.str d.shown))) ∧ ∃ y1 y2 : Option V, σ = [some (.ref r), some v, some (.ref p), y1, y2]) ⟨s0, upd_same, _, _, rfl⟩ ?_ ?_⟩
    · rintro i σ H1 hlt ⟨s1, hp1, y1, y2, rfl⟩
      have hlt : i < 5 := hlt
      obtain ⟨dx, y, pp, h1, hL, h3⟩ := row.same s1
      have row1 : RowH K (C k) CL H1 r ho ds := row.same s1
      have suite : ∀ (H2 : Hp) (dd : Addr), Same H1 H2 → H2 dd = some (.xd [("value", v)]) → Same H (upd H2 p (.lst (List.replicate i (V.str d.shown) ++ [.str d.shown]))) ∧ upd H2 p (.lst (List.replicate i (V.str d.shown) ++ [.str d.shown])) p = some (.lst (List.replicate (i + 1) (.str d.shown))) := fun H2 d s2 _ =>
        ⟨same_st (s1.trans s2) hp, by rw [upd_same, List.replicate_succ']⟩
      have len1 : (List.replicate i (V.str d.shown)).length < 1000 := by rw [List.length_replicate]; omega
      obtain h5 | h5 | h5 | h5 | h5 : i = 0 ∨ i = 1 ∨ i = 2 ∨ i = 3 ∨ i = 4 := by omega
      · subst h5
        refine ⟨_, rfl, rfl, _, rfl, iteB (c := true) (by decide +kernel) (iteT ⟨_, rfl, r, dx, _, rfl, h1, (rowFl_no _ _ _ (by decide +kernel) (by decide +kernel) (by decide +kernel)), _, rfl, r, v, ho, ds, rfl, row1, .inr ⟨hno _ s1, fun dd H2 hd s2 he => ?_⟩⟩)⟩
        obtain ⟨g1, g2⟩ := suite H2 dd s2 he
        exact ⟨true, TN.te, fun _ b hb => ⟨_, rfl, .inl ⟨rfl, _, .inl (.inl (s2 _ _ hp1))⟩, _, rfl, rfl, rfl, dd, _, v, rfl, he, lk1 _ _, .inl ⟨v, d, rfl, dp_same (s1.trans s2) _ _ hvd, hsw, hsl, hdp, p, _, _, rfl, rfl, s2 _ _ hp1, small1000 (by omega), g1, g2, _, _, rfl⟩⟩, fun z => nomatch z⟩
      · subst h5
        refine ⟨_, rfl, rfl, _, rfl, iteB (c := false) (by decide +kernel) (iteF ⟨_, rfl, rfl, _, rfl, iteB (c := true) (by decide +kernel) (iteT ⟨_, rfl, r, dx, _, rfl, h1, (rowFl_no _ _ _ (by decide +kernel) (by decide +kernel) (by decide +kernel)), _, rfl, r, v, ho, ds, rfl, row1, .inr ⟨hno _ s1, fun dd H2 hd s2 he => ?_⟩⟩)⟩)⟩
        obtain ⟨g1, g2⟩ := suite H2 dd s2 he
        exact ⟨true, TN.te, fun _ b hb => ⟨_, rfl, .inl ⟨rfl, _, .inl (.inl (s2 _ _ hp1))⟩, _, rfl, rfl, rfl, dd, _, v, rfl, he, lk1 _ _, .inl ⟨v, d, rfl, dp_same (s1.trans s2) _ _ hvd, hsw, hsl, hdp, p, _, _, rfl, rfl, s2 _ _ hp1, small1000 (by omega), g1, g2, _, _, rfl⟩⟩, fun z => nomatch z⟩
      · subst h5
        refine ⟨_, rfl, rfl, _, rfl, iteB (c := false) (by decide +kernel) (iteF ⟨_, rfl, rfl, _, rfl, iteB (c := false) (by decide +kernel) (iteF ⟨_, rfl, rfl, _, rfl, iteB (c := true) (by decide +kernel) (iteT ⟨_, rfl, r, dx, _, rfl, h1, (rowFl_no _ _ _ (by decide +kernel) (by decide +kernel) (by decide +kernel)), _, rfl, r, v, ho, ds, rfl, row1, .inr ⟨hno _ s1, fun dd H2 hd s2 he => ?_⟩⟩)⟩)⟩)⟩
        obtain ⟨g1, g2⟩ := suite H2 dd s2 he
        exact ⟨true, TN.te, fun _ b hb => ⟨_, rfl, .inl ⟨rfl, _, .inl (.inl (s2 _ _ hp1))⟩, _, rfl, rfl, rfl, dd, _, v, rfl, he, lk1 _ _, .inl ⟨v, d, rfl, dp_same (s1.trans s2) _ _ hvd, hsw, hsl, hdp, p, _, _, rfl, rfl, s2 _ _ hp1, small1000 (by omega), g1, g2, _, _, rfl⟩⟩, fun z => nomatch z⟩
      · subst h5
        refine ⟨_, rfl, rfl, _, rfl, iteB (c := false) (by decide +kernel) (iteF ⟨_, rfl, rfl, _, rfl, iteB (c := false) (by decide +kernel) (iteF ⟨_, rfl, rfl, _, rfl, iteB (c := false) (by decide +kernel) (iteF ⟨_, rfl, rfl, _, rfl, iteB (c := true) (by decide +kernel) (iteT ⟨_, rfl, r, dx, _, rfl, h1, (rowFl_no _ _ _ (by decide +kernel) (by decide +kernel) (by decide +kernel)), _, rfl, r, v, ho, ds, rfl, row1, .inr ⟨hno _ s1, fun dd H2 hd s2 he => ?_⟩⟩)⟩)⟩)⟩)⟩
        obtain ⟨g1, g2⟩ := suite H2 dd s2 he
        exact ⟨true, TN.te, fun _ b hb => ⟨_, rfl, .inl ⟨rfl, _, .inl (.inl (s2 _ _ hp1))⟩, _, rfl, rfl, rfl, dd, _, v, rfl, he, lk1 _ _, .inl ⟨v, d, rfl, dp_same (s1.trans s2) _ _ hvd, hsw, hsl, hdp, p, _, _, rfl, rfl, s2 _ _ hp1, small1000 (by omega), g1, g2, _, _, rfl⟩⟩, fun z => nomatch z⟩
      · subst h5
        refine ⟨_, rfl, rfl, _, rfl, iteB (c := false) (by decide +kernel) (iteF ⟨_, rfl, rfl, _, rfl, iteB (c := false) (by decide +kernel) (iteF ⟨_, rfl, rfl, _, rfl, iteB (c := false) (by decide +kernel) (iteF ⟨_, rfl, rfl, _, rfl, iteB (c := false) (by decide +kernel) (iteF ⟨_, rfl, r, dx, _, rfl, h1, (rowFl_no _ _ _ (by decide +kernel) (by decide +kernel) (by decide +kernel)), _, rfl, r, v, ho, ds, rfl, row1, .inr ⟨hno _ s1, fun dd H2 hd s2 he => ?_⟩⟩)⟩)⟩)⟩)⟩
        obtain ⟨g1, g2⟩ := suite H2 dd s2 he
        exact ⟨true, TN.te, fun _ b hb => ⟨_, rfl, .inl ⟨rfl, _, .inl (.inl (s2 _ _ hp1))⟩, _, rfl, rfl, rfl, dd, _, v, rfl, he, lk1 _ _, .inl ⟨v, d, rfl, dp_same (s1.trans s2) _ _ hvd, hsw, hsl, hdp, p, _, _, rfl, rfl, s2 _ _ hp1, small1000 (by omega), g1, g2, _, _, rfl⟩⟩, fun z => nomatch z⟩
    · rintro σ H1 ⟨s1, hp1, y1, y2, rfl⟩
      refine ⟨_, rfl, _, rfl, .inl ⟨v, d, rfl, dp_same s1 _ _ hvd, hsw, hsl, hdp, (by show 1 ≤ sizeLine; decide), fun l1 hl1 => ⟨l1, 5, _, rfl, rfl, upd_same, by decide, by decide, (by show 1 * 5 ≤ sizeLine; decide), fun l2 hl2 => ?_⟩⟩⟩
      have s2 : Same H1 (upd (upd H1 l1 (.lst [V.str d.shown])) l2 (.lst (List.replicate (5 : Int).toNat [V.str d.shown]).flatten)) := (same_upd hl1).trans (same_upd hl2)
      have five : ∀ a : Addr, (upd (upd H1 l1 (.lst [V.str d.shown])) l2 (.lst (List.replicate (5 : Int).toNat [V.str d.shown]).flatten)) a = some (.lst (List.replicate 5 (V.str d.shown))) → Dp K (upd (upd H1 l1 (.lst [V.str d.shown])) l2 (.lst (List.replicate (5 : Int).toNat [V.str d.shown]).flatten)) (.ref a) (.list (List.replicate 5 (PyData.str d.shown))) := fun a ha => .lst (.inl (.inl ha)) (.cons (.str _) (.cons (.str _) (.cons (.str _) (.cons (.str _) (.cons (.str _) .nil)))))
      refine ⟨_, _, five p (s2 _ _ hp1), five l2 upd_same, rep5 hok, rep5 hok, ?_⟩
      rw [self_eqv (rep5 hok)]
      exact q _ (s1.trans s2)
end
end K04

namespace K04
open PySem PySem.Spec PyProof.Rows StX L2 TL GG OO LY
section
variable {ns ms : List Str}
theorem hand_row2 {ds : List PyData} (hn : NmOk ns) (hm : NmOk ms) (h : HandOk ns ms ds) : ∃ (op : List Str) (b : List PyData), op ∈ GG.opens ∧ ds = op.map T1 ++ b ∧ RowOk ns ms true true false false b ∧ RowK op.length wNotB ds ∧ OpenK op.length ds := by
  obtain ⟨op, b, hop, rfl, h1, h3⟩ := h
  have k := fun d hd => (rowOk_kind h1 d hd).2
  have ks := spread_kind hn hm k
  have es := spread_size fun d hd => (kindA_ok hn hm (k d hd)).2.2.2.2.2
  have esp : spread (op.map T1 ++ b) = op.map T1 ++ spread b := by rw [spread_app, spread_T1]
  have mem : ∀ {x : List PyData} {d : PyData} {C : PyData → Prop}, d ∈ op.map T1 ++ x → (∀ w ∈ op, C (T1 w)) → (∀ d ∈ x, C d) → C d := fun {x d C} hd a b => by
    rcases List.mem_append.mp hd with hd | hd
    · obtain ⟨w, hw, rfl⟩ := List.mem_map.mp hd
      exact a w hw
    · exact b d hd
  have hl := GG.opens_len hop
  refine ⟨op, b, hop, rfl, h1, ⟨fun d hd => mem (C := itOk) hd (fun w hw => (op_item hop hw).1) fun d hd => (kindA_ok hn hm (k d hd)).1, fun d hd => mem (C := ItemD) hd (fun w hw => (op_item hop hw).2) fun d hd => (kindA_ok hn hm (k d hd)).2.1, fun d hd => mem (C := ItemD) (by rw [esp] at hd; exact hd) (fun w hw => (op_item hop hw).2) fun d hd => (kindA_ok hn hm (ks d hd)).2.1, ?_, ?_, rowG_ok (op_rowG (rowG_of h1) op hop), fun i d hd hi => ?_⟩, op, hop, rfl, ?_⟩
  · rw [esp, List.length_append, List.length_map]
    omega
  · rw [esp, List.length_append, List.length_map]
    omega
  · rw [esp, List.getElem?_append_right (by rw [List.length_map]; exact hi)] at hd
    exact (kindA_ok hn hm (ks d (List.mem_of_getElem? hd))).2.2.2.1
  · rw [List.map_append, head_T1, List.take_left']
    rfl
end
theorem op_good : (GG.opens.all fun op => op.all fun w => okD (T1 w) && decide (PyData.depth (T1 w) ≤ 4)) = true := by decide +kernel
theorem op_heads : (GG.opens.all fun op => match op with | w :: _ => (decide (w = "look") && decide (op.length = 2)) || (decide (w = "lock") && decide (op.length = 4)) | [] => false) = true := by decide +kernel
theorem op_head {op : List Str} (h : op ∈ GG.opens) : ∃ w r, op = w :: r ∧ ((w = "look" ∧ op.length = 2) ∨ (w = "lock" ∧ op.length = 4)) := by
  have := List.all_eq_true.mp op_heads op h
  match op, this with
  | w :: r, h => 
    refine ⟨w, r, rfl, ?_⟩
    rcases Bool.or_eq_true_iff.mp h with h | h
    · obtain ⟨h1, h2⟩ := Bool.and_eq_true_iff.mp h
      exact .inl ⟨of_decide_eq_true h1, of_decide_eq_true h2⟩
    · obtain ⟨h1, h2⟩ := Bool.and_eq_true_iff.mp h
      exact .inr ⟨of_decide_eq_true h1, of_decide_eq_true h2⟩
/-- a drawn row, as the law looks at it -/
structure DrR (o : Nat) (ws : List Str) (ds : List PyData) : Prop where
  row : RowK o ws ds
  its : ∀ d ∈ ds, ItemS d ∧ SeqAt.shaped (.tuple (way d)) = true ∧ ∀ z ∈ way d, ItemD z
  good : GG.Good 60 (.tuple ds)
  shp : ∀ d ∈ spread ds, SeqAt.shaped d = true
theorem kindI_s {ns : List Str} {t : Bool} {d : PyData} (hn : NmOk ns) (h : KindI ns t d) : ItemS d := by
  have := (kindI_ok hn h).2.2.2.1
  rcases h with ⟨w, hw, rfl⟩ | ⟨n, hm, rfl⟩ | ⟨ht, rfl⟩
  · obtain ⟨w', r', e, hne, _⟩ := this
    refine .inl ⟨w, [], rfl, ?_, Nat.zero_le _⟩
    have : w = w' := PyData.str.inj (List.cons.inj (PyData.tuple.inj e)).1
    rw [this]
    exact hne
  · exact .inl ⟨"start", [.str n], rfl, by decide, Nat.le_refl _⟩
  · exact .inl ⟨"let", [], rfl, by decide, Nat.zero_le _⟩
theorem kindA_s {ns ms : List Str} {t : Bool} {d : PyData} (hn : NmOk ns) (hm : NmOk ms) (h : KindA ns ms t d) (hg : GG.Good 4 d) : ItemS d ∧ SeqAt.shaped (.tuple (way d)) = true ∧ (∀ z ∈ way d, ItemD z) ∧ ∀ z ∈ way d, SeqAt.shaped z = true := by
  obtain ⟨k1, k2, k3, _⟩ := kindA_ok hn hm h
  rcases h with h | ⟨m, hmm, o, rfl, h4, ho⟩
  · have hw := (kindI_ok hn h).2.2.1
    refine ⟨kindI_s hn h, by rw [hw]; decide +kernel, (fun z hz => by rw [hw] at hz; cases hz), (fun z hz => by rw [hw] at hz; cases hz)⟩
  · have g1 := (GG.Good.tup (n := 3)).mp hg
    have g2 := g1.2 (.tuple o) (by simp)
    have g3 := (GG.Good.tup (n := 2)).mp g2
    refine ⟨.inr ⟨_, _, rfl⟩, g2.lay (by decide), fun z hz => .inl (kindI_ok hn (ho z hz)).2.2.2.1, fun z hz => (g3.2 z hz).lay (by decide)⟩
theorem drR_of {ns ms : List Str} {t : Bool} {o : Nat} {ws : List Str} {ds : List PyData} (hn : NmOk ns) (hm : NmOk ms) (g : RowK o ws ds) (h : ∀ d ∈ ds, GG.Good 4 d ∧ (KindA ns ms t d ∨ ∃ w : Str, d = T1 w ∧ w ≠ "ask")) : DrR o ws ds := by
  have k : ∀ d ∈ ds, ItemS d ∧ SeqAt.shaped (.tuple (way d)) = true ∧ (∀ z ∈ way d, ItemD z) ∧ ∀ z ∈ way d, SeqAt.shaped z = true := fun d hd => by
    obtain ⟨h1, h2⟩ := h d hd
    rcases h2 with h2 | ⟨w, rfl, hw⟩
    · exact kindA_s hn hm h2 h1
    · exact ⟨.inl ⟨w, [], rfl, hw, Nat.zero_le _⟩, by show SeqAt.shaped (.tuple []) = true; decide +kernel, (fun z hz => nomatch (show z ∈ ([] : List PyData) from hz)), (fun z hz => nomatch (show z ∈ ([] : List PyData) from hz))⟩
  refine ⟨g, fun d hd => ⟨(k d hd).1, (k d hd).2.1, (k d hd).2.2.1⟩, (GG.good_t (n := 4) (by have := len_spread ds; have := g.l14; omega) fun d hd => (h d hd).1).mono (by decide), fun d hd => ?_⟩
  obtain ⟨e, he, hd⟩ := spread_mem hd
  rcases hd with rfl | hd
  · exact (h _ he).1.lay (by decide)
  · exact (k e he).2.2.2 d hd
theorem drR_w {ns ms : List Str} {ds : List PyData} (hn : NmOk ns) (hm : NmOk ms) (h1 : NamesOk ns) (h2 : NamesOk ms) (h : WorkOk ns ms ds) : DrR 0 wNotW ds :=
  drR_of hn hm (work_row hn hm h) fun d hd => ⟨GG.rowOk_good h1 h2 h.1 d hd, .inl (rowOk_kind h.1 d hd).2⟩
theorem drR_h {ns ms : List Str} {ds : List PyData} (hn : NmOk ns) (hm : NmOk ms) (h1 : NamesOk ns) (h2 : NamesOk ms) (h : HandOk ns ms ds) : ∃ o w, DrR o wNotB ds ∧ OpenK o ds ∧ ds[0]? = some (T1 w) ∧ ((w = "look" ∧ o = 2) ∨ (w = "lock" ∧ o = 4)) := by
  obtain ⟨op, b, hop, rfl, hb, g, ho⟩ := hand_row2 hn hm h
  obtain ⟨w, r, rfl, hw⟩ := op_head hop
  refine ⟨_, w, drR_of (t := true) hn hm g fun d hd => ?_, ho, rfl, hw⟩
  rcases List.mem_append.mp hd with hd | hd
  · obtain ⟨w', hw', rfl⟩ := List.mem_map.mp hd
    have q := List.all_eq_true.mp (List.all_eq_true.mp op_good _ hop) w' hw'
    rw [Bool.and_eq_true_iff, decide_eq_true_iff] at q
    have q2 := List.all_eq_true.mp (List.all_eq_true.mp op_words _ hop) w' hw'
    rw [Bool.and_eq_true_iff, decide_eq_true_iff] at q2
    exact ⟨⟨q.1, q.2⟩, .inr ⟨w', rfl, q2.2⟩⟩
  · exact ⟨GG.rowOk_good h1 h2 hb d hd, .inl (rowOk_kind hb d hd).2⟩
/-- standings, told item by item -/
theorem stds_at {ds : List PyData} (hF : ∀ d ∈ ds, ItF d) {i : Nat} {t : St3} (h : (stO ff3 ds)[i]? = some t) : (stds ds)[i]? = some t := by
  have g := outerT (spread ds).length ds ff3 0 (List.replicate ((spread ds).length + 1) ff3) hF (by omega) (by rw [List.length_replicate]) fun _ => by rw [List.getElem?_replicate_of_lt (by omega)]
  have k := goodT_at _ _ 0 _ g i t h
  have hl := goodT_len _ _ _ _ g
  have hi := (List.getElem?_eq_some_iff.mp h).1
  rw [← hl, List.length_zip, leads_len, Nat.min_self] at hi
  unfold stds
  rw [List.getElem?_take_of_lt hi]
  rw [Nat.zero_add] at k
  exact k
theorem itemS_f {d : PyData} (h : ItemS d) : ItF d ∧ (wayOf d = none → headW d ≠ "ask") := by
  rcases h with ⟨w, r, rfl, h1, h2⟩ | ⟨m, o, rfl⟩
  · exact ⟨.inl (way_short h2), fun _ => h1⟩
  · exact ⟨.inr ⟨rfl, rfl⟩, fun z => by cases z⟩
/-- an entry and what the row has there -/
theorem ent_facts {o : Nat} {ws : List Str} {ds : List PyData} (g : DrR o ws ds) {i : Nat} {x : Ent} (h : (ents ds)[i]? = some x) (hz : ∀ d ∈ ds, ∀ z ∈ way d, headW z ≠ "ask") : ∃ d bs s, (spread ds)[i]? = some d ∧ (leads (spread ds).length 0 ds)[i]? = some bs ∧ (stds ds)[i]? = some s ∧ EntR x d bs s ∧ bs.length ≤ 2 := by
  obtain ⟨d, bs, t, h1, h2, h3, h4⟩ := entO_at (spread ds).length ds 0 ff3 (fun d hd => ⟨(itemS_f (g.its d hd).1).1, (itemS_f (g.its d hd).1).2, hz d hd⟩) i x h
  refine ⟨d, bs, t, h1, h2, stds_at (fun d hd => (itemS_f (g.its d hd).1).1) h3, h4, ?_⟩
  rw [h4.2.2]
  split <;> simp
theorem itemI_ask {ns : List Str} {t : Bool} {d : PyData} (hn : NmOk ns) (h : KindI ns t d) : headW d ≠ "ask" := by
  obtain ⟨w, r, rfl, hw, _⟩ := (kindI_ok hn h).2.2.2.1
  exact hw
/-- odd values and how they are written -/
def ShowV (K : PySem.W.Frag) (H : Hp) (n : Nat) (v : V) (d : PyData) : Prop := (∀ H', Same H H' → NoIx K H' v ((n : Int) - 1)) ∧ Dp K H v d ∧ d.showable = true ∧ d.shown.length ≤ sizeLine ∧ d.depth ≤ 60 ∧ okD (.str d.shown) = true
theorem ints_ok : ∀ n : Nat, n < 21 → (PyData.int (n : Int)).showable = true ∧ (PyData.int (n : Int)).shown.length ≤ sizeLine ∧ okD (.str (PyData.int (n : Int)).shown) = true := by decide +kernel
theorem odd_show {K : PySem.W.Frag} {H : Hp} {n : Nat} (h20 : n ≤ 20) {t : Addr} (ht : H t = some (.tup [V.int 0])) {v : V} (hv : v ∈ [V.int (-1), .int (n : Int), .non, .bl true, .str "0", .ref t]) : ∃ d, ShowV K H n v d := by
  simp only [List.mem_cons, List.not_mem_nil, or_false] at hv
  rcases hv with rfl | rfl | rfl | rfl | rfl | rfl
  · refine ⟨.int (-1), fun _ _ => .inl ⟨-1, rfl, ?_⟩, .int _, by decide +kernel, by decide +kernel, by decide +kernel, by decide +kernel⟩
    unfold isInt
    rw [decide_eq_false (by decide)]
    rfl
  · obtain ⟨h1, h2, h3⟩ := ints_ok n (by omega)
    refine ⟨.int n, fun _ _ => .inl ⟨_, rfl, ?_⟩, .int _, h1, h2, Nat.zero_le _, h3⟩
    unfold isInt
    rw [decide_eq_false (p := ((n : Int) ≤ (n : Int) - 1)) (by omega), Bool.and_false]
  · exact ⟨.none, fun _ _ => .inr ⟨"NoneType", .base .non, .inl (by decide +kernel)⟩, .non, by decide +kernel, by decide +kernel, by decide +kernel, by decide +kernel⟩
  · exact ⟨.bool true, fun _ _ => .inr ⟨"bool", .base (.bl true), .inr ⟨by decide +kernel, by decide +kernel⟩⟩, .bl _, by decide +kernel, by decide +kernel, by decide +kernel, by decide +kernel⟩
  · exact ⟨.str "0", fun _ _ => .inr ⟨"str", .base (.str "0"), .inl (by decide +kernel)⟩, .str _, by decide +kernel, by decide +kernel, by decide +kernel, by decide +kernel⟩
  · exact ⟨.tuple [.int 0], fun H' s => .inr ⟨"tuple", .base (.tup (s _ _ ht)), .inl (by decide +kernel)⟩, .tup (.inl (.inl ht)) (.cons (.int _) .nil), by decide +kernel, by decide +kernel, by decide +kernel, by decide +kernel⟩
theorem dp_iNs2 {K : PySem.W.Frag} {H : Hp} {a : Addr} {F : List Nat} (h : H a = some (.lst (F.map iN))) : Dp K H (.ref a) (.list (F.map fun n => PyData.int (Int.ofNat n))) := by
  refine .lst (.inl (.inl h)) ?_
  have := dp_ints (K := K) (H := H) (F.map Int.ofNat)
  rw [List.map_map, List.map_map] at this
  exact this
theorem iNs_sh (F : List Nat) : SeqAt.shaped (.list (F.map fun n => PyData.int (Int.ofNat n))) = true := by
  have := ints_lay (F.map Int.ofNat)
  rw [List.map_map] at this
  exact this
def spRowR (K : PySem.W.Frag) (C : Bool → Addr) (CL : Addr) : Sp := fun vs H Q _ => ∃ (r : Addr) (x : V) (k : Bool) (ho : Option Nat) (o : Nat) (ws : List Str) (ds : List PyData), vs = [.ref r, x] ∧ RowH K (C k) CL H r ho ds ∧ Val K H x (.tuple ds) ∧ DrR o ws ds ∧ (∀ d ∈ ds, ∀ z ∈ way d, headW z ≠ "ask") ∧ ∀ H', Same H H' → Q (.bl true) H'
def spLaw (K : PySem.W.Frag) : Sp := fun vs H Q _ => ∃ (a : Addr) (ns : List Int), vs = [.ref a] ∧ SqL K H a (ns.map V.int) ∧ ns.length ≤ 63 ∧ ∀ H', Q (.bl true) H'
structure Mkr (P : Program) (w : World) (K : PySem.W.Frag) (mg : Str → Option Value) (base : Heap) (nm : Str) (C : Addr) (spO : Sp) : Prop where
  mgC : mg nm = some (.ref C)
  of_ : ∃ (mc : Value) (sm fO : Addr), ClX.CRead K C mc ∧ SMet K C mc "of" sm fO ∧ FnR P w K mg base (L2.CX P w) 10 fO spO
section
variable {P : Program} {w : World} {K : PySem.W.Frag} {C : Bool → Addr} {CL N fN : Addr} {mg : Str → Option Value} {base : Heap} {lt0 lt1 lt2 lt3 lt4 : Tok} {t0 t1 t2 t3 t4 t5 t6 t7 t8 tF tO dC : Addr}
theorem sc_l_row_right : FnScope ["_law_row", "_law_items", "_law_laid_here", "_law_place", "_law_entry", "_law_word", "_law_thing"] ["_law_row", "_law_items"] (defScope s_l_row_right) := ⟨rfl, rfl, rfl, by decide +kernel, rfl, by decide +kernel, by decide +kernel⟩
theorem ok_l_row_right {f : Addr} {fd : FuncData} (F : Fun K "_law_row_right" "_law_row_right" s_l_row_right f fd) (T : Txt K mg lt0 lt1 lt2 lt3 lt4 t0 t1 t2 t3 t4 t5 t6 t7 t8 tF tO dC) (M : ∀ k, RowM P w K mg base (C k) CL N) {f1 : Addr} {fd1 : FuncData} (F_l_laid : Fun K "_law_laid" "_law_laid" s_l_laid f1 fd1) (b_l_laid : Binds K fd1 ["_law_items"] []) (g_l_laid : mg "_law_laid" = some (.ref f1)) (G_l_laid : FnOk P w K mg base CX0 2 f1 fd1 ["_law_items"] (spLaid2 K)) {f2 : Addr} {fd2 : FuncData} (F_l_entry_right : Fun K "_law_entry_right" "_law_entry_right" s_l_entry_right f2 fd2) (b_l_entry_right : Binds K fd2 ["_law_row", "_law_place", "_law_entry"] []) (g_l_entry_right : mg "_law_entry_right" = some (.ref f2)) (G_l_entry_right : FnOk P w K mg base CX0 8 f2 fd2 ["_law_row", "_law_place", "_law_entry"] (spEntry K C CL)) {f3 : Addr} {fd3 : FuncData} (F_l_refused : Fun K "_law_refused" "_law_refused" s_l_refused f3 fd3) (b_l_refused : Binds K fd3 ["_law_row", "_law_value"] []) (g_l_refused : mg "_law_refused" = some (.ref f3)) (G_l_refused : FnG P w K mg base CX0 8 f3 fd3 ["_law_row", "_law_value"] (spRefused K C CL)) : FnG P w K mg base CX0 9 f fd ["_law_row", "_law_items"] (spRowR K C CL) := by
  refine Fun.okG F sc_l_row_right (fun vs H Q E h => ?_) (fun cdv A outer s H vs Q E hr gd h => ?_)
  · obtain ⟨r, x, k, ho, o, ws, ds, rfl, _⟩ := h
    rfl
  · obtain ⟨r, x, k, ho, o, ws, ds, rfl, row, hv, g, hz, q⟩ := h
    obtain ⟨pp, fP, fdP, PP_, bP, GP⟩ := (M k).parts
    obtain ⟨pz, fZ, fdZ, PZ_, bZ, GZ⟩ := (M k).size
    obtain ⟨gE, e1, e3, RE⟩ := (M k).len
    obtain ⟨gL, M_places, R_places⟩ := (M k).places
    have hr2 : Room 2 _ := hr.mono (by decide)
    refine ⟨_, (pss_cons (ps_set (i := 2) sc_l_row_right.nd rfl (.inl rfl) (pe_call G_l_laid (hr.mono (by decide)) (by rfl) g_l_laid F_l_laid.kp b_l_laid .nil pass0 (pa_cons (pv 1) pa_nil))) 
    (pss_cons (ps_if (PW.pt (pw_or (pt_cmpR (op_neD hr.units) (pe_prop (pv 0) (M k).cl PP_ GP hr2 bP .nil pass0 (by rfl)) (pv 1) (nomark _)) (pw_or (pt_cmpR op_ne (pe_prop (pv 0) (M k).cl PZ_ GZ hr2 bZ .nil pass0 (by rfl)) (pe_callB call_len_seq (by rfl) T.m_len PySem.boot_len (pa_cons (pv 2) pa_nil)) (nomark _)) (pw_or1 (pt_cmpR op_ne (pe_callB (call_lenO RE hr2 pass0 e1 e3) (by rfl) T.m_len PySem.boot_len (pa_cons (pv 0) pa_nil)) (pe_callB call_len_seq (by rfl) T.m_len PySem.boot_len (pa_cons (pv 1) pa_nil)) (nomark _)))))) 
      (pss_one (ps_ret pe_bl)) pss_nil) 
    (pss_cons (ps_for PassesOwn.never rfl (pi_enum (by rfl) T.m_enumerate (pa_cons (pv 2) pa_nil)) (pg_tup rfl (pgs_cons (pg_name (i := 3) sc_l_row_right.nd rfl (.inl rfl)) (pgs_cons (pg_name (i := 4) sc_l_row_right.nd rfl (.inl rfl)) pgs_nil))) 
      (pss_one (ps_if (pt_not (pt_val (pe_call G_l_entry_right (hr.mono (by decide)) (by rfl) g_l_entry_right F_l_entry_right.kp b_l_entry_right .nil pass0 (pa_cons (pv 0) (pa_cons (pv 3) (pa_cons (pv 4) pa_nil)))))) 
        (pss_one (ps_ret pe_bl)) pss_nil))) 
    (pss_cons (ps_for PassesOwn.never rfl (pi_list (pe_lst (pa_cons pe_str (pa_cons pe_str (pa_cons pe_str (pa_cons pe_str (pa_cons pe_str (pa_cons pe_str (pa_cons pe_str (pa_cons pe_str (pa_cons pe_str pa_nil))))))))))) (pg_name (i := 5) sc_l_row_right.nd rfl (.inr rfl)) 
      (pss_one (ps_if (pt_cmpR (op_neD hr.units) (pe_methRS (E := fun _ => E0) (pv 0) (M k).cl M_places R_places hr2 (pat pass0) (pa_cons (pv 5) pa_nil)) (pe_lc (own := [("_law_place", 3), ("_law_entry", 4)]) (g := gTup K 2 (gCons (gName 3) (gCons (gName 4) gNil))) rfl sc_l_row_right.nd (pi_enum (by rfl) T.m_enumerate (pa_cons (pv 2) pa_nil)) (blkOk_by (N := ["_law_row", "_law_items", "_law_laid_here", "_law_place", "_law_entry", "_law_word", "_law_thing"]) (sc := defScope s_l_row_right) (by decide +kernel)) (fun _ _ _ _ _ => pg_tup rfl (pgs_cons (pg_name (i := 3) sc_l_row_right.nd rfl (.inl rfl)) (pgs_cons (pg_name (i := 4) sc_l_row_right.nd rfl (.inl rfl)) pgs_nil))) (fun _ _ _ _ _ => (pts_one (pt_cmpR op_eq (pe_ix (r := rIxT K) ix_tup (pe_ix (r := rIxL K) ix_list (pv 4) pe_int (fun _ _ => rfl)) pe_int (fun _ _ => rfl)) (pv 5) (nomark _)))) (fun _ _ _ _ _ => (pv 3))) (nomark _)) 
        (pss_one (ps_ret pe_bl)) pss_nil))) 
    (pss_one (ps_ret (pe_cmpR (op_eqD hr.units) (pe_lc (own := [("_law_thing", 6)]) (g := gName 6) rfl sc_l_row_right.nd (pi_list (pe_lst (pa_cons (pe_un un_neg pe_int) (pa_cons (pe_callB call_len_seq (by rfl) T.m_len PySem.boot_len (pa_cons (pv 2) pa_nil)) (pa_cons pe_non (pa_cons pe_bl (pa_cons pe_str (pa_cons (pe_tup (pa_cons pe_int pa_nil)) pa_nil)))))))) (blkOk_by (N := ["_law_row", "_law_items", "_law_laid_here", "_law_place", "_law_entry", "_law_word", "_law_thing"]) (sc := defScope s_l_row_right) (by decide +kernel)) (fun _ _ _ _ _ => pg_name (i := 6) sc_l_row_right.nd rfl (.inl rfl)) (fun _ _ _ _ _ => (pts_one (pt_not (pt_val (pe_callG G_l_refused gd (hr.mono (by decide)) (by rfl) g_l_refused F_l_refused.kp b_l_refused pass0 (pa_cons (pv 0) (pa_cons (pv 6) pa_nil))))))) (fun _ _ _ _ _ => (pv 6))) (pe_lst pa_nil) (nomark _)))))))), ?_⟩
    obtain ⟨b, xs, rfl, hs, ha, hl, h1000, hget⟩ := hv.tup
    have hlay := hv.dp.2.lay (by decide)
    have h14 := g.row.l14
    refine ⟨_, rfl, .ref b, ds, rfl, hv.dp.1, g.its, (by omega), fun H1 l zs s1 nl el hent => ?_⟩
    have row1 := row.same s1
    obtain ⟨dx, y, p, h1, hL, h3⟩ := id row1
    have helen : (ents ds).length = (spread ds).length := entO_len _ ds 0 ff3
    refine ⟨_, rfl, r, dx, _, rfl, h1, r, dx, _, _, rfl, h1, rowFl_p _ _ _, _, rfl, .tuple ds, .tuple ds, h3.dp.1, (hv.same s1).dp.1, hlay, hlay, _, rfl, iteB (c := false) (by rw [self_eqv hlay]; rfl) (iteF ?_)⟩
    refine ⟨_, rfl, r, dx, _, rfl, h1, r, ho, ds, rfl, row1, _, rfl, l, zs, rfl, .inl (.inl (.inl el)), rfl, _, rfl, iteB (c := false) ?_ (iteF ?_)⟩
    · have e : V.int (zs.length : Nat) = iN (spread ds).length := by rw [hent.1, helen]; rfl
      show (!decide (iN (spread ds).length = V.int (zs.length : Nat))) = false
      rw [e, decide_eq_true rfl]
      rfl
    refine ⟨_, rfl, r, dx, _, rfl, h1, r, ho, ds, rfl, row1, ds.length, rfl, by omega, _, rfl, b, xs, rfl, .inr (Same.seqT s1 hs), rfl, _, rfl, iteB (c := false) (by rw [hl, decide_eq_true rfl]; rfl) (iteF ?_)⟩
    refine ⟨_, rfl, l, zs, rfl, .inl (.inl el), for_it walk_enum (fun i σ H' => Same H1 H' ∧ ∃ y3 y4 y5 y6 : Option V, σ = [some (.ref r), some (.ref b), some (.ref l), y3, y4, y5, y6]) ⟨Same.refl _, _, _, _, _, rfl⟩ (fun i σ H' _ h => .inl (.inl (h.1 _ _ el))) ?_ ?_⟩
    · rintro i x σ H2 H2' hi ⟨s2, y3, y4, y5, y6, rfl⟩ ⟨t, u, v, rfl, ht, rfl, hu, hx⟩
      have eu : u = .int (i : Nat) := (Option.some.inj hu).symm
      subst eu
      have hx : zs[i]? = some v := hx
      have hil : i < (ents ds).length := by
        have := hent.1
        omega
      have hti : (ents ds)[i]? = some (ents ds)[i] := List.getElem?_eq_getElem hil
      obtain ⟨x', hx', hE⟩ := hent.2 i _ hti
      have ex : v = x' := Option.some.inj (hx.symm.trans hx')
      subst ex
      obtain ⟨d, bs, st, k1, k2, k3, k4, k5⟩ := ent_facts g hti hz
      have s3 := s2.trans (same_upd (o := .tup [.int (i : Nat), v]) ht)
      refine ⟨t, _, rfl, .inl (.inl upd_same), rfl, _, _, rfl, _, _, rfl, ?_⟩
      refine ⟨rfl, _, rfl, _, rfl, _, rfl, r, i, v, k, ho, ds, _, d, bs, st, rfl, row1.same s3, by rw [helen] at hil; exact hil, hE.same s3, k1, k2, k3, k4, g.row.sins d (List.mem_of_getElem? k1), g.shp d (List.mem_of_getElem? k1), k5, fun H3 s4 => ⟨_, rfl, iteF ⟨s3.trans s4, _, _, _, _, rfl⟩⟩⟩
    · rintro σ H2 ⟨s2, y3, y4, y5, y6, rfl⟩
      refine ⟨(by show 9 ≤ sizeLine; decide), fun lw hlw => ?_⟩
      have s3 := s2.trans (same_upd (o := .lst [V.str "look", V.str "hold", V.str "let", V.str "touch", V.str "ask", V.str "lock", V.str "unlock", V.str "start", V.str "none"]) hlw)
      have elw : (upd H2 lw (.lst [V.str "look", V.str "hold", V.str "let", V.str "touch", V.str "ask", V.str "lock", V.str "unlock", V.str "start", V.str "none"])) lw = some (.lst [V.str "look", V.str "hold", V.str "let", V.str "touch", V.str "ask", V.str "lock", V.str "unlock", V.str "start", V.str "none"]) := upd_same
      refine ⟨lw, rfl, ⟨_, .inl (.inl elw)⟩, ?_⟩
      generalize upd H2 lw (.lst [V.str "look", V.str "hold", V.str "let", V.str "touch", V.str "ask", V.str "lock", V.str "unlock", V.str "start", V.str "none"]) = H3 at s3 elw ⊢
      refine for_it (walk_list (xs := [V.str "look", V.str "hold", V.str "let", V.str "touch", V.str "ask", V.str "lock", V.str "unlock", V.str "start", V.str "none"])) (fun i σ H' => Same H3 H' ∧ ∃ y3 y4 y5 y6 : Option V, σ = [some (.ref r), some (.ref b), some (.ref l), y3, y4, y5, y6]) ⟨Same.refl _, _, _, _, _, rfl⟩ (fun i σ H' _ h => .inl (.inl (h.1 _ _ elw))) ?_ ?_
      · rintro i x σ _ H4 hi ⟨s4, y3, y4, y5, y6, rfl⟩ ⟨rfl, hx⟩
        obtain ⟨z, rfl⟩ : ∃ z : Str, x = .str z := by
          have := List.mem_of_getElem? hx
          simp only [List.mem_cons, List.not_mem_nil, or_false] at this
          rcases this with rfl | rfl | rfl | rfl | rfl | rfl | rfl | rfl | rfl <;> exact ⟨_, rfl⟩
        have s14 := s3.trans s4
        refine ⟨_, rfl, r, dx, _, rfl, s14 _ _ h1, (rowFl_no _ _ _ (by decide +kernel) (by decide +kernel) (by decide +kernel)), _, rfl, r, z, ho, ds, rfl, row1.same s14, g.row.sins, by omega, fun H5 lp s5 nlp elp => ?_⟩
        have s15 := s14.trans s5
        have el5 := s15 _ _ el
        refine ⟨_, rfl, l, zs, rfl, .inl (.inl el5), fun D hD => lc_it walk_enum (fun j H' => Same H5 H' ∧ H' D = some (.lst (((List.range j).filter fun i => decide (headW ((spread ds).getD i .none) = z)).map iN))) ⟨same_upd hD, upd_same⟩ (fun j H' _ h => .inl (.inl (h.1 _ _ el5))) ?_ ?_⟩
        · rintro m x Hd He hm ⟨s8, e8⟩ ⟨t, u, v, rfl, ht, rfl, hu, hv9⟩
          have eu : u = .int (m : Nat) := (Option.some.inj hu).symm
          subst eu
          have hv9 : zs[m]? = some v := hv9
          have hml : m < (ents ds).length := by
            have := hent.1
            omega
          have hti : (ents ds)[m]? = some (ents ds)[m] := List.getElem?_eq_getElem hml
          obtain ⟨x', hx', hE⟩ := hent.2 m _ hti
          have ex : v = x' := Option.some.inj (hv9.symm.trans hx')
          subst ex
          obtain ⟨d, bs, st, k1, k2, k3, ⟨k4, _, _⟩, k5⟩ := ent_facts g hti hz
          have s10 := s8.trans (same_upd (o := .tup [.int (m : Nat), v]) ht)
          obtain ⟨a, v0, rfl, ea, hv0⟩ := hE.same (s15.trans s10)
          rw [k4] at hv0
          obtain ⟨hw, r5, hde, hhd⟩ := (g.row.sins d (List.mem_of_getElem? k1)).head
          rw [hde] at hv0
          obtain ⟨xa, xv, rfl, hxs, hx0⟩ := dp_head hv0
          have e8' := (same_upd (o := .tup [.int (m : Nat), .ref a]) ht) _ _ e8
          refine ⟨t, _, rfl, .inl (.inl upd_same), rfl, _, _, rfl, _, [], rfl, rfl, rfl, _, rfl, a, _, _, _, rfl, rfl, .inl (.inl ea), atI_nat (j := 0) rfl, xa, xv, _, _, rfl, rfl, hxs, hx0, _, rfl, rfl, _, rfl, ite2 (fun hh => ?_) (fun hh => ?_)⟩
          · have hh : hw = z := V.str.inj (of_decide_eq_true hh)
            refine ⟨_, rfl, _, e8', ?_, same_st s10 hD, ?_⟩
            · rw [List.length_map]
              refine small1000 ?_
              have := List.length_filter_le (fun i => decide (headW ((spread ds).getD i .none) = z)) (List.range m)
              rw [List.length_range] at this
              omega
            · rw [upd_same, plc_snoc k1, hde, if_pos (show headW (.tuple (.str hw :: r5)) = z from hh), List.map_append]
              rfl
          · have hh : ¬ hw = z := fun q => hh (decide_eq_true (by rw [q]))
            refine ⟨s10, ?_⟩
            rw [e8', plc_snoc k1, hde, if_neg (show ¬ headW (.tuple (.str hw :: r5)) = z from hh), List.append_nil]
        · rintro H9 ⟨s9, e9⟩
          rw [hent.1, helen] at e9
          have e9 : H9 D = some (.lst ((plc ds z).map iN)) := e9
          exact ⟨_, _, dp_iNs2 (s9 _ _ elp), dp_iNs2 e9, iNs_sh _, iNs_sh _, _, rfl, iteB (c := false) (by rw [self_eqv (iNs_sh _)]; rfl) (iteF ⟨s4.trans (s5.trans s9), _, _, _, _, rfl⟩)⟩
      · rintro σ H4 ⟨s4, y3, y4, y5, y6, rfl⟩
        have s14 := s3.trans s4
        refine ⟨_, rfl, _, rfl, l, zs, rfl, .inl (.inl (.inl (s14 _ _ el))), (by show 1 ≤ sizeLine; decide), fun tz htz => ⟨(by show 6 ≤ sizeLine; decide), fun lo hlo => ?_⟩⟩
        have a1 := same_upd (o := .tup [V.int 0]) htz
        have a2 := same_upd (o := .lst [V.int (-1), .int (zs.length : Nat), .non, .bl true, .str "0", .ref tz]) hlo
        have etz := a2 _ _ (upd_same (H := H4) (a := tz) (o := .tup [V.int 0]))
        have s15 := s14.trans (a1.trans a2)
        have elo : (upd (upd H4 tz (.tup [V.int 0])) lo (.lst [V.int (-1), .int (zs.length : Nat), .non, .bl true, .str "0", .ref tz])) lo = some (.lst [V.int (-1), .int (zs.length : Nat), .non, .bl true, .str "0", .ref tz]) := upd_same
        generalize upd (upd H4 tz (.tup [V.int 0])) lo (.lst [V.int (-1), .int (zs.length : Nat), .non, .bl true, .str "0", .ref tz]) = H5 at s15 etz elo ⊢
        refine ⟨lo, rfl, ⟨_, .inl (.inl elo)⟩, fun D hD => lc_it (walk_list (xs := [V.int (-1), .int (zs.length : Nat), .non, .bl true, .str "0", .ref tz])) (fun j H' => Same H5 H' ∧ H' D = some (.lst [])) ⟨same_upd hD, upd_same⟩ (fun j H' _ h => .inl (.inl (h.1 _ _ elo))) ?_ ?_⟩
        · rintro j x _ H6 hj ⟨s6, e6⟩ ⟨rfl, hx⟩
          have hm := List.mem_of_getElem? hx
          rw [hent.1, helen] at hm
          obtain ⟨d, o1, o2, o3, o4, o5, o6⟩ := odd_show (K := K) (n := (spread ds).length) (by omega) (s6 _ _ etz) hm
          exact ⟨rfl, _, rfl, _, rfl, r, x, d, k, ho, ds, rfl, row1.same (s15.trans s6), o1, o2, o3, o4, o5, o6, fun H7 s7 => ⟨_, rfl, iteF ⟨s6.trans s7, s7 _ _ e6⟩⟩⟩
        · rintro H6 ⟨s6, e6⟩
          refine ⟨Nat.zero_le _, fun l9 hl9 => ⟨.list [], .list [], .lst (.inl (.inl ((same_upd hl9) _ _ e6))) .nil, .lst (.inl (.inl upd_same)) .nil, by decide +kernel, by decide +kernel, ?_⟩⟩
          exact q _ (s1.trans (s15.trans (s6.trans (same_upd hl9))))
end
end K04

namespace K04
open PySem PySem.Spec PyProof.Rows StX L2 TL GG OO LY
theorem hz_k {ns ms : List Str} {t : Bool} {d z : PyData} (hn : NmOk ns) (h : KindA ns ms t d) (hz : z ∈ way d) : headW z ≠ "ask" := by
  rcases h with h | ⟨m, hmm, o, rfl, h4, ho⟩
  · rw [(kindI_ok hn h).2.2.1] at hz
    cases hz
  · exact itemI_ask hn (ho z hz)
theorem hz_w {ns ms : List Str} {ds : List PyData} (hn : NmOk ns) (h : WorkOk ns ms ds) : ∀ d ∈ ds, ∀ z ∈ way d, headW z ≠ "ask" := fun d hd z hz => hz_k hn (rowOk_kind h.1 d hd).2 hz
theorem hz_h {ns ms : List Str} {ds : List PyData} (hn : NmOk ns) (h : HandOk ns ms ds) : ∀ d ∈ ds, ∀ z ∈ way d, headW z ≠ "ask" := fun d hd z hz => by
  obtain ⟨op, b, hop, rfl, hb, _⟩ := h
  rcases List.mem_append.mp hd with hd | hd
  · obtain ⟨w, hw, rfl⟩ := List.mem_map.mp hd
    exact nomatch (show z ∈ ([] : List PyData) from hz)
  · exact hz_k hn (rowOk_kind hb d hd).2 hz
theorem nm_w : NmOk ["w", "v"] := fun n h => by
  simp only [List.mem_cons, List.not_mem_nil, or_false] at h
  rcases h with rfl | rfl <;> decide +kernel
theorem nm_g : NmOk ["gone", "m"] := fun n h => by
  simp only [List.mem_cons, List.not_mem_nil, or_false] at h
  rcases h with rfl | rfl <;> decide +kernel
theorem ok_w : NamesOk ["w", "v"] := fun n h => by
  simp only [List.mem_cons, List.not_mem_nil, or_false] at h
  rcases h with rfl | rfl <;> exact ⟨by unfold Sane; decide +kernel, by decide⟩
theorem ok_g : NamesOk ["gone", "m"] := fun n h => by
  simp only [List.mem_cons, List.not_mem_nil, or_false] at h
  rcases h with rfl | rfl <;> exact ⟨by unfold Sane; decide +kernel, by decide⟩
theorem eqv_T1s {a b : Str} : PyData.eqv (T1 a) (T1 b) = decide (a = b) := by
  have e1 := eqv_strs [a] [b]
  have e2 : PyData.eqv (T1 a) (T1 b) = PyData.eqvAll ([a].map PyData.str) ([b].map PyData.str) := rfl
  rw [Bool.eq_iff_iff, decide_eq_true_iff, e2, e1]
  exact ⟨fun h => (List.cons.inj h).1, fun h => by rw [h]⟩
section
variable {P : Program} {w : World} {K : PySem.W.Frag} {C : Bool → Addr} {CL N fN : Addr} {mg : Str → Option Value} {base : Heap} {lt0 lt1 lt2 lt3 lt4 : Tok} {t0 t1 t2 t3 t4 t5 t6 t7 t8 tF tO dC : Addr}
theorem sc_l_law : FnScope ["_law_script", "_law_k", "_law_cell", "_law_pool_here", "_law_names", "_law_turn", "_law_items", "_law_row", "_law_opening"] ["_law_script"] (defScope s_law) := ⟨rfl, rfl, rfl, by decide +kernel, rfl, by decide +kernel, by decide +kernel⟩
theorem ok_l_law {f : Addr} {fd : FuncData} (F : Fun K "law" "law" s_law f fd) (T : Txt K mg lt0 lt1 lt2 lt3 lt4 t0 t1 t2 t3 t4 t5 t6 t7 t8 tF tO dC) (M : ∀ k, RowM P w K mg base (C k) CL N) (MH : Mkr P w K mg base "HandRow" (C true) (spHrOf K (C true) CL)) (MW : Mkr P w K mg base "WorkRow" (C false) (spWrOf K (C false) CL)) (MO : ∃ (pp fP : Addr) (fdP : FuncData), PropOf K (C true) "opening" pp fP ∧ Binds K fdP ["self"] [] ∧ FnOk P w K mg base CX0 1 fP fdP ["self"] (spOpn K (C true) CL)) {f1 : Addr} {fd1 : FuncData} (F_l_pool : Fun K "_law_pool" "_law_pool" s_l_pool f1 fd1) (b_l_pool : Binds K fd1 ["_law_cell", "_law_salt", "_law_many"] []) (g_l_pool : mg "_law_pool" = some (.ref f1)) (G_l_pool : FnOk P w K mg base CX0 2 f1 fd1 ["_law_cell", "_law_salt", "_law_many"] (spPool K)) {f2 : Addr} {fd2 : FuncData} (F_l_hand : Fun K "_law_hand" "_law_hand" s_l_hand f2 fd2) (b_l_hand : Binds K fd2 ["_law_pool_here", "_law_names"] []) (g_l_hand : mg "_law_hand" = some (.ref f2)) (G_l_hand : FnOk P w K mg base CX0 5 f2 fd2 ["_law_pool_here", "_law_names"] (spHand K)) {f3 : Addr} {fd3 : FuncData} (F_l_work : Fun K "_law_work" "_law_work" s_l_work f3 fd3) (b_l_work : Binds K fd3 ["_law_pool_here", "_law_names"] []) (g_l_work : mg "_law_work" = some (.ref f3)) (G_l_work : FnOk P w K mg base CX0 5 f3 fd3 ["_law_pool_here", "_law_names"] (spWork K)) {f4 : Addr} {fd4 : FuncData} (F_l_row_right : Fun K "_law_row_right" "_law_row_right" s_l_row_right f4 fd4) (b_l_row_right : Binds K fd4 ["_law_row", "_law_items"] []) (g_l_row_right : mg "_law_row_right" = some (.ref f4)) (G_l_row_right : FnG P w K mg base CX0 9 f4 fd4 ["_law_row", "_law_items"] (spRowR K C CL)) : FnG P w K mg base CX0 12 f fd ["_law_script"] (spLaw K) := by
  refine Fun.okG F sc_l_law (fun vs H Q E h => ?_) (fun cdv A outer s H vs Q E hr gd h => ?_)
  · obtain ⟨a, ns, rfl, _⟩ := h
    rfl
  · obtain ⟨a, ns, rfl, hS, hlen, q⟩ := h
    obtain ⟨mc0, sm0, f0, RD0, SM0, R0⟩ := MH.of_
    obtain ⟨mc1, sm1, f1, RD1, SM1, R1⟩ := MW.of_
    obtain ⟨pp, fP, fdP, PP_, bP, GP⟩ := MO
    have hr2 : Room 2 _ := hr.mono (by decide)
    have hr10 : Room 10 _ := hr.mono (by decide)
    refine ⟨_, (pss_cons (ps_for PassesOwn.never rfl (pi_enum (by rfl) T.m_enumerate (pa_cons (pe_op op_cat (pe_slice sl_list (pv 0) po_none (po_some pe_int)) (pe_op op_rep (pe_lst (pa_cons pe_int pa_nil)) (pe_callTy call_int1 (by rfl) T.m_int (by decide +kernel) (pa_cons (pe_cmpR (op_eqD hr.units) (pv 0) (pe_lst pa_nil) (nomark _)) pa_nil)))) pa_nil)) (pg_tup rfl (pgs_cons (pg_name (i := 1) sc_l_law.nd rfl (.inl rfl)) (pgs_cons (pg_name (i := 2) sc_l_law.nd rfl (.inl rfl)) pgs_nil))) 
      (pss_cons (ps_set (i := 3) sc_l_law.nd rfl (.inl rfl) (pe_call G_l_pool (hr.mono (by decide)) (by rfl) g_l_pool F_l_pool.kp b_l_pool .nil pass0 (pa_cons (pv 2) (pa_cons (pe_op op_add pe_int (pv 1)) (pa_cons pe_int pa_nil))))) 
      (pss_cons (ps_set (i := 4) sc_l_law.nd rfl (.inl rfl) (pe_lst (pa_cons (pe_lst (pa_cons pe_str (pa_cons pe_str pa_nil))) (pa_cons (pe_lst (pa_cons pe_str (pa_cons pe_str pa_nil))) pa_nil)))) 
      (pss_cons (ps_for PassesOwn.never rfl (pi_range1 rfl T.m_range (pa_cons pe_int pa_nil)) (pg_name (i := 5) sc_l_law.nd rfl (.inl rfl)) 
        (pss_cons (ps_set (i := 6) sc_l_law.nd rfl (.inl rfl) (pe_call G_l_hand (hr.mono (by decide)) (by rfl) g_l_hand F_l_hand.kp b_l_hand .nil pass0 (pa_cons (pv 3) (pa_cons (pv 4) pa_nil)))) 
        (pss_cons (ps_set (i := 7) sc_l_law.nd rfl (.inl rfl) (pe_smethS (E := fun _ => E0) (pe_glob (v := .ref (C true)) rfl MH.mgC rfl) RD0 SM0 R0 hr10 (pat passL) (pa_cons (pv 6) pa_nil))) 
        (pss_cons (ps_set (i := 8) sc_l_law.nd rfl (.inl rfl) (pe_ifExp (pt_cmpR (op_eqD hr.units) (pe_ix ix_tup (pv 6) pe_int (fun _ _ => rfl)) (pe_tup (pa_cons pe_str pa_nil)) (nomark _)) pe_int pe_int)) 
        (pss_one (ps_if (PW.pt (pw_or (pt_not (pt_val (pe_callG G_l_row_right gd (hr.mono (by decide)) (by rfl) g_l_row_right F_l_row_right.kp b_l_row_right pass0 (pa_cons (pv 7) (pa_cons (pv 6) pa_nil))))) (pw_or1 (pt_cmpR op_ne (pe_prop (pv 7) (M true).cl PP_ GP hr2 bP .nil pass0 (by rfl)) (pv 8) (nomark _))))) 
          (pss_one (ps_ret pe_bl)) pss_nil)))))) 
      (pss_one (ps_for PassesOwn.never rfl (pi_range1 rfl T.m_range (pa_cons pe_int pa_nil)) (pg_name (i := 5) sc_l_law.nd rfl (.inl rfl)) 
        (pss_cons (ps_set (i := 6) sc_l_law.nd rfl (.inl rfl) (pe_call G_l_work (hr.mono (by decide)) (by rfl) g_l_work F_l_work.kp b_l_work .nil pass0 (pa_cons (pv 3) (pa_cons (pv 4) pa_nil)))) 
        (pss_one (ps_if (pt_not (pt_val (pe_callG G_l_row_right gd (hr.mono (by decide)) (by rfl) g_l_row_right F_l_row_right.kp b_l_row_right pass0 (pa_cons (pe_smethS (E := fun _ => E0) (pe_glob (v := .ref (C false)) rfl MW.mgC rfl) RD1 SM1 R1 hr10 (pat passL) (pa_cons (pv 6) pa_nil)) (pa_cons (pv 6) pa_nil))))) 
          (pss_one (ps_ret pe_bl)) pss_nil))))))))) 
    (pss_one (ps_ret pe_bl))), ?_⟩
    refine ⟨_, rfl, _, rfl, a, _, rfl, hS, fun t24 n24 => ?_⟩
    have s0 := same_upd (o := .lst (cutV (ns.map V.int) none (some (6 : Int)))) n24
    have ec : (upd H t24 (.lst (cutV (ns.map V.int) none (some (6 : Int))))) t24 = some (.lst (cutV (ns.map V.int) none (some (6 : Int)))) := upd_same
    generalize upd H t24 (.lst (cutV (ns.map V.int) none (some (6 : Int)))) = H25 at s0 ec ⊢
    refine ⟨(by show 1 ≤ sizeLine; decide), fun t25 n25 => ?_⟩
    have sa := same_upd (o := .lst [V.int 7]) n25
    replace s0 := s0.trans sa
    replace ec := sa _ _ ec
    have el : (upd H25 t25 (.lst [V.int 7])) t25 = some (.lst [V.int 7]) := upd_same
    clear sa
    generalize upd H25 t25 (.lst [V.int 7]) = H26 at s0 ec el ⊢
    refine ⟨_, rfl, Nat.zero_le _, fun t26 n26 => ?_⟩
    have sa := same_upd (o := .lst []) n26
    replace s0 := s0.trans sa
    replace ec := sa _ _ ec
    replace el := sa _ _ el
    have ee : (upd H26 t26 (.lst [])) t26 = some (.lst []) := upd_same
    clear sa
    generalize upd H26 t26 (.lst []) = H27 at s0 ec el ee ⊢
    refine ⟨_, _, .lst (s0.seq hS) (dp_ints ns), .lst (xs := []) (.inl (.inl ee)) .nil, ints_lay ns, rfl, .inr ⟨_, rfl, t25, _, [V.int 7], rfl, rfl, el, ?z1, ?z2, ?z3, fun t27 n27 => ?_⟩⟩
    case z1 => split <;> decide
    case z2 => split <;> decide
    case z3 => split <;> decide
    have sa := same_upd (o := .lst (List.replicate (if PyData.eqv (.list (ns.map PyData.int)) (.list []) = true then (1 : Int) else 0).toNat [V.int 7]).flatten) n27
    replace s0 := s0.trans sa
    replace ec := sa _ _ ec
    have er : (upd H27 t27 (.lst (List.replicate (if PyData.eqv (.list (ns.map PyData.int)) (.list []) = true then (1 : Int) else 0).toNat [V.int 7]).flatten)) t27 = some (.lst (List.replicate (if PyData.eqv (.list (ns.map PyData.int)) (.list []) = true then (1 : Int) else 0).toNat [V.int 7]).flatten) := upd_same
    clear sa
    generalize upd H27 t27 (.lst (List.replicate (if PyData.eqv (.list (ns.map PyData.int)) (.list []) = true then (1 : Int) else 0).toNat [V.int 7]).flatten) = H28 at s0 ec er ⊢
    have hrl : (List.replicate (if PyData.eqv (.list (ns.map PyData.int)) (.list []) = true then (1 : Int) else 0).toNat [V.int 7]).flatten.length ≤ 1 := by
      split <;> decide
    have hcl : (cutV (ns.map V.int) none (some (6 : Int))).length ≤ ns.length := by
      have h := List.length_map (f := V.int) (as := ns)
      unfold cutV
      rw [List.length_take, List.length_drop]
      omega
    refine ⟨t24, t27, _, _, rfl, rfl, ec, er, ?z4, fun t28 n28 => ?_⟩
    case z4 =>
      exact Nat.le_of_lt (small1000 (by omega))
    obtain ⟨cells, hcells⟩ : ∃ cells : List V, cells = cutV (ns.map V.int) none (some (6 : Int)) ++ (List.replicate (if PyData.eqv (.list (ns.map PyData.int)) (.list []) = true then (1 : Int) else 0).toNat [V.int 7]).flatten := ⟨_, rfl⟩
    have hxs : ∀ x ∈ cells, ∃ c, x = V.int c := by
      intro x hx
      rw [hcells, List.mem_append] at hx
      rcases hx with hx | hx
      · obtain ⟨i, hi⟩ := List.getElem?_of_mem hx
        obtain ⟨c, _, e⟩ := List.mem_map.mp (cut_mem hi)
        exact ⟨c, e.symm⟩
      · obtain ⟨l, h1, h2⟩ := List.mem_flatten.mp hx
        rw [(List.mem_replicate.mp h1).2, List.mem_singleton] at h2
        exact ⟨7, h2⟩
    have hxl : cells.length ≤ 100 := by
      rw [hcells, List.length_append]
      omega
    rw [← hcells]
    replace s0 := s0.trans (same_upd (o := .lst cells) n28)
    have ep : (upd H28 t28 (.lst cells)) t28 = some (.lst cells) := upd_same
    generalize upd H28 t28 (.lst cells) = HC at s0 ep ⊢
    clear ec er hrl hcells
    refine ⟨t28, cells, rfl, .inl (.inl ep), ?_⟩
    refine for_it walk_enum (fun i σ H' => Same HC H' ∧ ∃ y1 y2 y3 y4 y5 y6 y7 y8 : Option V, σ = [some (.ref a), y1, y2, y3, y4, y5, y6, y7, y8]) ⟨Same.refl _, _, _, _, _, _, _, _, _, rfl⟩ (fun i σ H' _ h => .inl (.inl (h.1 _ _ ep))) ?_ ?_
    · rintro i x σ Ha Hb hi ⟨s6, y1, y2, y3, y4, y5, y6, y7, y8, rfl⟩ ⟨t, kk, x, rfl, ht, rfl, hk, hx⟩
      obtain ⟨c, rfl⟩ := hxs x (List.mem_of_getElem? hx)
      have ek : kk = .int (i : Nat) := (Option.some.inj hk).symm
      subst ek
      have hi100 : i < 100 := by omega
      have s7 := s6.trans (same_upd (o := .tup [.int (i : Nat), .int c]) ht)
      refine ⟨t, _, rfl, .inl (.inl upd_same), rfl, _, _, rfl, _, [], rfl, rfl, ?_⟩
      generalize upd Ha t (.tup [.int (i : Nat), .int c]) = Hc at s7 ⊢
      refine ⟨_, rfl, _, rfl, _, _, rfl, rfl, c, _, _, rfl, ⟨by omega, by omega⟩, ⟨by decide, by decide⟩, fun R H3 p sR k sH => ?_⟩
      refine ⟨(by show 2 ≤ sizeLine; decide), fun n0 hn0 => ?_⟩
      obtain ⟨gi, kn0⟩ := lst_raw [V.str "w", V.str "v"] k hn0
      have g := gi
      generalize upd R n0 (.lst [V.str "w", V.str "v"]) = Ra at gi g kn0 ⊢
      generalize upd H3 n0 (.lst [V.str "w", V.str "v"]) = H3a at gi g kn0 ⊢
      refine ⟨(by show 2 ≤ sizeLine; decide), fun n1 hn1 => ?_⟩
      obtain ⟨gi, kn1⟩ := lst_raw [V.str "gone", V.str "m"] g.rest hn1
      replace g := g.trans gi
      replace kn0 := gi.same _ _ kn0
      generalize upd Ra n1 (.lst [V.str "gone", V.str "m"]) = Rb at gi g kn0 kn1 ⊢
      generalize upd H3a n1 (.lst [V.str "gone", V.str "m"]) = H3b at gi g kn0 kn1 ⊢
      refine ⟨(by show 2 ≤ sizeLine; decide), fun nm hnm => ?_⟩
      obtain ⟨gi, knm⟩ := lst_raw [V.ref n0, .ref n1] g.rest hnm
      replace g := g.trans gi
      replace kn0 := gi.same _ _ kn0
      replace kn1 := gi.same _ _ kn1
      show tSeq _ _ _ _ (upd H3b nm (.lst [V.ref n0, .ref n1]))
      generalize upd Rb nm (.lst [V.ref n0, .ref n1]) = Rc at gi g kn0 kn1 knm ⊢
      generalize upd H3b nm (.lst [V.ref n0, .ref n1]) = H3c at gi g kn0 kn1 knm ⊢
      clear gi
      have lw : (["w", "v"] : List Str).length ≤ 100 := by decide
      have lg : (["gone", "m"] : List Str).length ≤ 100 := by decide
      refine ⟨3, rfl, by decide, by decide, for_range (lo := 0) (fun j σ H' => ∃ R1, Go p R H3 R1 H' ∧ Same Rc R1 ∧ ∃ y5 y6 y7 y8 : Option V, σ = [some (.ref a), some (.int (i : Nat)), some (.int c), some (.ref p), some (.ref nm), y5, y6, y7, y8]) ⟨Rc, g, Same.refl _, _, _, _, _, rfl⟩ ?_ ?_⟩
      · rintro j σ H4 hj ⟨R1, g1, sc, y5, y6, y7, y8, rfl⟩
        refine ⟨_, rfl, _, rfl, p, nm, n0, n1, R1, ["w", "v"], ["gone", "m"], rfl, g1.rest, ⟨sc _ _ knm, sc _ _ kn0, sc _ _ kn1⟩, ⟨by decide, lg, lw, fun n hn => (ok_w n hn).1⟩, fun x R3 H7 ds gi hx hok => ?_⟩
        obtain ⟨ow, w0, dr, hO, hd0, hw0⟩ := drR_h nm_w nm_g ok_w ok_g hok
        have hzz := hz_h nm_w hok
        replace g1 := g1.trans gi
        replace sc := sc.trans gi.same
        have hv : Val K H7 x (.tuple ds) := .inl ⟨dp_same g1.rest.1 _ _ hx, dr.good⟩
        refine ⟨rfl, _, rfl, x, .tuple ds, ds, some ow, rfl, hv, rfl, dr.row, fun _ => ⟨ow, rfl, hO⟩, (fun z => nomatch z), fun H8 rr s8 nr row => ?_⟩
        have hv8 := hv.same s8
        obtain ⟨xa, xs, rfl, hxs8, hxa, hxl, _, hget⟩ := hv8.tup
        obtain ⟨v0, hv0, hvv0⟩ := hget 0 _ hd0
        refine ⟨_, rfl, xa, xs, _, _, rfl, rfl, hxs8, atI_nat (j := 0) hv0, (by show 1 ≤ sizeLine; decide), fun t9 ht9 => ?_⟩
        have s9 := same_upd (o := .tup [V.str "look"]) ht9
        have dv0 := hvv0.tup
        refine ⟨T1 w0, T1 "look", dp_same s9 _ _ (hvv0.dp1 (fun e z => nomatch z)), .tup (.inl (.inl upd_same)) (.cons (.str _) .nil), ?_, by decide +kernel, _, rfl, if_any (fun x Hx => x = iN ow ∧ Hx = upd H8 t9 (.tup [V.str "look"])) (fun hb C c => ?_) (fun hb C c => ?_) (fun x Hx hP => ?_)⟩
        · rcases hw0 with ⟨rfl, _⟩ | ⟨rfl, _⟩ <;> decide +kernel
        · have hb : w0 = "look" := by
            rw [eqv_T1s] at hb
            exact of_decide_eq_true hb
          refine c _ _ ⟨?_, rfl⟩
          rcases hw0 with ⟨_, rfl⟩ | ⟨h, _⟩
          · rfl
          · rw [h] at hb
            exact absurd hb (by decide)
        · have hb : ¬ w0 = "look" := fun z => by
            rw [eqv_T1s, decide_eq_true z] at hb
            cases hb
          refine c _ _ ⟨?_, rfl⟩
          rcases hw0 with ⟨h, _⟩ | ⟨_, rfl⟩
          · exact absurd h hb
          · rfl
        obtain ⟨ex_, eH_⟩ := hP
        rw [ex_, eH_]
        clear ex_ eH_ x Hx
        have row9 := row.same s9
        have hv9 := hv8.same s9
        refine ⟨_, rfl, _, rfl, rr, .ref xa, true, some ow, ow, wNotB, ds, rfl, row9, hv9, dr, hzz, fun H10 s10 => ⟨_, rfl, iteF ?_⟩⟩
        have row10 := row9.same s10
        obtain ⟨dx, y, pr, h1, _⟩ := id row10
        refine ⟨_, rfl, rr, dx, _, rfl, h1, rr, ow, ds, rfl, row10, _, rfl, rfl, _, rfl, iteB (c := false) (by rw [decide_eq_true rfl]; rfl) (iteF ?_)⟩
        exact ⟨R3, g1.trans (Go.same_heap g1.rest (s8.trans (s9.trans s10))), sc, _, _, _, _, rfl⟩
      · rintro σ H4 ⟨R1, g1, sc, y5, y6, y7, y8, rfl⟩
        refine ⟨2, rfl, by decide, by decide, for_range (lo := 0) (fun j σ H' => ∃ R1, Go p R H3 R1 H' ∧ Same Rc R1 ∧ ∃ y5 y6 y7 y8 : Option V, σ = [some (.ref a), some (.int (i : Nat)), some (.int c), some (.ref p), some (.ref nm), y5, y6, y7, y8]) ⟨R1, g1, sc, _, _, _, _, rfl⟩ ?_ ?_⟩
        · clear g1 sc
          rintro j σ H4 hj ⟨R1, g1, sc, y5, y6, y7, y8, rfl⟩
          refine ⟨_, rfl, _, rfl, p, nm, n0, n1, R1, ["w", "v"], ["gone", "m"], rfl, g1.rest, ⟨sc _ _ knm, sc _ _ kn0, sc _ _ kn1⟩, ⟨by decide, lg, lw, ok_w, ok_g⟩, fun x R3 H7 ds gi hx hok => ?_⟩
          have dr := drR_w nm_w nm_g ok_w ok_g hok
          have hzz := hz_w nm_w hok
          replace g1 := g1.trans gi
          replace sc := sc.trans gi.same
          have hv : Val K H7 x (.tuple ds) := .inl ⟨dp_same g1.rest.1 _ _ hx, dr.good⟩
          refine ⟨rfl, _, rfl, x, .tuple ds, ds, none, rfl, hv, rfl, dr.row, (fun z => nomatch z), fun _ => rfl, fun H8 rr s8 nr row => ?_⟩
          refine ⟨_, rfl, rr, x, false, none, 0, wNotW, ds, rfl, row, hv.same s8, dr, hzz, fun H10 s10 => ⟨_, rfl, iteF ?_⟩⟩
          exact ⟨R3, g1.trans (Go.same_heap g1.rest (s8.trans s10)), sc, _, _, _, _, rfl⟩
        · rintro σ H5 ⟨R1, g1, sc, y5, y6, y7, y8, rfl⟩
          exact ⟨s7.trans (sR.trans (g1.same.trans g1.rest.1)), _, _, _, _, _, _, _, _, rfl⟩
    · rintro σ Ha ⟨s6, y1, y2, y3, y4, y5, y6, y7, y8, rfl⟩
      exact q _
end
end K04

namespace K04
open PySem PySem.Spec PyProof.Rows StX L2 TL GG OO LY
theorem tup_ofV {K : PySem.W.Frag} {a : Addr} {od : Option Addr} {its : Array Value} {n : Nat} {sl : Array (Option Value)} {xs : List V} (h : K.lookup a = some ⟨.type "tuple", od, .seq its n, sl⟩) (hv : its.toList.map absV = xs.map some) (hl : xs.length ≤ 1000) : ∀ H, SqT K H a xs := fun H => by
  have r := vals_abs its.toList _ hv
  refine .inr ⟨_, its, n, h, rfl, rfl, ?_, r⟩
  have e := r.length
  simp only [Array.length_toList] at e
  exact Nat.le_of_lt (small1000 (by rw [← e]; exact hl))
def cOf (a b : Addr) : Bool → Addr
  | true => a
  | false => b
def kCh : List Str := ["hold", "try", "let", "enter", "leave", "lock", "unlock"]
theorem ns_of {P : Params} {z : Str} : ∀ (l : List DictEntry) (ks : List Str), l.map He.keyOf = He.keysIn P ks → (match l.find? (·.key.isStr z) with
      | some e => some (some e.val)
      | none => if l.any (·.refKey) then none else some none) = some (((ks.zip (l.map (·.val))).find? fun p => p.1 == z).map (·.2)) ∧ l.any (·.refKey) = false
  | [], [], _ => ⟨rfl, rfl⟩
  | [], _ :: _, h => by cases h
  | _ :: _, [], h => by cases h
  | e :: r, k :: ks, h => by
    have h1 : He.keyOf e :: r.map He.keyOf = some (k, PyData.keyHash P k) :: He.keysIn P ks := h
    injection h1 with h2 h3
    obtain ⟨i1, i2⟩ := ns_of (z := z) r ks h3
    obtain ⟨eh, ek, ev⟩ := e
    unfold He.keyOf at h2
    cases ek with
    | str x t =>
      have hx : x = k := (Prod.mk.inj (Option.some.inj h2)).1
      subst hx
      refine ⟨?_, by rw [List.any_cons, i2]; rfl⟩
      by_cases hz : (x == z) = true
      · rw [List.find?_cons_of_pos (p := fun e : DictEntry => e.key.isStr z) (show ((⟨eh, .str x t, ev⟩ : DictEntry).key.isStr z) = true from hz), List.map_cons, List.zip_cons_cons, List.find?_cons_of_pos (p := fun q : Str × Value => q.1 == z) hz]
        rfl
      · rw [List.find?_cons_of_neg (p := fun e : DictEntry => e.key.isStr z) (show ¬ ((⟨eh, .str x t, ev⟩ : DictEntry).key.isStr z) = true from hz), List.map_cons, List.zip_cons_cons, List.find?_cons_of_neg (p := fun q : Str × Value => q.1 == z) hz, List.any_cons]
        exact i1
    | _ => cases h2
theorem find_if {z : Str} (k : Str) (v : Value) (r : List (Str × Value)) : (((k, v) :: r).find? fun p => p.1 == z).map (·.2) = if z = k then some v else (r.find? fun p => p.1 == z).map (·.2) := by
  by_cases h : z = k
  · subst h
    rw [if_pos rfl, List.find?_cons_of_pos (by simp)]
    rfl
  · rw [if_neg h, List.find?_cons_of_neg (by simp; exact fun q => h q.symm)]
theorem chg_of {K : PySem.W.Frag} {w : World} {dC h0 h1 h2 h3 h4 h5 h6 : Addr} {es : Array DictEntry} {n : Nat} (at_ : K.lookup dC = some ⟨.type "dict", none, .dict es n, #[]⟩) (hk : es.toList.map He.keyOf = He.keysIn w.params kCh) (hv : es.toList.map (·.val) = [Value.ref h0, Value.ref h1, Value.ref h2, Value.ref h3, Value.ref h4, Value.ref h5, Value.ref h6]) (lo : (dC == sysModules) = false)
    (t0 : ∀ H, SqT K H h0 [V.int (Int.ofNat 0), V.bl true])
    (t1 : ∀ H, SqT K H h1 [V.int (Int.ofNat 0), V.bl true])
    (t2 : ∀ H, SqT K H h2 [V.int (Int.ofNat 0), V.bl false])
    (t3 : ∀ H, SqT K H h3 [V.int (Int.ofNat 1), V.bl true])
    (t4 : ∀ H, SqT K H h4 [V.int (Int.ofNat 1), V.bl false])
    (t5 : ∀ H, SqT K H h5 [V.int (Int.ofNat 2), V.bl true])
    (t6 : ∀ H, SqT K H h6 [V.int (Int.ofNat 2), V.bl false]) : Chg K w dC := by
  have hz : ∀ z, PySem.W.nsIn K dC z = some (if z = "hold" then some (Value.ref h0) else if z = "try" then some (Value.ref h1) else if z = "let" then some (Value.ref h2) else if z = "enter" then some (Value.ref h3) else if z = "leave" then some (Value.ref h4) else if z = "lock" then some (Value.ref h5) else if z = "unlock" then some (Value.ref h6) else none) := fun z => by
    unfold PySem.W.nsIn
    rw [at_]
    refine (ns_of (z := z) es.toList kCh hk).1.trans ?_
    rw [hv]
    show some ((List.find? (fun p => p.1 == z) ([("hold", Value.ref h0), ("try", Value.ref h1), ("let", Value.ref h2), ("enter", Value.ref h3), ("leave", Value.ref h4), ("lock", Value.ref h5), ("unlock", Value.ref h6)] : List (Str × Value))).map (·.2)) = _
    rw [find_if, find_if, find_if, find_if, find_if, find_if, find_if]
    rfl
  refine ⟨⟨es, n, at_, He.keysLit_of hk, lo⟩, fun z h => ?_, fun z i b h => ?_⟩
  · rw [hz z]
    unfold chD at h
    by_cases n0 : z = "hold"
    · rw [if_pos n0] at h
      cases h
    by_cases n1 : z = "try"
    · rw [if_neg n0, if_pos n1] at h
      cases h
    by_cases n2 : z = "let"
    · rw [if_neg n0, if_neg n1, if_pos n2] at h
      cases h
    by_cases n3 : z = "enter"
    · rw [if_neg n0, if_neg n1, if_neg n2, if_pos n3] at h
      cases h
    by_cases n4 : z = "leave"
    · rw [if_neg n0, if_neg n1, if_neg n2, if_neg n3, if_pos n4] at h
      cases h
    by_cases n5 : z = "lock"
    · rw [if_neg n0, if_neg n1, if_neg n2, if_neg n3, if_neg n4, if_pos n5] at h
      cases h
    by_cases n6 : z = "unlock"
    · rw [if_neg n0, if_neg n1, if_neg n2, if_neg n3, if_neg n4, if_neg n5, if_pos n6] at h
      cases h
    rw [if_neg n0, if_neg n1, if_neg n2, if_neg n3, if_neg n4, if_neg n5, if_neg n6]
  · rw [hz z]
    unfold chD at h
    by_cases n0 : z = "hold"
    · rw [if_pos n0] at h ⊢
      cases h
      exact ⟨h0, rfl, t0⟩
    by_cases n1 : z = "try"
    · rw [if_neg n0, if_pos n1] at h ⊢
      cases h
      exact ⟨h1, rfl, t1⟩
    by_cases n2 : z = "let"
    · rw [if_neg n0, if_neg n1, if_pos n2] at h ⊢
      cases h
      exact ⟨h2, rfl, t2⟩
    by_cases n3 : z = "enter"
    · rw [if_neg n0, if_neg n1, if_neg n2, if_pos n3] at h ⊢
      cases h
      exact ⟨h3, rfl, t3⟩
    by_cases n4 : z = "leave"
    · rw [if_neg n0, if_neg n1, if_neg n2, if_neg n3, if_pos n4] at h ⊢
      cases h
      exact ⟨h4, rfl, t4⟩
    by_cases n5 : z = "lock"
    · rw [if_neg n0, if_neg n1, if_neg n2, if_neg n3, if_neg n4, if_pos n5] at h ⊢
      cases h
      exact ⟨h5, rfl, t5⟩
    by_cases n6 : z = "unlock"
    · rw [if_neg n0, if_neg n1, if_neg n2, if_neg n3, if_neg n4, if_neg n5, if_pos n6] at h ⊢
      cases h
      exact ⟨h6, rfl, t6⟩
    rw [if_neg n0, if_neg n1, if_neg n2, if_neg n3, if_neg n4, if_neg n5, if_neg n6] at h
    cases h
theorem ok_ii_init {K : PySem.W.Frag} {P : Program} {w : World} {mg : Str → Option Value} {base : Heap} {S fS f : Addr} {fd : FuncData} (F : Fun K "__init__" "InvalidItem.__init__" sII_init f fd) (T : ExT K mg "InvalidItem" "number" S fS) : FnOk P w K mg base CX0 1 f fd ["self", "number"] (spExI S "number") := by
  have sc_ii : FnScope ["self", "number"] ["self", "number"] (defScope sII_init) := ⟨rfl, rfl, rfl, by decide +kernel, rfl, by decide +kernel, by decide +kernel⟩
  refine F.ok sc_ii (fun vs H Q E h => ?_) (fun cdv A outer s H vs Q E hr h => ?_)
  · obtain ⟨a, v, rfl, _⟩ := h
    rfl
  · obtain ⟨a, v, rfl, ha, q⟩ := h
    refine ⟨_, pss_one (ps_ost (pv 0) (pv 1) rfl), ?_⟩
    exact ⟨_, rfl, _, rfl, a, S, rfl, T.o, T.no, .inl ⟨ha, fun dx h1 h2 => q dx h1 h2⟩⟩
end K04

namespace K04
open PySem PySem.Spec PyProof.Rows StX L2 TL GG OO LY
theorem all_mk {l : PySem.W.OpenLaw} {w : World} {K : PySem.W.Frag} {h : Heap} {mg : Str → Option Value} {fa : Addr} {pe t0 t1 t2 t3 t7 t8 tF tO o0 o1 o2 o3 o4 o5 dC h0 h1 h2 h3 h4 h5 h6 SI MSI SN MSN CL CH sCHof pCHparts pCHsize pCHopening CW sCWof pCWparts pCWsize f1 f2 f3 f4 f5 f6 f7 f8 f9 f10 f11 f12 f13 f14 f15 f16 f17 f18 f19 f20 f21 f22 f23 f24 f25 f26 f27 f28 f29 f30 f31 f32 f33 f34 f35 f36 f37 f38 f39 f40 f41 f42 f43 f44 f45 f46 f47 f48 f49 f50 f51 f52 f53 f54 f55 f56 f57 f58 f59 f60 f61 f62 f63 f64 f65 : Addr} {lt0 lt1 lt2 lt4 : Tok} {tot0 tot1 tot2 tot3 tot7 tot8 totF totO too0 too1 too2 too3 too4 too5 toh0 toh1 toh2 toh3 toh4 toh5 toh6 ddSI ddSN od1 an1 od2 an2 od3 an3 od4 an4 od5 an5 od6 an6 od7 an7 od8 an8 od9 an9 od10 an10 od11 an11 od12 an12 od13 an13 od14 an14 od15 an15 od16 an16 od17 an17 od18 an18 od19 an19 od20 an20 od21 an21 od22 an22 od23 an23 od24 an24 od25 an25 od26 an26 od27 an27 od28 an28 od29 an29 od30 an30 od31 an31 od32 an32 od33 an33 od34 an34 od35 an35 od36 an36 od37 an37 od38 an38 od39 an39 od40 an40 od41 an41 od42 an42 od43 an43 od44 an44 od45 an45 od46 an46 od47 an47 od48 an48 od49 an49 od50 an50 od51 an51 od52 an52 od53 an53 od54 an54 od55 an55 od56 an56 od57 an57 od58 an58 od59 an59 od60 an60 od61 an61 od62 an62 od63 an63 od64 an64 od65 an65 : Option Addr} {tit0 tit1 tit2 tit3 tit7 tit8 titF titO tio0 tio1 tio2 tio3 tio4 tio5 tih0 tih1 tih2 tih3 tih4 tih5 tih6 : Array Value} {tnt0 tnt1 tnt2 tnt3 tnt7 tnt8 tntF tntO tno0 tno1 tno2 tno3 tno4 tno5 nC tnh0 tnh1 tnh2 tnh3 tnh4 tnh5 tnh6 : Nat} {tst0 tst1 tst2 tst3 tst7 tst8 tstF tstO tso0 tso1 tso2 tso3 tso4 tso5 tsh0 tsh1 tsh2 tsh3 tsh4 tsh5 tsh6 sl1 sl2 sl3 sl4 sl5 sl6 sl7 sl8 sl9 sl10 sl11 sl12 sl13 sl14 sl15 sl16 sl17 sl18 sl19 sl20 sl21 sl22 sl23 sl24 sl25 sl26 sl27 sl28 sl29 sl30 sl31 sl32 sl33 sl34 sl35 sl36 sl37 sl38 sl39 sl40 sl41 sl42 sl43 sl44 sl45 sl46 sl47 sl48 sl49 sl50 sl51 sl52 sl53 sl54 sl55 sl56 sl57 sl58 sl59 sl60 sl61 sl62 sl63 sl64 sl65 : Array (Option Value)} {esC : Array DictEntry} {nnSI qSI nnSN qSN : Str} {bsSI subSI bsSN subSN rsCHof rpCHparts rpCHsize rpCHopening rsCWof rpCWparts rpCWsize : List Value} {snSI snSN : List Str} {abSI abSN : Bool} {colSI colSN : Option Bool} {u0SI u1SI u2SI u3SI u5SI u0SN u1SN u2SN u3SN u5SN : Option Value} {oc1 kV1 dc1 pm1 cd1 ct1 oc2 kV2 dc2 pm2 cd2 ct2 oc3 kV3 dc3 pm3 cd3 ct3 oc4 kV4 dc4 pm4 cd4 ct4 oc5 kV5 dc5 pm5 cd5 ct5 oc6 kV6 dc6 pm6 cd6 ct6 oc7 kV7 dc7 pm7 cd7 ct7 oc8 kV8 dc8 pm8 cd8 ct8 oc9 kV9 dc9 pm9 cd9 ct9 oc10 kV10 dc10 pm10 cd10 ct10 oc11 kV11 dc11 pm11 cd11 ct11 oc12 kV12 dc12 pm12 cd12 ct12 oc13 kV13 dc13 pm13 cd13 ct13 oc14 kV14 dc14 pm14 cd14 ct14 oc15 kV15 dc15 pm15 cd15 ct15 oc16 kV16 dc16 pm16 cd16 ct16 oc17 kV17 dc17 pm17 cd17 ct17 oc18 kV18 dc18 pm18 cd18 ct18 oc19 kV19 dc19 pm19 cd19 ct19 oc20 kV20 dc20 pm20 cd20 ct20 oc21 kV21 dc21 pm21 cd21 ct21 oc22 kV22 dc22 pm22 cd22 ct22 oc23 kV23 dc23 pm23 cd23 ct23 oc24 kV24 dc24 pm24 cd24 ct24 oc25 kV25 dc25 pm25 cd25 ct25 oc26 kV26 dc26 pm26 cd26 ct26 oc27 kV27 dc27 pm27 cd27 ct27 oc28 kV28 dc28 pm28 cd28 ct28 oc29 kV29 dc29 pm29 cd29 ct29 oc30 kV30 dc30 pm30 cd30 ct30 oc31 kV31 dc31 pm31 cd31 ct31 oc32 kV32 dc32 pm32 cd32 ct32 oc33 kV33 dc33 pm33 cd33 ct33 oc34 kV34 dc34 pm34 cd34 ct34 oc35 kV35 dc35 pm35 cd35 ct35 oc36 kV36 dc36 pm36 cd36 ct36 oc37 kV37 dc37 pm37 cd37 ct37 oc38 kV38 dc38 pm38 cd38 ct38 oc39 kV39 dc39 pm39 cd39 ct39 oc40 kV40 dc40 pm40 cd40 ct40 oc41 kV41 dc41 pm41 cd41 ct41 oc42 kV42 dc42 pm42 cd42 ct42 oc43 kV43 dc43 pm43 cd43 ct43 oc44 kV44 dc44 pm44 cd44 ct44 oc45 kV45 dc45 pm45 cd45 ct45 oc46 kV46 dc46 pm46 cd46 ct46 oc47 kV47 dc47 pm47 cd47 ct47 oc48 kV48 dc48 pm48 cd48 ct48 oc49 kV49 dc49 pm49 cd49 ct49 oc50 kV50 dc50 pm50 cd50 ct50 oc51 kV51 dc51 pm51 cd51 ct51 oc52 kV52 dc52 pm52 cd52 ct52 oc53 kV53 dc53 pm53 cd53 ct53 oc54 kV54 dc54 pm54 cd54 ct54 oc55 kV55 dc55 pm55 cd55 ct55 oc56 kV56 dc56 pm56 cd56 ct56 oc57 kV57 dc57 pm57 cd57 ct57 oc58 kV58 dc58 pm58 cd58 ct58 oc59 kV59 dc59 pm59 cd59 ct59 oc60 kV60 dc60 pm60 cd60 ct60 oc61 kV61 dc61 pm61 cd61 ct61 oc62 kV62 dc62 pm62 cd62 ct62 oc63 kV63 dc63 pm63 cd63 ct63 oc64 kV64 dc64 pm64 cd64 ct64 oc65 kV65 dc65 pm65 cd65 ct65 : Value} (X : K.In h) (G : h.Ns mainGlobals mg) (hfa : mg "law" = some (.ref fa))
    (y_lt0 : PySem.W.nsIn K mainGlobals "_LONGEST_NAME" = some (some (.int 8 lt0)))
    (y_lt1 : PySem.W.nsIn K mainGlobals "_MOST_IN_WAY_OUT" = some (some (.int 4 lt1)))
    (y_lt2 : PySem.W.nsIn K mainGlobals "_MOST_ITEMS" = some (some (.int 14 lt2)))
    (y_lt4 : PySem.W.nsIn K mainGlobals "_LONGEST_OPENING" = some (some (.int 4 lt4)))
    (z_max : PySem.W.nsIn K mainGlobals "max" = some none)
    (z_range : PySem.W.nsIn K mainGlobals "range" = some none)
    (z_len : PySem.W.nsIn K mainGlobals "len" = some none)
    (z_int : PySem.W.nsIn K mainGlobals "int" = some none)
    (z_bool : PySem.W.nsIn K mainGlobals "bool" = some none)
    (z_isinstance : PySem.W.nsIn K mainGlobals "isinstance" = some none)
    (z_str : PySem.W.nsIn K mainGlobals "str" = some none)
    (z_all : PySem.W.nsIn K mainGlobals "all" = some none)
    (z_any : PySem.W.nsIn K mainGlobals "any" = some none)
    (z_tuple : PySem.W.nsIn K mainGlobals "tuple" = some none)
    (z_list : PySem.W.nsIn K mainGlobals "list" = some none)
    (z_enumerate : PySem.W.nsIn K mainGlobals "enumerate" = some none)
    (z_repr : PySem.W.nsIn K mainGlobals "repr" = some none)
    (z_min : PySem.W.nsIn K mainGlobals "min" = some none)
    (z_dict : PySem.W.nsIn K mainGlobals "dict" = some none)
    (y_t0 : PySem.W.nsIn K mainGlobals "_OPENERS" = some (some (.ref t0)))
    (x_t0 : K.lookup t0 = some ⟨.type "tuple", tot0, .seq tit0 tnt0, tst0⟩)
    (v_t0 : tit0.toList.map absV = (wOpen.map V.str).map some)
    (y_t1 : PySem.W.nsIn K mainGlobals "_BARE_ITEMS" = some (some (.ref t1)))
    (x_t1 : K.lookup t1 = some ⟨.type "tuple", tot1, .seq tit1 tnt1, tst1⟩)
    (v_t1 : tit1.toList.map absV = (wBare.map V.str).map some)
    (y_t2 : PySem.W.nsIn K mainGlobals "_NAMED_ITEMS" = some (some (.ref t2)))
    (x_t2 : K.lookup t2 = some ⟨.type "tuple", tot2, .seq tit2 tnt2, tst2⟩)
    (v_t2 : tit2.toList.map absV = (wNamed.map V.str).map some)
    (y_t3 : PySem.W.nsIn K mainGlobals "_ASKS" = some (some (.ref t3)))
    (x_t3 : K.lookup t3 = some ⟨.type "tuple", tot3, .seq tit3 tnt3, tst3⟩)
    (v_t3 : tit3.toList.map absV = (wAsk.map V.str).map some)
    (y_t7 : PySem.W.nsIn K mainGlobals "_NOT_BEHIND_OPENING" = some (some (.ref t7)))
    (x_t7 : K.lookup t7 = some ⟨.type "tuple", tot7, .seq tit7 tnt7, tst7⟩)
    (v_t7 : tit7.toList.map absV = (wNotB.map V.str).map some)
    (y_t8 : PySem.W.nsIn K mainGlobals "_NOT_IN_WORKS" = some (some (.ref t8)))
    (x_t8 : K.lookup t8 = some ⟨.type "tuple", tot8, .seq tit8 tnt8, tst8⟩)
    (v_t8 : tit8.toList.map absV = (wNotW.map V.str).map some)
    (y_tF : PySem.W.nsIn K mainGlobals "_AT_FIRST" = some (some (.ref tF)))
    (x_tF : K.lookup tF = some ⟨.type "tuple", totF, .seq titF tntF, tstF⟩)
    (v_tF : titF.toList.map absV = ([V.bl false, V.bl false, V.bl false]).map some)
    (y_tO : PySem.W.nsIn K mainGlobals "_OPENINGS" = some (some (.ref tO)))
    (x_tO : K.lookup tO = some ⟨.type "tuple", totO, .seq titO tntO, tstO⟩)
    (v_tO : titO.toList.map absV = ([V.ref o0, V.ref o1, V.ref o2, V.ref o3, V.ref o4, V.ref o5]).map some)
    (x_o0 : K.lookup o0 = some ⟨.type "tuple", too0, .seq tio0 tno0, tso0⟩)
    (v_o0 : tio0.toList.map absV = ((["look", "hold"] : List Str).map V.str).map some)
    (x_o1 : K.lookup o1 = some ⟨.type "tuple", too1, .seq tio1 tno1, tso1⟩)
    (v_o1 : tio1.toList.map absV = ((["look", "try"] : List Str).map V.str).map some)
    (x_o2 : K.lookup o2 = some ⟨.type "tuple", too2, .seq tio2 tno2, tso2⟩)
    (v_o2 : tio2.toList.map absV = ((["lock", "look", "hold", "unlock"] : List Str).map V.str).map some)
    (x_o3 : K.lookup o3 = some ⟨.type "tuple", too3, .seq tio3 tno3, tso3⟩)
    (v_o3 : tio3.toList.map absV = ((["lock", "look", "try", "unlock"] : List Str).map V.str).map some)
    (x_o4 : K.lookup o4 = some ⟨.type "tuple", too4, .seq tio4 tno4, tso4⟩)
    (v_o4 : tio4.toList.map absV = ((["lock", "look", "unlock", "hold"] : List Str).map V.str).map some)
    (x_o5 : K.lookup o5 = some ⟨.type "tuple", too5, .seq tio5 tno5, tso5⟩)
    (v_o5 : tio5.toList.map absV = ((["lock", "look", "unlock", "try"] : List Str).map V.str).map some)
    (y_dC : PySem.W.nsIn K mainGlobals "_CHANGES" = some (some (.ref dC)))
    (x_dC : K.lookup dC = some ⟨.type "dict", none, .dict esC nC, #[]⟩)
    (q_dC : esC.toList.map He.keyOf = He.keysIn w.params kCh)
    (u_dC : esC.toList.map (·.val) = [Value.ref h0, Value.ref h1, Value.ref h2, Value.ref h3, Value.ref h4, Value.ref h5, Value.ref h6])
    (lo_dC : (dC == sysModules) = false)
    (x_h0 : K.lookup h0 = some ⟨.type "tuple", toh0, .seq tih0 tnh0, tsh0⟩)
    (v_h0 : tih0.toList.map absV = ([V.int (Int.ofNat 0), V.bl true]).map some)
    (x_h1 : K.lookup h1 = some ⟨.type "tuple", toh1, .seq tih1 tnh1, tsh1⟩)
    (v_h1 : tih1.toList.map absV = ([V.int (Int.ofNat 0), V.bl true]).map some)
    (x_h2 : K.lookup h2 = some ⟨.type "tuple", toh2, .seq tih2 tnh2, tsh2⟩)
    (v_h2 : tih2.toList.map absV = ([V.int (Int.ofNat 0), V.bl false]).map some)
    (x_h3 : K.lookup h3 = some ⟨.type "tuple", toh3, .seq tih3 tnh3, tsh3⟩)
    (v_h3 : tih3.toList.map absV = ([V.int (Int.ofNat 1), V.bl true]).map some)
    (x_h4 : K.lookup h4 = some ⟨.type "tuple", toh4, .seq tih4 tnh4, tsh4⟩)
    (v_h4 : tih4.toList.map absV = ([V.int (Int.ofNat 1), V.bl false]).map some)
    (x_h5 : K.lookup h5 = some ⟨.type "tuple", toh5, .seq tih5 tnh5, tsh5⟩)
    (v_h5 : tih5.toList.map absV = ([V.int (Int.ofNat 2), V.bl true]).map some)
    (x_h6 : K.lookup h6 = some ⟨.type "tuple", toh6, .seq tih6 tnh6, tsh6⟩)
    (v_h6 : tih6.toList.map absV = ([V.int (Int.ofNat 2), V.bl false]).map some)
    (aSI : PySem.W.nsIn K mainGlobals "InvalidItem" = some (some (.ref SI)))
    (xSI : K.lookup SI = some (excClassObj nnSI qSI SI MSI bsSI (.ref pe :: [.type "ValueError", .type "Exception", .type "BaseException", .type "object"]) true snSI subSI abSI colSI ddSI u0SI u1SI u2SI u3SI u5SI "ValueError.__new__"))
    (saSI : PySem.W.findIn K (.ref SI) "__setattr__" = some (some (.builtin "object.__setattr__")))
    (exSI : PySem.W.subIn K (.ref SI) (.type "BaseException") = some true)
    (tySI : PySem.W.typeIn K (.ref SI) = some (.type "type"))
    (kpSI : PySem.W.keepIn K (.ref SI) = true)
    (noSI : PySem.W.findIn K (.ref SI) "number" = some none)
    (gaSI : PySem.W.findIn K (.ref SI) "__getattribute__" = some (some (.builtin "BaseException.__getattribute__")))
    (ggSI : PySem.W.findIn K (.ref SI) "__getattr__" = some none)
    (hdSI : PySem.W.hasDictIn K SI = true)
    (iiSI : PySem.W.findIn K (.ref SI) "__init__" = some (some (.ref f40)))
    (tiSI : PySem.W.typeIn K (.ref f40) = some (.type "function"))
    (icSI : PySem.W.isClsIn K SI = true)
    (ssSI : PySem.W.subIn K (.ref SI) (.ref SI) = some true)
    (aSN : PySem.W.nsIn K mainGlobals "InvalidNumber" = some (some (.ref SN)))
    (xSN : K.lookup SN = some (excClassObj nnSN qSN SN MSN bsSN [.type "ValueError", .type "Exception", .type "BaseException", .type "object"] true snSN subSN abSN colSN ddSN u0SN u1SN u2SN u3SN u5SN "ValueError.__new__"))
    (saSN : PySem.W.findIn K (.ref SN) "__setattr__" = some (some (.builtin "object.__setattr__")))
    (exSN : PySem.W.subIn K (.ref SN) (.type "BaseException") = some true)
    (tySN : PySem.W.typeIn K (.ref SN) = some (.type "type"))
    (kpSN : PySem.W.keepIn K (.ref SN) = true)
    (noSN : PySem.W.findIn K (.ref SN) "value" = some none)
    (gaSN : PySem.W.findIn K (.ref SN) "__getattribute__" = some (some (.builtin "BaseException.__getattribute__")))
    (ggSN : PySem.W.findIn K (.ref SN) "__getattr__" = some none)
    (hdSN : PySem.W.hasDictIn K SN = true)
    (iiSN : PySem.W.findIn K (.ref SN) "__init__" = some (some (.ref f41)))
    (tiSN : PySem.W.typeIn K (.ref f41) = some (.type "function"))
    (icSN : PySem.W.isClsIn K SN = true)
    (ssSN : PySem.W.subIn K (.ref SN) (.ref SN) = some true)
    (aCL : PySem.W.nsIn K mainGlobals "Layout" = some (some (.ref CL)))
    (pgCL : PySem.W.plainGet K CL Str.empty = true)
    (hdCL : PySem.W.hasDictIn K CL = true)
    (poCL : PySem.W.plainOver K CL = true)
    (saCL : PySem.W.findIn K (.ref CL) "__setattr__" = some (some (.builtin "object.__setattr__")))
    (nCLplaced : PySem.W.findIn K (.ref CL) "placed" = some none)
    (nCLend : PySem.W.findIn K (.ref CL) "end" = some none)
    (nCLleads : PySem.W.findIn K (.ref CL) "leads" = some none)
    (nCLstandings : PySem.W.findIn K (.ref CL) "standings" = some none)
    (mkCL : PySem.W.makesIn K CL = true)
    (kpCL : PySem.W.keepIn K (.ref CL) = true)
    (aCH : PySem.W.nsIn K mainGlobals "HandRow" = some (some (.ref CH)))
    (pgCH : PySem.W.plainGet K CH Str.empty = true)
    (hdCH : PySem.W.hasDictIn K CH = true)
    (poCH : PySem.W.plainOver K CH = true)
    (saCH : PySem.W.findIn K (.ref CH) "__setattr__" = some (some (.builtin "object.__setattr__")))
    (nCH_parts : PySem.W.findIn K (.ref CH) "_parts" = some none)
    (nCHlayout : PySem.W.findIn K (.ref CH) "layout" = some none)
    (nCH_opening : PySem.W.findIn K (.ref CH) "_opening" = some none)
    (mkCH : PySem.W.makesIn K CH = true)
    (kpCH : PySem.W.keepIn K (.ref CH) = true)
    (rdCH : PySem.W.readsIn K CH (.type "type") = true)
    (gtCH : PySem.W.specialIn K (.ref CH) "__getattribute__" = some (some (.builtin "type.__getattribute__")))
    (b1sCHof : PySem.W.findCls K (.ref CH) (.type "type") "of" = some (.get (.builtin "staticmethod.__get__") (.ref sCHof) .none (.ref CH)))
    (b2sCHof : PySem.W.recIn K sCHof "staticmethod" = some (.ref f44 :: rsCHof))
    (b1pCHparts : PySem.W.findIn K (.ref CH) "parts" = some (some (.ref pCHparts)))
    (b2pCHparts : PySem.W.specialIn K (.ref pCHparts) "__get__" = some (some (.builtin "property.__get__")))
    (b3pCHparts : PySem.W.takesIn K (.ref pCHparts) = some true)
    (b4pCHparts : PySem.W.recIn K pCHparts "property" = some (.ref f45 :: rpCHparts))
    (b1pCHsize : PySem.W.findIn K (.ref CH) "size" = some (some (.ref pCHsize)))
    (b2pCHsize : PySem.W.specialIn K (.ref pCHsize) "__get__" = some (some (.builtin "property.__get__")))
    (b3pCHsize : PySem.W.takesIn K (.ref pCHsize) = some true)
    (b4pCHsize : PySem.W.recIn K pCHsize "property" = some (.ref f46 :: rpCHsize))
    (b1pCHopening : PySem.W.findIn K (.ref CH) "opening" = some (some (.ref pCHopening)))
    (b2pCHopening : PySem.W.specialIn K (.ref pCHopening) "__get__" = some (some (.builtin "property.__get__")))
    (b3pCHopening : PySem.W.takesIn K (.ref pCHopening) = some true)
    (b4pCHopening : PySem.W.recIn K pCHopening "property" = some (.ref f47 :: rpCHopening))
    (aCW : PySem.W.nsIn K mainGlobals "WorkRow" = some (some (.ref CW)))
    (pgCW : PySem.W.plainGet K CW Str.empty = true)
    (hdCW : PySem.W.hasDictIn K CW = true)
    (poCW : PySem.W.plainOver K CW = true)
    (saCW : PySem.W.findIn K (.ref CW) "__setattr__" = some (some (.builtin "object.__setattr__")))
    (nCW_parts : PySem.W.findIn K (.ref CW) "_parts" = some none)
    (nCWlayout : PySem.W.findIn K (.ref CW) "layout" = some none)
    (nCW_opening : PySem.W.findIn K (.ref CW) "_opening" = some none)
    (mkCW : PySem.W.makesIn K CW = true)
    (kpCW : PySem.W.keepIn K (.ref CW) = true)
    (rdCW : PySem.W.readsIn K CW (.type "type") = true)
    (gtCW : PySem.W.specialIn K (.ref CW) "__getattribute__" = some (some (.builtin "type.__getattribute__")))
    (b1sCWof : PySem.W.findCls K (.ref CW) (.type "type") "of" = some (.get (.builtin "staticmethod.__get__") (.ref sCWof) .none (.ref CW)))
    (b2sCWof : PySem.W.recIn K sCWof "staticmethod" = some (.ref f56 :: rsCWof))
    (b1pCWparts : PySem.W.findIn K (.ref CW) "parts" = some (some (.ref pCWparts)))
    (b2pCWparts : PySem.W.specialIn K (.ref pCWparts) "__get__" = some (some (.builtin "property.__get__")))
    (b3pCWparts : PySem.W.takesIn K (.ref pCWparts) = some true)
    (b4pCWparts : PySem.W.recIn K pCWparts "property" = some (.ref f57 :: rpCWparts))
    (b1pCWsize : PySem.W.findIn K (.ref CW) "size" = some (some (.ref pCWsize)))
    (b2pCWsize : PySem.W.specialIn K (.ref pCWsize) "__get__" = some (some (.builtin "property.__get__")))
    (b3pCWsize : PySem.W.takesIn K (.ref pCWsize) = some true)
    (b4pCWsize : PySem.W.recIn K pCWsize "property" = some (.ref f58 :: rpCWsize))
    (a1 : PySem.W.nsIn K mainGlobals "is_name" = some (some (.ref f1)))
    (l1 : K.lookup f1 = some ⟨oc1, od1, .func (PySem.W.fnOf "is_name" "is_name" (defArgs s_is_name) (defBody s_is_name) (defScope s_is_name) .none kV1 dc1 pm1 an1 cd1 ct1), sl1⟩)
    (c1 : PySem.W.codeIn K cd1 "is_name" = true)
    (k1 : PySem.W.keepIn K (.ref f1) = true)
    (a2 : PySem.W.nsIn K mainGlobals "is_integer" = some (some (.ref f2)))
    (l2 : K.lookup f2 = some ⟨oc2, od2, .func (PySem.W.fnOf "is_integer" "is_integer" (defArgs s_is_integer) (defBody s_is_integer) (defScope s_is_integer) .none kV2 dc2 pm2 an2 cd2 ct2), sl2⟩)
    (c2 : PySem.W.codeIn K cd2 "is_integer" = true)
    (k2 : PySem.W.keepIn K (.ref f2) = true)
    (a3 : PySem.W.nsIn K mainGlobals "is_item" = some (some (.ref f3)))
    (l3 : K.lookup f3 = some ⟨oc3, od3, .func (PySem.W.fnOf "is_item" "is_item" (defArgs s_is_item) (defBody s_is_item) (defScope s_is_item) .none kV3 dc3 pm3 an3 cd3 ct3), sl3⟩)
    (c3 : PySem.W.codeIn K cd3 "is_item" = true)
    (k3 : PySem.W.keepIn K (.ref f3) = true)
    (a4 : PySem.W.nsIn K mainGlobals "is_way_item" = some (some (.ref f4)))
    (l4 : K.lookup f4 = some ⟨oc4, od4, .func (PySem.W.fnOf "is_way_item" "is_way_item" (defArgs s_is_way_item) (defBody s_is_way_item) (defScope s_is_way_item) .none kV4 dc4 pm4 an4 cd4 ct4), sl4⟩)
    (c4 : PySem.W.codeIn K cd4 "is_way_item" = true)
    (k4 : PySem.W.keepIn K (.ref f4) = true)
    (a5 : PySem.W.nsIn K mainGlobals "is_ask_head" = some (some (.ref f5)))
    (l5 : K.lookup f5 = some ⟨oc5, od5, .func (PySem.W.fnOf "is_ask_head" "is_ask_head" (defArgs s_is_ask_head) (defBody s_is_ask_head) (defScope s_is_ask_head) .none kV5 dc5 pm5 an5 cd5 ct5), sl5⟩)
    (c5 : PySem.W.codeIn K cd5 "is_ask_head" = true)
    (k5 : PySem.W.keepIn K (.ref f5) = true)
    (a6 : PySem.W.nsIn K mainGlobals "_is_ask" = some (some (.ref f6)))
    (l6 : K.lookup f6 = some ⟨oc6, od6, .func (PySem.W.fnOf "_is_ask" "_is_ask" (defArgs s_is_ask) (defBody s_is_ask) (defScope s_is_ask) .none kV6 dc6 pm6 an6 cd6 ct6), sl6⟩)
    (c6 : PySem.W.codeIn K cd6 "_is_ask" = true)
    (k6 : PySem.W.keepIn K (.ref f6) = true)
    (a7 : PySem.W.nsIn K mainGlobals "_is_bare" = some (some (.ref f7)))
    (l7 : K.lookup f7 = some ⟨oc7, od7, .func (PySem.W.fnOf "_is_bare" "_is_bare" (defArgs s_is_bare) (defBody s_is_bare) (defScope s_is_bare) .none kV7 dc7 pm7 an7 cd7 ct7), sl7⟩)
    (c7 : PySem.W.codeIn K cd7 "_is_bare" = true)
    (k7 : PySem.W.keepIn K (.ref f7) = true)
    (a8 : PySem.W.nsIn K mainGlobals "_is_named" = some (some (.ref f8)))
    (l8 : K.lookup f8 = some ⟨oc8, od8, .func (PySem.W.fnOf "_is_named" "_is_named" (defArgs s_is_named) (defBody s_is_named) (defScope s_is_named) .none kV8 dc8 pm8 an8 cd8 ct8), sl8⟩)
    (c8 : PySem.W.codeIn K cd8 "_is_named" = true)
    (k8 : PySem.W.keepIn K (.ref f8) = true)
    (a9 : PySem.W.nsIn K mainGlobals "_is_word" = some (some (.ref f9)))
    (l9 : K.lookup f9 = some ⟨oc9, od9, .func (PySem.W.fnOf "_is_word" "_is_word" (defArgs s_is_word) (defBody s_is_word) (defScope s_is_word) .none kV9 dc9 pm9 an9 cd9 ct9), sl9⟩)
    (c9 : PySem.W.codeIn K cd9 "_is_word" = true)
    (k9 : PySem.W.keepIn K (.ref f9) = true)
    (a10 : PySem.W.nsIn K mainGlobals "check_items" = some (some (.ref f10)))
    (l10 : K.lookup f10 = some ⟨oc10, od10, .func (PySem.W.fnOf "check_items" "check_items" (defArgs s_check_items) (defBody s_check_items) (defScope s_check_items) .none kV10 dc10 pm10 an10 cd10 ct10), sl10⟩)
    (c10 : PySem.W.codeIn K cd10 "check_items" = true)
    (k10 : PySem.W.keepIn K (.ref f10) = true)
    (a11 : PySem.W.nsIn K mainGlobals "opening_of" = some (some (.ref f11)))
    (l11 : K.lookup f11 = some ⟨oc11, od11, .func (PySem.W.fnOf "opening_of" "opening_of" (defArgs s_opening_of) (defBody s_opening_of) (defScope s_opening_of) .none kV11 dc11 pm11 an11 cd11 ct11), sl11⟩)
    (c11 : PySem.W.codeIn K cd11 "opening_of" = true)
    (k11 : PySem.W.keepIn K (.ref f11) = true)
    (a12 : PySem.W.nsIn K mainGlobals "check_places" = some (some (.ref f12)))
    (l12 : K.lookup f12 = some ⟨oc12, od12, .func (PySem.W.fnOf "check_places" "check_places" (defArgs s_check_places) (defBody s_check_places) (defScope s_check_places) .none kV12 dc12 pm12 an12 cd12 ct12), sl12⟩)
    (c12 : PySem.W.codeIn K cd12 "check_places" = true)
    (k12 : PySem.W.keepIn K (.ref f12) = true)
    (a13 : PySem.W.nsIn K mainGlobals "_check_way_out" = some (some (.ref f13)))
    (l13 : K.lookup f13 = some ⟨oc13, od13, .func (PySem.W.fnOf "_check_way_out" "_check_way_out" (defArgs s_check_way_out) (defBody s_check_way_out) (defScope s_check_way_out) .none kV13 dc13 pm13 an13 cd13 ct13), sl13⟩)
    (c13 : PySem.W.codeIn K cd13 "_check_way_out" = true)
    (k13 : PySem.W.keepIn K (.ref f13) = true)
    (a14 : PySem.W.nsIn K mainGlobals "_way_out_of" = some (some (.ref f14)))
    (l14 : K.lookup f14 = some ⟨oc14, od14, .func (PySem.W.fnOf "_way_out_of" "_way_out_of" (defArgs s_way_out_of) (defBody s_way_out_of) (defScope s_way_out_of) .none kV14 dc14 pm14 an14 cd14 ct14), sl14⟩)
    (c14 : PySem.W.codeIn K cd14 "_way_out_of" = true)
    (k14 : PySem.W.keepIn K (.ref f14) = true)
    (a15 : PySem.W.nsIn K mainGlobals "_spread" = some (some (.ref f15)))
    (l15 : K.lookup f15 = some ⟨oc15, od15, .func (PySem.W.fnOf "_spread" "_spread" (defArgs s_spread) (defBody s_spread) (defScope s_spread) .none kV15 dc15 pm15 an15 cd15 ct15), sl15⟩)
    (c15 : PySem.W.codeIn K cd15 "_spread" = true)
    (k15 : PySem.W.keepIn K (.ref f15) = true)
    (a16 : PySem.W.nsIn K mainGlobals "_leads" = some (some (.ref f16)))
    (l16 : K.lookup f16 = some ⟨oc16, od16, .func (PySem.W.fnOf "_leads" "_leads" (defArgs s_leads) (defBody s_leads) (defScope s_leads) .none kV16 dc16 pm16 an16 cd16 ct16), sl16⟩)
    (c16 : PySem.W.codeIn K cd16 "_leads" = true)
    (k16 : PySem.W.keepIn K (.ref f16) = true)
    (a17 : PySem.W.nsIn K mainGlobals "_standings" = some (some (.ref f17)))
    (l17 : K.lookup f17 = some ⟨oc17, od17, .func (PySem.W.fnOf "_standings" "_standings" (defArgs s_standings) (defBody s_standings) (defScope s_standings) .none kV17 dc17 pm17 an17 cd17 ct17), sl17⟩)
    (c17 : PySem.W.codeIn K cd17 "_standings" = true)
    (k17 : PySem.W.keepIn K (.ref f17) = true)
    (a18 : PySem.W.nsIn K mainGlobals "_standing_behind" = some (some (.ref f18)))
    (l18 : K.lookup f18 = some ⟨oc18, od18, .func (PySem.W.fnOf "_standing_behind" "_standing_behind" (defArgs s_standing_behind) (defBody s_standing_behind) (defScope s_standing_behind) .none kV18 dc18 pm18 an18 cd18 ct18), sl18⟩)
    (c18 : PySem.W.codeIn K cd18 "_standing_behind" = true)
    (k18 : PySem.W.keepIn K (.ref f18) = true)
    (a19 : PySem.W.nsIn K mainGlobals "_may_stand" = some (some (.ref f19)))
    (l19 : K.lookup f19 = some ⟨oc19, od19, .func (PySem.W.fnOf "_may_stand" "_may_stand" (defArgs s_may_stand) (defBody s_may_stand) (defScope s_may_stand) .none kV19 dc19 pm19 an19 cd19 ct19), sl19⟩)
    (c19 : PySem.W.codeIn K cd19 "_may_stand" = true)
    (k19 : PySem.W.keepIn K (.ref f19) = true)
    (a20 : PySem.W.nsIn K mainGlobals "_ends_badly" = some (some (.ref f20)))
    (l20 : K.lookup f20 = some ⟨oc20, od20, .func (PySem.W.fnOf "_ends_badly" "_ends_badly" (defArgs s_ends_badly) (defBody s_ends_badly) (defScope s_ends_badly) .none kV20 dc20 pm20 an20 cd20 ct20), sl20⟩)
    (c20 : PySem.W.codeIn K cd20 "_ends_badly" = true)
    (k20 : PySem.W.keepIn K (.ref f20) = true)
    (a21 : PySem.W.nsIn K mainGlobals "_checked" = some (some (.ref f21)))
    (l21 : K.lookup f21 = some ⟨oc21, od21, .func (PySem.W.fnOf "_checked" "_checked" (defArgs s_checked) (defBody s_checked) (defScope s_checked) .none kV21 dc21 pm21 an21 cd21 ct21), sl21⟩)
    (c21 : PySem.W.codeIn K cd21 "_checked" = true)
    (k21 : PySem.W.keepIn K (.ref f21) = true)
    (a22 : PySem.W.nsIn K mainGlobals "_checked_place" = some (some (.ref f22)))
    (l22 : K.lookup f22 = some ⟨oc22, od22, .func (PySem.W.fnOf "_checked_place" "_checked_place" (defArgs s_checked_place) (defBody s_checked_place) (defScope s_checked_place) .none kV22 dc22 pm22 an22 cd22 ct22), sl22⟩)
    (c22 : PySem.W.codeIn K cd22 "_checked_place" = true)
    (k22 : PySem.W.keepIn K (.ref f22) = true)
    (a23 : PySem.W.nsIn K mainGlobals "_standing" = some (some (.ref f23)))
    (l23 : K.lookup f23 = some ⟨oc23, od23, .func (PySem.W.fnOf "_standing" "_standing" (defArgs s_standing) (defBody s_standing) (defScope s_standing) .none kV23 dc23 pm23 an23 cd23 ct23), sl23⟩)
    (c23 : PySem.W.codeIn K cd23 "_standing" = true)
    (k23 : PySem.W.keepIn K (.ref f23) = true)
    (a24 : PySem.W.nsIn K mainGlobals "_places_of" = some (some (.ref f24)))
    (l24 : K.lookup f24 = some ⟨oc24, od24, .func (PySem.W.fnOf "_places_of" "_places_of" (defArgs s_places_of) (defBody s_places_of) (defScope s_places_of) .none kV24 dc24 pm24 an24 cd24 ct24), sl24⟩)
    (c24 : PySem.W.codeIn K cd24 "_places_of" = true)
    (k24 : PySem.W.keepIn K (.ref f24) = true)
    (a25 : PySem.W.nsIn K mainGlobals "_law_numbers" = some (some (.ref f25)))
    (l25 : K.lookup f25 = some ⟨oc25, od25, .func (PySem.W.fnOf "_law_numbers" "_law_numbers" (defArgs s_l_numbers) (defBody s_l_numbers) (defScope s_l_numbers) .none kV25 dc25 pm25 an25 cd25 ct25), sl25⟩)
    (c25 : PySem.W.codeIn K cd25 "_law_numbers" = true)
    (k25 : PySem.W.keepIn K (.ref f25) = true)
    (a26 : PySem.W.nsIn K mainGlobals "_law_pool" = some (some (.ref f26)))
    (l26 : K.lookup f26 = some ⟨oc26, od26, .func (PySem.W.fnOf "_law_pool" "_law_pool" (defArgs s_l_pool) (defBody s_l_pool) (defScope s_l_pool) .none kV26 dc26 pm26 an26 cd26 ct26), sl26⟩)
    (c26 : PySem.W.codeIn K cd26 "_law_pool" = true)
    (k26 : PySem.W.keepIn K (.ref f26) = true)
    (a27 : PySem.W.nsIn K mainGlobals "_law_draw" = some (some (.ref f27)))
    (l27 : K.lookup f27 = some ⟨oc27, od27, .func (PySem.W.fnOf "_law_draw" "_law_draw" (defArgs s_l_draw) (defBody s_l_draw) (defScope s_l_draw) .none kV27 dc27 pm27 an27 cd27 ct27), sl27⟩)
    (c27 : PySem.W.codeIn K cd27 "_law_draw" = true)
    (k27 : PySem.W.keepIn K (.ref f27) = true)
    (a28 : PySem.W.nsIn K mainGlobals "_law_pick" = some (some (.ref f28)))
    (l28 : K.lookup f28 = some ⟨oc28, od28, .func (PySem.W.fnOf "_law_pick" "_law_pick" (defArgs s_l_pick) (defBody s_l_pick) (defScope s_l_pick) .none kV28 dc28 pm28 an28 cd28 ct28), sl28⟩)
    (c28 : PySem.W.codeIn K cd28 "_law_pick" = true)
    (k28 : PySem.W.keepIn K (.ref f28) = true)
    (a29 : PySem.W.nsIn K mainGlobals "_law_closing" = some (some (.ref f29)))
    (l29 : K.lookup f29 = some ⟨oc29, od29, .func (PySem.W.fnOf "_law_closing" "_law_closing" (defArgs s_l_closing) (defBody s_l_closing) (defScope s_l_closing) .none kV29 dc29 pm29 an29 cd29 ct29), sl29⟩)
    (c29 : PySem.W.codeIn K cd29 "_law_closing" = true)
    (k29 : PySem.W.keepIn K (.ref f29) = true)
    (a30 : PySem.W.nsIn K mainGlobals "_law_way_out" = some (some (.ref f30)))
    (l30 : K.lookup f30 = some ⟨oc30, od30, .func (PySem.W.fnOf "_law_way_out" "_law_way_out" (defArgs s_l_way_out) (defBody s_l_way_out) (defScope s_l_way_out) .none kV30 dc30 pm30 an30 cd30 ct30), sl30⟩)
    (c30 : PySem.W.codeIn K cd30 "_law_way_out" = true)
    (k30 : PySem.W.keepIn K (.ref f30) = true)
    (a31 : PySem.W.nsIn K mainGlobals "_law_body" = some (some (.ref f31)))
    (l31 : K.lookup f31 = some ⟨oc31, od31, .func (PySem.W.fnOf "_law_body" "_law_body" (defArgs s_l_body) (defBody s_l_body) (defScope s_l_body) .none kV31 dc31 pm31 an31 cd31 ct31), sl31⟩)
    (c31 : PySem.W.codeIn K cd31 "_law_body" = true)
    (k31 : PySem.W.keepIn K (.ref f31) = true)
    (a32 : PySem.W.nsIn K mainGlobals "_law_hand" = some (some (.ref f32)))
    (l32 : K.lookup f32 = some ⟨oc32, od32, .func (PySem.W.fnOf "_law_hand" "_law_hand" (defArgs s_l_hand) (defBody s_l_hand) (defScope s_l_hand) .none kV32 dc32 pm32 an32 cd32 ct32), sl32⟩)
    (c32 : PySem.W.codeIn K cd32 "_law_hand" = true)
    (k32 : PySem.W.keepIn K (.ref f32) = true)
    (a33 : PySem.W.nsIn K mainGlobals "_law_work" = some (some (.ref f33)))
    (l33 : K.lookup f33 = some ⟨oc33, od33, .func (PySem.W.fnOf "_law_work" "_law_work" (defArgs s_l_work) (defBody s_l_work) (defScope s_l_work) .none kV33 dc33 pm33 an33 cd33 ct33), sl33⟩)
    (c33 : PySem.W.codeIn K cd33 "_law_work" = true)
    (k33 : PySem.W.keepIn K (.ref f33) = true)
    (a34 : PySem.W.nsIn K mainGlobals "_law_laid" = some (some (.ref f34)))
    (l34 : K.lookup f34 = some ⟨oc34, od34, .func (PySem.W.fnOf "_law_laid" "_law_laid" (defArgs s_l_laid) (defBody s_l_laid) (defScope s_l_laid) .none kV34 dc34 pm34 an34 cd34 ct34), sl34⟩)
    (c34 : PySem.W.codeIn K cd34 "_law_laid" = true)
    (k34 : PySem.W.keepIn K (.ref f34) = true)
    (a35 : PySem.W.nsIn K mainGlobals "_law_flags" = some (some (.ref f35)))
    (l35 : K.lookup f35 = some ⟨oc35, od35, .func (PySem.W.fnOf "_law_flags" "_law_flags" (defArgs s_l_flags) (defBody s_l_flags) (defScope s_l_flags) .none kV35 dc35 pm35 an35 cd35 ct35), sl35⟩)
    (c35 : PySem.W.codeIn K cd35 "_law_flags" = true)
    (k35 : PySem.W.keepIn K (.ref f35) = true)
    (a36 : PySem.W.nsIn K mainGlobals "_law_entry_right" = some (some (.ref f36)))
    (l36 : K.lookup f36 = some ⟨oc36, od36, .func (PySem.W.fnOf "_law_entry_right" "_law_entry_right" (defArgs s_l_entry_right) (defBody s_l_entry_right) (defScope s_l_entry_right) .none kV36 dc36 pm36 an36 cd36 ct36), sl36⟩)
    (c36 : PySem.W.codeIn K cd36 "_law_entry_right" = true)
    (k36 : PySem.W.keepIn K (.ref f36) = true)
    (a37 : PySem.W.nsIn K mainGlobals "_law_refused" = some (some (.ref f37)))
    (l37 : K.lookup f37 = some ⟨oc37, od37, .func (PySem.W.fnOf "_law_refused" "_law_refused" (defArgs s_l_refused) (defBody s_l_refused) (defScope s_l_refused) .none kV37 dc37 pm37 an37 cd37 ct37), sl37⟩)
    (c37 : PySem.W.codeIn K cd37 "_law_refused" = true)
    (k37 : PySem.W.keepIn K (.ref f37) = true)
    (a38 : PySem.W.nsIn K mainGlobals "_law_row_right" = some (some (.ref f38)))
    (l38 : K.lookup f38 = some ⟨oc38, od38, .func (PySem.W.fnOf "_law_row_right" "_law_row_right" (defArgs s_l_row_right) (defBody s_l_row_right) (defScope s_l_row_right) .none kV38 dc38 pm38 an38 cd38 ct38), sl38⟩)
    (c38 : PySem.W.codeIn K cd38 "_law_row_right" = true)
    (k38 : PySem.W.keepIn K (.ref f38) = true)
    (a39 : PySem.W.nsIn K mainGlobals "law" = some (some (.ref f39)))
    (l39 : K.lookup f39 = some ⟨oc39, od39, .func (PySem.W.fnOf "law" "law" (defArgs s_law) (defBody s_law) (defScope s_law) .none kV39 dc39 pm39 an39 cd39 ct39), sl39⟩)
    (c39 : PySem.W.codeIn K cd39 "law" = true)
    (k39 : PySem.W.keepIn K (.ref f39) = true)
    (l40 : K.lookup f40 = some ⟨oc40, od40, .func (PySem.W.fnOf "__init__" "InvalidItem.__init__" (defArgs sII_init) (defBody sII_init) (defScope sII_init) .none kV40 dc40 pm40 an40 cd40 ct40), sl40⟩)
    (c40 : PySem.W.codeIn K cd40 "InvalidItem.__init__" = true)
    (k40 : PySem.W.keepIn K (.ref f40) = true)
    (l41 : K.lookup f41 = some ⟨oc41, od41, .func (PySem.W.fnOf "__init__" "InvalidNumber.__init__" (defArgs sIN_init) (defBody sIN_init) (defScope sIN_init) .none kV41 dc41 pm41 an41 cd41 ct41), sl41⟩)
    (c41 : PySem.W.codeIn K cd41 "InvalidNumber.__init__" = true)
    (k41 : PySem.W.keepIn K (.ref f41) = true)
    (a42 : PySem.W.findIn K (.ref CL) "__init__" = some (some (.ref f42)))
    (i42 : PySem.W.isFn K (.ref f42) = true)
    (fn42 : PySem.W.fnIn K f42 = true)
    (l42 : K.lookup f42 = some ⟨oc42, od42, .func (PySem.W.fnOf "__init__" "Layout.__init__" (defArgs sLay_init) (defBody sLay_init) (defScope sLay_init) .none kV42 dc42 pm42 an42 cd42 ct42), sl42⟩)
    (c42 : PySem.W.codeIn K cd42 "Layout.__init__" = true)
    (k42 : PySem.W.keepIn K (.ref f42) = true)
    (a43 : PySem.W.findIn K (.ref CH) "__init__" = some (some (.ref f43)))
    (i43 : PySem.W.isFn K (.ref f43) = true)
    (fn43 : PySem.W.fnIn K f43 = true)
    (l43 : K.lookup f43 = some ⟨oc43, od43, .func (PySem.W.fnOf "__init__" "HandRow.__init__" (defArgs sHR_init) (defBody sHR_init) (defScope sHR_init) .none kV43 dc43 pm43 an43 cd43 ct43), sl43⟩)
    (c43 : PySem.W.codeIn K cd43 "HandRow.__init__" = true)
    (k43 : PySem.W.keepIn K (.ref f43) = true)
    (l44 : K.lookup f44 = some ⟨oc44, od44, .func (PySem.W.fnOf "of" "HandRow.of" (defArgs sHR_of) (defBody sHR_of) (defScope sHR_of) .none kV44 dc44 pm44 an44 cd44 ct44), sl44⟩)
    (c44 : PySem.W.codeIn K cd44 "HandRow.of" = true)
    (k44 : PySem.W.keepIn K (.ref f44) = true)
    (l45 : K.lookup f45 = some ⟨oc45, od45, .func (PySem.W.fnOf "parts" "HandRow.parts" (defArgs s_hr_parts) (defBody s_hr_parts) (defScope s_hr_parts) .none kV45 dc45 pm45 an45 cd45 ct45), sl45⟩)
    (c45 : PySem.W.codeIn K cd45 "HandRow.parts" = true)
    (k45 : PySem.W.keepIn K (.ref f45) = true)
    (l46 : K.lookup f46 = some ⟨oc46, od46, .func (PySem.W.fnOf "size" "HandRow.size" (defArgs s_hr_size) (defBody s_hr_size) (defScope s_hr_size) .none kV46 dc46 pm46 an46 cd46 ct46), sl46⟩)
    (c46 : PySem.W.codeIn K cd46 "HandRow.size" = true)
    (k46 : PySem.W.keepIn K (.ref f46) = true)
    (l47 : K.lookup f47 = some ⟨oc47, od47, .func (PySem.W.fnOf "opening" "HandRow.opening" (defArgs s_hr_opening) (defBody s_hr_opening) (defScope s_hr_opening) .none kV47 dc47 pm47 an47 cd47 ct47), sl47⟩)
    (c47 : PySem.W.codeIn K cd47 "HandRow.opening" = true)
    (k47 : PySem.W.keepIn K (.ref f47) = true)
    (a48 : PySem.W.findIn K (.ref CH) "__len__" = some (some (.ref f48)))
    (i48 : PySem.W.isFn K (.ref f48) = true)
    (fn48 : PySem.W.fnIn K f48 = true)
    (l48 : K.lookup f48 = some ⟨oc48, od48, .func (PySem.W.fnOf "__len__" "HandRow.__len__" (defArgs s_hr_len) (defBody s_hr_len) (defScope s_hr_len) .none kV48 dc48 pm48 an48 cd48 ct48), sl48⟩)
    (c48 : PySem.W.codeIn K cd48 "HandRow.__len__" = true)
    (k48 : PySem.W.keepIn K (.ref f48) = true)
    (a49 : PySem.W.findIn K (.ref CH) "item" = some (some (.ref f49)))
    (i49 : PySem.W.isFn K (.ref f49) = true)
    (fn49 : PySem.W.fnIn K f49 = true)
    (l49 : K.lookup f49 = some ⟨oc49, od49, .func (PySem.W.fnOf "item" "HandRow.item" (defArgs s_hr_item) (defBody s_hr_item) (defScope s_hr_item) .none kV49 dc49 pm49 an49 cd49 ct49), sl49⟩)
    (c49 : PySem.W.codeIn K cd49 "HandRow.item" = true)
    (k49 : PySem.W.keepIn K (.ref f49) = true)
    (a50 : PySem.W.findIn K (.ref CH) "nexts" = some (some (.ref f50)))
    (i50 : PySem.W.isFn K (.ref f50) = true)
    (fn50 : PySem.W.fnIn K f50 = true)
    (l50 : K.lookup f50 = some ⟨oc50, od50, .func (PySem.W.fnOf "nexts" "HandRow.nexts" (defArgs s_hr_nexts) (defBody s_hr_nexts) (defScope s_hr_nexts) .none kV50 dc50 pm50 an50 cd50 ct50), sl50⟩)
    (c50 : PySem.W.codeIn K cd50 "HandRow.nexts" = true)
    (k50 : PySem.W.keepIn K (.ref f50) = true)
    (a51 : PySem.W.findIn K (.ref CH) "holds" = some (some (.ref f51)))
    (i51 : PySem.W.isFn K (.ref f51) = true)
    (fn51 : PySem.W.fnIn K f51 = true)
    (l51 : K.lookup f51 = some ⟨oc51, od51, .func (PySem.W.fnOf "holds" "HandRow.holds" (defArgs s_hr_holds) (defBody s_hr_holds) (defScope s_hr_holds) .none kV51 dc51 pm51 an51 cd51 ct51), sl51⟩)
    (c51 : PySem.W.codeIn K cd51 "HandRow.holds" = true)
    (k51 : PySem.W.keepIn K (.ref f51) = true)
    (a52 : PySem.W.findIn K (.ref CH) "is_under" = some (some (.ref f52)))
    (i52 : PySem.W.isFn K (.ref f52) = true)
    (fn52 : PySem.W.fnIn K f52 = true)
    (l52 : K.lookup f52 = some ⟨oc52, od52, .func (PySem.W.fnOf "is_under" "HandRow.is_under" (defArgs s_hr_under) (defBody s_hr_under) (defScope s_hr_under) .none kV52 dc52 pm52 an52 cd52 ct52), sl52⟩)
    (c52 : PySem.W.codeIn K cd52 "HandRow.is_under" = true)
    (k52 : PySem.W.keepIn K (.ref f52) = true)
    (a53 : PySem.W.findIn K (.ref CH) "is_locked" = some (some (.ref f53)))
    (i53 : PySem.W.isFn K (.ref f53) = true)
    (fn53 : PySem.W.fnIn K f53 = true)
    (l53 : K.lookup f53 = some ⟨oc53, od53, .func (PySem.W.fnOf "is_locked" "HandRow.is_locked" (defArgs s_hr_locked) (defBody s_hr_locked) (defScope s_hr_locked) .none kV53 dc53 pm53 an53 cd53 ct53), sl53⟩)
    (c53 : PySem.W.codeIn K cd53 "HandRow.is_locked" = true)
    (k53 : PySem.W.keepIn K (.ref f53) = true)
    (a54 : PySem.W.findIn K (.ref CH) "places_of" = some (some (.ref f54)))
    (i54 : PySem.W.isFn K (.ref f54) = true)
    (fn54 : PySem.W.fnIn K f54 = true)
    (l54 : K.lookup f54 = some ⟨oc54, od54, .func (PySem.W.fnOf "places_of" "HandRow.places_of" (defArgs s_hr_places) (defBody s_hr_places) (defScope s_hr_places) .none kV54 dc54 pm54 an54 cd54 ct54), sl54⟩)
    (c54 : PySem.W.codeIn K cd54 "HandRow.places_of" = true)
    (k54 : PySem.W.keepIn K (.ref f54) = true)
    (a55 : PySem.W.findIn K (.ref CW) "__init__" = some (some (.ref f55)))
    (i55 : PySem.W.isFn K (.ref f55) = true)
    (fn55 : PySem.W.fnIn K f55 = true)
    (l55 : K.lookup f55 = some ⟨oc55, od55, .func (PySem.W.fnOf "__init__" "WorkRow.__init__" (defArgs sWR_init) (defBody sWR_init) (defScope sWR_init) .none kV55 dc55 pm55 an55 cd55 ct55), sl55⟩)
    (c55 : PySem.W.codeIn K cd55 "WorkRow.__init__" = true)
    (k55 : PySem.W.keepIn K (.ref f55) = true)
    (l56 : K.lookup f56 = some ⟨oc56, od56, .func (PySem.W.fnOf "of" "WorkRow.of" (defArgs sWR_of) (defBody sWR_of) (defScope sWR_of) .none kV56 dc56 pm56 an56 cd56 ct56), sl56⟩)
    (c56 : PySem.W.codeIn K cd56 "WorkRow.of" = true)
    (k56 : PySem.W.keepIn K (.ref f56) = true)
    (l57 : K.lookup f57 = some ⟨oc57, od57, .func (PySem.W.fnOf "parts" "WorkRow.parts" (defArgs s_wr_parts) (defBody s_wr_parts) (defScope s_wr_parts) .none kV57 dc57 pm57 an57 cd57 ct57), sl57⟩)
    (c57 : PySem.W.codeIn K cd57 "WorkRow.parts" = true)
    (k57 : PySem.W.keepIn K (.ref f57) = true)
    (l58 : K.lookup f58 = some ⟨oc58, od58, .func (PySem.W.fnOf "size" "WorkRow.size" (defArgs s_wr_size) (defBody s_wr_size) (defScope s_wr_size) .none kV58 dc58 pm58 an58 cd58 ct58), sl58⟩)
    (c58 : PySem.W.codeIn K cd58 "WorkRow.size" = true)
    (k58 : PySem.W.keepIn K (.ref f58) = true)
    (a59 : PySem.W.findIn K (.ref CW) "__len__" = some (some (.ref f59)))
    (i59 : PySem.W.isFn K (.ref f59) = true)
    (fn59 : PySem.W.fnIn K f59 = true)
    (l59 : K.lookup f59 = some ⟨oc59, od59, .func (PySem.W.fnOf "__len__" "WorkRow.__len__" (defArgs s_wr_len) (defBody s_wr_len) (defScope s_wr_len) .none kV59 dc59 pm59 an59 cd59 ct59), sl59⟩)
    (c59 : PySem.W.codeIn K cd59 "WorkRow.__len__" = true)
    (k59 : PySem.W.keepIn K (.ref f59) = true)
    (a60 : PySem.W.findIn K (.ref CW) "item" = some (some (.ref f60)))
    (i60 : PySem.W.isFn K (.ref f60) = true)
    (fn60 : PySem.W.fnIn K f60 = true)
    (l60 : K.lookup f60 = some ⟨oc60, od60, .func (PySem.W.fnOf "item" "WorkRow.item" (defArgs s_wr_item) (defBody s_wr_item) (defScope s_wr_item) .none kV60 dc60 pm60 an60 cd60 ct60), sl60⟩)
    (c60 : PySem.W.codeIn K cd60 "WorkRow.item" = true)
    (k60 : PySem.W.keepIn K (.ref f60) = true)
    (a61 : PySem.W.findIn K (.ref CW) "nexts" = some (some (.ref f61)))
    (i61 : PySem.W.isFn K (.ref f61) = true)
    (fn61 : PySem.W.fnIn K f61 = true)
    (l61 : K.lookup f61 = some ⟨oc61, od61, .func (PySem.W.fnOf "nexts" "WorkRow.nexts" (defArgs s_wr_nexts) (defBody s_wr_nexts) (defScope s_wr_nexts) .none kV61 dc61 pm61 an61 cd61 ct61), sl61⟩)
    (c61 : PySem.W.codeIn K cd61 "WorkRow.nexts" = true)
    (k61 : PySem.W.keepIn K (.ref f61) = true)
    (a62 : PySem.W.findIn K (.ref CW) "holds" = some (some (.ref f62)))
    (i62 : PySem.W.isFn K (.ref f62) = true)
    (fn62 : PySem.W.fnIn K f62 = true)
    (l62 : K.lookup f62 = some ⟨oc62, od62, .func (PySem.W.fnOf "holds" "WorkRow.holds" (defArgs s_wr_holds) (defBody s_wr_holds) (defScope s_wr_holds) .none kV62 dc62 pm62 an62 cd62 ct62), sl62⟩)
    (c62 : PySem.W.codeIn K cd62 "WorkRow.holds" = true)
    (k62 : PySem.W.keepIn K (.ref f62) = true)
    (a63 : PySem.W.findIn K (.ref CW) "is_under" = some (some (.ref f63)))
    (i63 : PySem.W.isFn K (.ref f63) = true)
    (fn63 : PySem.W.fnIn K f63 = true)
    (l63 : K.lookup f63 = some ⟨oc63, od63, .func (PySem.W.fnOf "is_under" "WorkRow.is_under" (defArgs s_wr_under) (defBody s_wr_under) (defScope s_wr_under) .none kV63 dc63 pm63 an63 cd63 ct63), sl63⟩)
    (c63 : PySem.W.codeIn K cd63 "WorkRow.is_under" = true)
    (k63 : PySem.W.keepIn K (.ref f63) = true)
    (a64 : PySem.W.findIn K (.ref CW) "is_locked" = some (some (.ref f64)))
    (i64 : PySem.W.isFn K (.ref f64) = true)
    (fn64 : PySem.W.fnIn K f64 = true)
    (l64 : K.lookup f64 = some ⟨oc64, od64, .func (PySem.W.fnOf "is_locked" "WorkRow.is_locked" (defArgs s_wr_locked) (defBody s_wr_locked) (defScope s_wr_locked) .none kV64 dc64 pm64 an64 cd64 ct64), sl64⟩)
    (c64 : PySem.W.codeIn K cd64 "WorkRow.is_locked" = true)
    (k64 : PySem.W.keepIn K (.ref f64) = true)
    (a65 : PySem.W.findIn K (.ref CW) "places_of" = some (some (.ref f65)))
    (i65 : PySem.W.isFn K (.ref f65) = true)
    (fn65 : PySem.W.fnIn K f65 = true)
    (l65 : K.lookup f65 = some ⟨oc65, od65, .func (PySem.W.fnOf "places_of" "WorkRow.places_of" (defArgs s_wr_places) (defBody s_wr_places) (defScope s_wr_places) .none kV65 dc65 pm65 an65 cd65 ct65), sl65⟩)
    (c65 : PySem.W.codeIn K cd65 "WorkRow.places_of" = true)
    (k65 : PySem.W.keepIn K (.ref f65) = true)
    : ∃ fd : FuncData, (∀ (s : Shared) (v : Value), BindsTo s fd ⟨[v], []⟩ [("_law_script", v)]) ∧ ∀ base : Heap, K.In base → base.Ns mainGlobals mg → FnG l.prog w K mg base CX0 12 fa fd ["_law_script"] (spLaw K) := by
  have e := hfa.symm.trans (PySem.W.mg_of X G a39)
  cases e
  have T : Txt K mg lt0 lt1 lt2 lt0 lt4 t0 t1 t2 t3 t0 t0 t0 t7 t8 tF tO dC := { m_max := PySem.W.mg_none_of X G z_max, m_range := PySem.W.mg_none_of X G z_range, m_len := PySem.W.mg_none_of X G z_len, m_int := PySem.W.mg_none_of X G z_int, m_bool := PySem.W.mg_none_of X G z_bool, m_isinstance := PySem.W.mg_none_of X G z_isinstance, m_str := PySem.W.mg_none_of X G z_str, m_all := PySem.W.mg_none_of X G z_all, m_any := PySem.W.mg_none_of X G z_any, m_tuple := PySem.W.mg_none_of X G z_tuple, m_list := PySem.W.mg_none_of X G z_list, m_enumerate := PySem.W.mg_none_of X G z_enumerate, m_repr := PySem.W.mg_none_of X G z_repr, m_min := PySem.W.mg_none_of X G z_min, m_dict := PySem.W.mg_none_of X G z_dict, c_LONGEST_NAME := PySem.W.mg_of X G y_lt0, c_MOST_IN_WAY_OUT := PySem.W.mg_of X G y_lt1, c_MOST_ITEMS := PySem.W.mg_of X G y_lt2, c_LONGEST_OPENING := PySem.W.mg_of X G y_lt4, c_OPENERS := PySem.W.mg_of X G y_t0, c_BARE_ITEMS := PySem.W.mg_of X G y_t1, c_NAMED_ITEMS := PySem.W.mg_of X G y_t2, c_ASKS := PySem.W.mg_of X G y_t3, c_NOT_BEHIND_OPENING := PySem.W.mg_of X G y_t7, c_NOT_IN_WORKS := PySem.W.mg_of X G y_t8, c_AT_FIRST := PySem.W.mg_of X G y_tF, c_OPENINGS := PySem.W.mg_of X G y_tO, c_CHANGES := PySem.W.mg_of X G y_dC, w0 := tup_ofV x_t0 v_t0 (by decide), w1 := tup_ofV x_t1 v_t1 (by decide), w2 := tup_ofV x_t2 v_t2 (by decide), w3 := tup_ofV x_t3 v_t3 (by decide), w7 := tup_ofV x_t7 v_t7 (by decide), w8 := tup_ofV x_t8 v_t8 (by decide), wF := tup_ofV x_tF v_tF (by decide) }
  have TSI : ExT K mg "InvalidItem" "number" SI f40 := exT_of X G aSI xSI rfl saSI exSI tySI kpSI noSI gaSI ggSI hdSI iiSI tiSI icSI ssSI
  have TSN : ExT K mg "InvalidNumber" "value" SN f41 := exT_of X G aSN xSN rfl saSN exSN tySN kpSN noSN gaSN ggSN hdSN iiSN tiSN icSN ssSN
  have clCL : Cls K CL := ⟨pgCL, hdCL, poCL, saCL⟩
  have MCL : Mk K CL f42 := ⟨mkCL, a42, i42, kpCL⟩
  have clCH : Cls K CH := ⟨pgCH, hdCH, poCH, saCH⟩
  have MCH : Mk K CH f43 := ⟨mkCH, a43, i43, kpCH⟩
  have RDCH : ClX.CRead K CH (.type "type") := ⟨rdCH, gtCH⟩
  have SM_hr_of : SMet K CH (.type "type") "of" sCHof f44 := ⟨b1sCHof, ⟨_, b2sCHof⟩, k44⟩
  have PP_hr_parts : PropOf K CH "parts" pCHparts f45 := ⟨b1pCHparts, b2pCHparts, b3pCHparts, ⟨_, b4pCHparts⟩⟩
  have PP_hr_size : PropOf K CH "size" pCHsize f46 := ⟨b1pCHsize, b2pCHsize, b3pCHsize, ⟨_, b4pCHsize⟩⟩
  have PP_hr_opening : PropOf K CH "opening" pCHopening f47 := ⟨b1pCHopening, b2pCHopening, b3pCHopening, ⟨_, b4pCHopening⟩⟩
  have clCW : Cls K CW := ⟨pgCW, hdCW, poCW, saCW⟩
  have MCW : Mk K CW f55 := ⟨mkCW, a55, i55, kpCW⟩
  have RDCW : ClX.CRead K CW (.type "type") := ⟨rdCW, gtCW⟩
  have SM_wr_of : SMet K CW (.type "type") "of" sCWof f56 := ⟨b1sCWof, ⟨_, b2sCWof⟩, k56⟩
  have PP_wr_parts : PropOf K CW "parts" pCWparts f57 := ⟨b1pCWparts, b2pCWparts, b3pCWparts, ⟨_, b4pCWparts⟩⟩
  have PP_wr_size : PropOf K CW "size" pCWsize f58 := ⟨b1pCWsize, b2pCWsize, b3pCWsize, ⟨_, b4pCWsize⟩⟩
  have F_is_name := fun_mk (st := s_is_name) l1 c1 k1
  have b_is_name := F_is_name.binds (ps := ["value"]) fun _ _ _ _ _ _ us hl => match us, hl with | [_], _ => rfl
  have g_is_name := PySem.W.mg_of X G a1
  have F_is_integer := fun_mk (st := s_is_integer) l2 c2 k2
  have b_is_integer := F_is_integer.binds (ps := ["value", "lowest", "highest"]) fun _ _ _ _ _ _ us hl => match us, hl with | [_, _, _], _ => rfl
  have g_is_integer := PySem.W.mg_of X G a2
  have F_is_item := fun_mk (st := s_is_item) l3 c3 k3
  have b_is_item := F_is_item.binds (ps := ["value"]) fun _ _ _ _ _ _ us hl => match us, hl with | [_], _ => rfl
  have g_is_item := PySem.W.mg_of X G a3
  have F_is_way_item := fun_mk (st := s_is_way_item) l4 c4 k4
  have b_is_way_item := F_is_way_item.binds (ps := ["value"]) fun _ _ _ _ _ _ us hl => match us, hl with | [_], _ => rfl
  have g_is_way_item := PySem.W.mg_of X G a4
  have F_is_ask_head := fun_mk (st := s_is_ask_head) l5 c5 k5
  have b_is_ask_head := F_is_ask_head.binds (ps := ["value"]) fun _ _ _ _ _ _ us hl => match us, hl with | [_], _ => rfl
  have g_is_ask_head := PySem.W.mg_of X G a5
  have F_is_ask := fun_mk (st := s_is_ask) l6 c6 k6
  have b_is_ask := F_is_ask.binds (ps := ["value"]) fun _ _ _ _ _ _ us hl => match us, hl with | [_], _ => rfl
  have g_is_ask := PySem.W.mg_of X G a6
  have F_is_bare := fun_mk (st := s_is_bare) l7 c7 k7
  have b_is_bare := F_is_bare.binds (ps := ["value", "words"]) fun _ _ _ _ _ _ us hl => match us, hl with | [_, _], _ => rfl
  have g_is_bare := PySem.W.mg_of X G a7
  have F_is_named := fun_mk (st := s_is_named) l8 c8 k8
  have b_is_named := F_is_named.binds (ps := ["value", "words"]) fun _ _ _ _ _ _ us hl => match us, hl with | [_, _], _ => rfl
  have g_is_named := PySem.W.mg_of X G a8
  have F_is_word := fun_mk (st := s_is_word) l9 c9 k9
  have b_is_word := F_is_word.binds (ps := ["value", "words"]) fun _ _ _ _ _ _ us hl => match us, hl with | [_, _], _ => rfl
  have g_is_word := PySem.W.mg_of X G a9
  have F_check_items := fun_mk (st := s_check_items) l10 c10 k10
  have b_check_items := F_check_items.binds (ps := ["parts"]) fun _ _ _ _ _ _ us hl => match us, hl with | [_], _ => rfl
  have g_check_items := PySem.W.mg_of X G a10
  have F_opening_of := fun_mk (st := s_opening_of) l11 c11 k11
  have b_opening_of := F_opening_of.binds (ps := ["parts"]) fun _ _ _ _ _ _ us hl => match us, hl with | [_], _ => rfl
  have g_opening_of := PySem.W.mg_of X G a11
  have F_check_places := fun_mk (st := s_check_places) l12 c12 k12
  have b_check_places := F_check_places.binds (ps := ["layout", "opening", "barred"]) fun _ _ _ _ _ _ us hl => match us, hl with | [_, _, _], _ => rfl
  have g_check_places := PySem.W.mg_of X G a12
  have F_check_way_out := fun_mk (st := s_check_way_out) l13 c13 k13
  have b_check_way_out := F_check_way_out.binds (ps := ["way_out", "number"]) fun _ _ _ _ _ _ us hl => match us, hl with | [_, _], _ => rfl
  have g_check_way_out := PySem.W.mg_of X G a13
  have F_way_out_of := fun_mk (st := s_way_out_of) l14 c14 k14
  have b_way_out_of := F_way_out_of.binds (ps := ["part"]) fun _ _ _ _ _ _ us hl => match us, hl with | [_], _ => rfl
  have g_way_out_of := PySem.W.mg_of X G a14
  have F_spread := fun_mk (st := s_spread) l15 c15 k15
  have b_spread := F_spread.binds (ps := ["parts"]) fun _ _ _ _ _ _ us hl => match us, hl with | [_], _ => rfl
  have g_spread := PySem.W.mg_of X G a15
  have F_leads := fun_mk (st := s_leads) l16 c16 k16
  have b_leads := F_leads.binds (ps := ["parts", "end"]) fun _ _ _ _ _ _ us hl => match us, hl with | [_, _], _ => rfl
  have g_leads := PySem.W.mg_of X G a16
  have F_standings := fun_mk (st := s_standings) l17 c17 k17
  have b_standings := F_standings.binds (ps := ["placed", "leads"]) fun _ _ _ _ _ _ us hl => match us, hl with | [_, _], _ => rfl
  have g_standings := PySem.W.mg_of X G a17
  have F_standing_behind := fun_mk (st := s_standing_behind) l18 c18 k18
  have b_standing_behind := F_standing_behind.binds (ps := ["standing", "word"]) fun _ _ _ _ _ _ us hl => match us, hl with | [_, _], _ => rfl
  have g_standing_behind := PySem.W.mg_of X G a18
  have F_may_stand := fun_mk (st := s_may_stand) l19 c19 k19
  have b_may_stand := F_may_stand.binds (ps := ["layout", "place"]) fun _ _ _ _ _ _ us hl => match us, hl with | [_, _], _ => rfl
  have g_may_stand := PySem.W.mg_of X G a19
  have F_ends_badly := fun_mk (st := s_ends_badly) l20 c20 k20
  have b_ends_badly := F_ends_badly.binds (ps := ["layout", "place"]) fun _ _ _ _ _ _ us hl => match us, hl with | [_, _], _ => rfl
  have g_ends_badly := PySem.W.mg_of X G a20
  have F_checked := fun_mk (st := s_checked) l21 c21 k21
  have b_checked := F_checked.binds (ps := ["value", "highest"]) fun _ _ _ _ _ _ us hl => match us, hl with | [_, _], _ => rfl
  have g_checked := PySem.W.mg_of X G a21
  have F_checked_place := fun_mk (st := s_checked_place) l22 c22 k22
  have b_checked_place := F_checked_place.binds (ps := ["layout", "place"]) fun _ _ _ _ _ _ us hl => match us, hl with | [_, _], _ => rfl
  have g_checked_place := PySem.W.mg_of X G a22
  have F_standing := fun_mk (st := s_standing) l23 c23 k23
  have b_standing := F_standing.binds (ps := ["layout", "place"]) fun _ _ _ _ _ _ us hl => match us, hl with | [_, _], _ => rfl
  have g_standing := PySem.W.mg_of X G a23
  have F_places_of := fun_mk (st := s_places_of) l24 c24 k24
  have b_places_of := F_places_of.binds (ps := ["layout", "word"]) fun _ _ _ _ _ _ us hl => match us, hl with | [_, _], _ => rfl
  have g_places_of := PySem.W.mg_of X G a24
  have F_l_numbers := fun_mk (st := s_l_numbers) l25 c25 k25
  have b_l_numbers := F_l_numbers.binds (ps := ["_law_cell", "_law_salt", "_law_sizes"]) fun _ _ _ _ _ _ us hl => match us, hl with | [_, _, _], _ => rfl
  have g_l_numbers := PySem.W.mg_of X G a25
  have F_l_pool := fun_mk (st := s_l_pool) l26 c26 k26
  have b_l_pool := F_l_pool.binds (ps := ["_law_cell", "_law_salt", "_law_many"]) fun _ _ _ _ _ _ us hl => match us, hl with | [_, _, _], _ => rfl
  have g_l_pool := PySem.W.mg_of X G a26
  have F_l_draw := fun_mk (st := s_l_draw) l27 c27 k27
  have b_l_draw := F_l_draw.binds (ps := ["_law_pool_here", "_law_many"]) fun _ _ _ _ _ _ us hl => match us, hl with | [_, _], _ => rfl
  have g_l_draw := PySem.W.mg_of X G a27
  have F_l_pick := fun_mk (st := s_l_pick) l28 c28 k28
  have b_l_pick := F_l_pick.binds (ps := ["_law_pool_here", "_law_some"]) fun _ _ _ _ _ _ us hl => match us, hl with | [_, _], _ => rfl
  have g_l_pick := PySem.W.mg_of X G a28
  have F_l_closing := fun_mk (st := s_l_closing) l29 c29 k29
  have b_l_closing := F_l_closing.binds (ps := ["_law_pool_here", "_law_under", "_law_locked", "_law_lets", "_law_leak"]) fun _ _ _ _ _ _ us hl => match us, hl with | [_, _, _, _, _], _ => rfl
  have g_l_closing := PySem.W.mg_of X G a29
  have F_l_way_out := fun_mk (st := s_l_way_out) l30 c30 k30
  have b_l_way_out := F_l_way_out.binds (ps := ["_law_pool_here", "_law_under", "_law_locked", "_law_lets"]) fun _ _ _ _ _ _ us hl => match us, hl with | [_, _, _, _], _ => rfl
  have g_l_way_out := PySem.W.mg_of X G a30
  have F_l_body := fun_mk (st := s_l_body) l31 c31 k31
  have b_l_body := F_l_body.binds (ps := ["_law_pool_here", "_law_names", "_law_room", "_law_lets"]) fun _ _ _ _ _ _ us hl => match us, hl with | [_, _, _, _], _ => rfl
  have g_l_body := PySem.W.mg_of X G a31
  have F_l_hand := fun_mk (st := s_l_hand) l32 c32 k32
  have b_l_hand := F_l_hand.binds (ps := ["_law_pool_here", "_law_names"]) fun _ _ _ _ _ _ us hl => match us, hl with | [_, _], _ => rfl
  have g_l_hand := PySem.W.mg_of X G a32
  have F_l_work := fun_mk (st := s_l_work) l33 c33 k33
  have b_l_work := F_l_work.binds (ps := ["_law_pool_here", "_law_names"]) fun _ _ _ _ _ _ us hl => match us, hl with | [_, _], _ => rfl
  have g_l_work := PySem.W.mg_of X G a33
  have F_l_laid := fun_mk (st := s_l_laid) l34 c34 k34
  have b_l_laid := F_l_laid.binds (ps := ["_law_items"]) fun _ _ _ _ _ _ us hl => match us, hl with | [_], _ => rfl
  have g_l_laid := PySem.W.mg_of X G a34
  have F_l_flags := fun_mk (st := s_l_flags) l35 c35 k35
  have b_l_flags := F_l_flags.binds (ps := ["_law_flags_here", "_law_item"]) fun _ _ _ _ _ _ us hl => match us, hl with | [_, _], _ => rfl
  have g_l_flags := PySem.W.mg_of X G a35
  have F_l_entry_right := fun_mk (st := s_l_entry_right) l36 c36 k36
  have b_l_entry_right := F_l_entry_right.binds (ps := ["_law_row", "_law_place", "_law_entry"]) fun _ _ _ _ _ _ us hl => match us, hl with | [_, _, _], _ => rfl
  have g_l_entry_right := PySem.W.mg_of X G a36
  have F_l_refused := fun_mk (st := s_l_refused) l37 c37 k37
  have b_l_refused := F_l_refused.binds (ps := ["_law_row", "_law_value"]) fun _ _ _ _ _ _ us hl => match us, hl with | [_, _], _ => rfl
  have g_l_refused := PySem.W.mg_of X G a37
  have F_l_row_right := fun_mk (st := s_l_row_right) l38 c38 k38
  have b_l_row_right := F_l_row_right.binds (ps := ["_law_row", "_law_items"]) fun _ _ _ _ _ _ us hl => match us, hl with | [_, _], _ => rfl
  have g_l_row_right := PySem.W.mg_of X G a38
  have F_law := fun_mk (st := s_law) l39 c39 k39
  have F_ii_init := fun_mk (st := sII_init) l40 c40 k40
  have b_ii_init := F_ii_init.binds (ps := ["self", "number"]) fun _ _ _ _ _ _ us hl => match us, hl with | [_, _], _ => rfl
  have F_in_init := fun_mk (st := sIN_init) l41 c41 k41
  have b_in_init := F_in_init.binds (ps := ["self", "value"]) fun _ _ _ _ _ _ us hl => match us, hl with | [_, _], _ => rfl
  have F_lay_init := fun_mk (st := sLay_init) l42 c42 k42
  have b_lay_init := F_lay_init.binds (ps := ["self", "parts"]) fun _ _ _ _ _ _ us hl => match us, hl with | [_, _], _ => rfl
  have F_hr_init := fun_mk (st := sHR_init) l43 c43 k43
  have F_hr_of := fun_mk (st := sHR_of) l44 c44 k44
  have b_hr_of := F_hr_of.binds (ps := ["items"]) fun _ _ _ _ _ _ us hl => match us, hl with | [_], _ => rfl
  have F_hr_parts := fun_mk (st := s_hr_parts) l45 c45 k45
  have b_hr_parts := F_hr_parts.binds (ps := ["self"]) fun _ _ _ _ _ _ us hl => match us, hl with | [_], _ => rfl
  have F_hr_size := fun_mk (st := s_hr_size) l46 c46 k46
  have b_hr_size := F_hr_size.binds (ps := ["self"]) fun _ _ _ _ _ _ us hl => match us, hl with | [_], _ => rfl
  have F_hr_opening := fun_mk (st := s_hr_opening) l47 c47 k47
  have b_hr_opening := F_hr_opening.binds (ps := ["self"]) fun _ _ _ _ _ _ us hl => match us, hl with | [_], _ => rfl
  have F_hr_len := fun_mk (st := s_hr_len) l48 c48 k48
  have b_hr_len := F_hr_len.binds (ps := ["self"]) fun _ _ _ _ _ _ us hl => match us, hl with | [_], _ => rfl
  have F_hr_item := fun_mk (st := s_hr_item) l49 c49 k49
  have b_hr_item := F_hr_item.binds (ps := ["self", "place"]) fun _ _ _ _ _ _ us hl => match us, hl with | [_, _], _ => rfl
  have F_hr_nexts := fun_mk (st := s_hr_nexts) l50 c50 k50
  have b_hr_nexts := F_hr_nexts.binds (ps := ["self", "place"]) fun _ _ _ _ _ _ us hl => match us, hl with | [_, _], _ => rfl
  have F_hr_holds := fun_mk (st := s_hr_holds) l51 c51 k51
  have b_hr_holds := F_hr_holds.binds (ps := ["self", "place"]) fun _ _ _ _ _ _ us hl => match us, hl with | [_, _], _ => rfl
  have F_hr_under := fun_mk (st := s_hr_under) l52 c52 k52
  have b_hr_under := F_hr_under.binds (ps := ["self", "place"]) fun _ _ _ _ _ _ us hl => match us, hl with | [_, _], _ => rfl
  have F_hr_locked := fun_mk (st := s_hr_locked) l53 c53 k53
  have b_hr_locked := F_hr_locked.binds (ps := ["self", "place"]) fun _ _ _ _ _ _ us hl => match us, hl with | [_, _], _ => rfl
  have F_hr_places := fun_mk (st := s_hr_places) l54 c54 k54
  have b_hr_places := F_hr_places.binds (ps := ["self", "word"]) fun _ _ _ _ _ _ us hl => match us, hl with | [_, _], _ => rfl
  have F_wr_init := fun_mk (st := sWR_init) l55 c55 k55
  have F_wr_of := fun_mk (st := sWR_of) l56 c56 k56
  have b_wr_of := F_wr_of.binds (ps := ["items"]) fun _ _ _ _ _ _ us hl => match us, hl with | [_], _ => rfl
  have F_wr_parts := fun_mk (st := s_wr_parts) l57 c57 k57
  have b_wr_parts := F_wr_parts.binds (ps := ["self"]) fun _ _ _ _ _ _ us hl => match us, hl with | [_], _ => rfl
  have F_wr_size := fun_mk (st := s_wr_size) l58 c58 k58
  have b_wr_size := F_wr_size.binds (ps := ["self"]) fun _ _ _ _ _ _ us hl => match us, hl with | [_], _ => rfl
  have F_wr_len := fun_mk (st := s_wr_len) l59 c59 k59
  have b_wr_len := F_wr_len.binds (ps := ["self"]) fun _ _ _ _ _ _ us hl => match us, hl with | [_], _ => rfl
  have F_wr_item := fun_mk (st := s_wr_item) l60 c60 k60
  have b_wr_item := F_wr_item.binds (ps := ["self", "place"]) fun _ _ _ _ _ _ us hl => match us, hl with | [_, _], _ => rfl
  have F_wr_nexts := fun_mk (st := s_wr_nexts) l61 c61 k61
  have b_wr_nexts := F_wr_nexts.binds (ps := ["self", "place"]) fun _ _ _ _ _ _ us hl => match us, hl with | [_, _], _ => rfl
  have F_wr_holds := fun_mk (st := s_wr_holds) l62 c62 k62
  have b_wr_holds := F_wr_holds.binds (ps := ["self", "place"]) fun _ _ _ _ _ _ us hl => match us, hl with | [_, _], _ => rfl
  have F_wr_under := fun_mk (st := s_wr_under) l63 c63 k63
  have b_wr_under := F_wr_under.binds (ps := ["self", "place"]) fun _ _ _ _ _ _ us hl => match us, hl with | [_, _], _ => rfl
  have F_wr_locked := fun_mk (st := s_wr_locked) l64 c64 k64
  have b_wr_locked := F_wr_locked.binds (ps := ["self", "place"]) fun _ _ _ _ _ _ us hl => match us, hl with | [_, _], _ => rfl
  have F_wr_places := fun_mk (st := s_wr_places) l65 c65 k65
  have b_wr_places := F_wr_places.binds (ps := ["self", "word"]) fun _ _ _ _ _ _ us hl => match us, hl with | [_, _], _ => rfl
  have LT : LyT K mg CL := ⟨PySem.W.mg_of X G aCL, clCL, nCLplaced, nCLend, nCLleads, nCLstandings⟩
  have CTh : RwT K mg "HandRow" CH := ⟨PySem.W.mg_of X G aCH, clCH, nCH_parts, nCHlayout, nCH_opening⟩
  have CTw : RwT K mg "WorkRow" CW := ⟨PySem.W.mg_of X G aCW, clCW, nCW_parts, nCWlayout, nCW_opening⟩
  have hO : ∀ H, Dp K H (.ref tO) (.tuple (opens.map strsD)) := fun H => .tup (tup_ofV x_tO v_tO (by show 6 ≤ 1000; decide) H) (.cons (.tup (tup_ofV x_o0 v_o0 (by decide) H) (dp_strs _)) (.cons (.tup (tup_ofV x_o1 v_o1 (by decide) H) (dp_strs _)) (.cons (.tup (tup_ofV x_o2 v_o2 (by decide) H) (dp_strs _)) (.cons (.tup (tup_ofV x_o3 v_o3 (by decide) H) (dp_strs _)) (.cons (.tup (tup_ofV x_o4 v_o4 (by decide) H) (dp_strs _)) (.cons (.tup (tup_ofV x_o5 v_o5 (by decide) H) (dp_strs _)) (.nil)))))))
  have hC : Chg K w dC := chg_of x_dC q_dC u_dC lo_dC (tup_ofV x_h0 v_h0 (by decide)) (tup_ofV x_h1 v_h1 (by decide)) (tup_ofV x_h2 v_h2 (by decide)) (tup_ofV x_h3 v_h3 (by decide)) (tup_ofV x_h4 v_h4 (by decide)) (tup_ofV x_h5 v_h5 (by decide)) (tup_ofV x_h6 v_h6 (by decide))
  refine ⟨PySem.W.fnOf "law" "law" (defArgs s_law) (defBody s_law) (defScope s_law) .none kV39 dc39 pm39 an39 cd39 ct39, fun s v => .of_eq rfl, fun base _ _ => ?_⟩
  have G_is_word : FnOk l.prog w K mg base CX0 1 f9 _ ["value", "words"] ((spChkW K isWordP)) := ok_is_word F_is_word T
  have G_is_name : FnOk l.prog w K mg base CX0 1 f1 _ ["value"] ((spChk K isNameP)) := ok_is_name F_is_name T
  have G_is_bare : FnOk l.prog w K mg base CX0 2 f7 _ ["value", "words"] ((spChkW K isBareP)) := ok_is_bare F_is_bare T F_is_word b_is_word g_is_word G_is_word
  have G_is_named : FnOk l.prog w K mg base CX0 2 f8 _ ["value", "words"] ((spChkW K isNamedP)) := ok_is_named F_is_named T F_is_word b_is_word g_is_word G_is_word F_is_name b_is_name g_is_name G_is_name
  have G_is_integer : FnOk l.prog w K mg base CX0 1 f2 _ ["value", "lowest", "highest"] ((spIsInt K)) := ok_is_int F_is_integer T
  have G_is_way_item : FnOk l.prog w K mg base CX0 3 f4 _ ["value"] ((spChk K isWayItemP)) := ok_is_way_item F_is_way_item T F_is_bare b_is_bare g_is_bare G_is_bare F_is_named b_is_named g_is_named G_is_named
  have G_is_ask_head : FnOk l.prog w K mg base CX0 2 f5 _ ["value"] ((spChk K isHeadP)) := ok_is_ask_head F_is_ask_head T F_is_word b_is_word g_is_word G_is_word F_is_name b_is_name g_is_name G_is_name
  have G_is_ask : FnOk l.prog w K mg base CX0 5 f6 _ ["value"] ((spChk K isAskP)) := ok_is_ask F_is_ask T F_is_ask_head b_is_ask_head g_is_ask_head G_is_ask_head F_is_way_item b_is_way_item g_is_way_item G_is_way_item
  have G_is_item : FnOk l.prog w K mg base CX0 6 f3 _ ["value"] ((spChk K isItemP)) := ok_is_item F_is_item T F_is_bare b_is_bare g_is_bare G_is_bare F_is_way_item b_is_way_item g_is_way_item G_is_way_item F_is_ask b_is_ask g_is_ask G_is_ask
  have G_way_out_of : FnOk l.prog w K mg base CX0 1 f14 _ ["part"] ((spWay K)) := ok_way_out_of F_way_out_of T
  have G_spread : FnOk l.prog w K mg base CX0 2 f15 _ ["parts"] ((spSpread K)) := ok_spread F_spread T F_way_out_of b_way_out_of g_way_out_of G_way_out_of
  have G_standing_behind : FnOk l.prog w K mg base CX0 1 f18 _ ["standing", "word"] ((spStB K)) := ok_standing_behind F_standing_behind T hC
  have G_leads : FnOk l.prog w K mg base CX0 2 f16 _ ["parts", "end"] ((spLeads K)) := ok_leads F_leads T F_way_out_of b_way_out_of g_way_out_of G_way_out_of
  have G_standings : FnOk l.prog w K mg base CX0 2 f17 _ ["placed", "leads"] ((spStandings K)) := ok_standings F_standings T F_standing_behind b_standing_behind g_standing_behind G_standing_behind
  have G_lay_init : FnOk l.prog w K mg base CX0 3 f42 _ ["self", "parts"] (spLayI K CL) := ok_lay_init F_lay_init T LT F_spread b_spread g_spread G_spread F_leads b_leads g_leads G_leads F_standings b_standings g_standings G_standings
  have R_lay_init := (G_lay_init.raw b_lay_init .nil).imp fun vs H Q E h => by rw [List.append_nil]; exact h
  have G_ends_badly : FnOk l.prog w K mg base CX0 2 f20 _ ["layout", "place"] (spPl K CL false) := ok_ends_badly F_ends_badly T LT F_standing_behind b_standing_behind g_standing_behind G_standing_behind
  have G_may_stand : FnOk l.prog w K mg base CX0 1 f19 _ ["layout", "place"] (spPl K CL true) := ok_may_stand F_may_stand T LT
  have G_ii_init : FnOk l.prog w K mg base CX0 1 f40 _ ["self", "number"] (spExI SI "number") := ok_ii_init F_ii_init TSI
  have G_in_init : FnOk l.prog w K mg base CX0 1 f41 _ ["self", "value"] (spExI SN "value") := ok_in_init F_in_init TSN
  have G_check_places : FnOk l.prog w K mg base (L2.CX l.prog w) 3 f12 _ ["layout", "opening", "barred"] (spPlaces K CL) := ok_check_places F_check_places T LT TSI b_ii_init G_ii_init F_may_stand b_may_stand g_may_stand G_may_stand F_ends_badly b_ends_badly g_ends_badly G_ends_badly
  have G_check_way_out : FnOk l.prog w K mg base (L2.CX l.prog w) 4 f13 _ ["way_out", "number"] ((spCwo K)) := ok_check_way_out F_check_way_out T TSI b_ii_init G_ii_init F_is_way_item b_is_way_item g_is_way_item G_is_way_item
  have G_check_items : FnOk l.prog w K mg base (L2.CX l.prog w) 7 f10 _ ["parts"] ((spItems K)) := ok_check_items F_check_items T TSI b_ii_init G_ii_init F_check_way_out b_check_way_out g_check_way_out G_check_way_out F_is_ask_head b_is_ask_head g_is_ask_head G_is_ask_head F_is_item b_is_item g_is_item G_is_item
  have G_opening_of : FnOk l.prog w K mg base (L2.CX l.prog w) 3 f11 _ ["parts"] ((spOpen K tO)) := ok_opening_of F_opening_of T TSI b_ii_init G_ii_init
  have G_hr_init : FnR l.prog w K mg base (L2.CX l.prog w) 8 f43 (spStar 1 (spRowHI K CH CL true wNotB)) := ok_hr_init F_hr_init T CTh LT MCL R_lay_init F_check_items b_check_items g_check_items G_check_items F_opening_of b_opening_of g_opening_of G_opening_of hO F_check_places b_check_places g_check_places G_check_places
  have G_wr_init : FnR l.prog w K mg base (L2.CX l.prog w) 8 f55 (spStar 1 (spRowHI K CW CL false wNotW)) := ok_wr_init F_wr_init T CTw LT MCL R_lay_init F_check_items b_check_items g_check_items G_check_items F_check_places b_check_places g_check_places G_check_places
  have G_checked : FnOk l.prog w K mg base (L2.CX l.prog w) 3 f21 _ ["value", "highest"] (spChecked K SN) := ok_checked F_checked TSN F_is_integer b_is_integer g_is_integer G_is_integer b_in_init G_in_init
  have G_checked_place : FnOk l.prog w K mg base (L2.CX l.prog w) 4 f22 _ ["layout", "place"] (spCkP K CL SN) := ok_checked_place F_checked_place LT F_checked b_checked g_checked G_checked
  have G_standing : FnOk l.prog w K mg base (L2.CX l.prog w) 5 f23 _ ["layout", "place"] (spStd K CL SN) := ok_standing F_standing LT F_checked_place b_checked_place g_checked_place G_checked_place
  have G_places_of : FnOk l.prog w K mg base CX0 1 f24 _ ["layout", "word"] (spPlc K CL) := ok_places_of F_places_of T LT
  have G_hr_parts : FnOk l.prog w K mg base CX0 1 f45 _ ["self"] (getSp CH "_parts") := ok_hr_parts F_hr_parts CTh
  have G_hr_size : FnOk l.prog w K mg base CX0 1 f46 _ ["self"] (spSize K CH CL) := ok_hr_size F_hr_size CTh LT
  have G_hr_opening : FnOk l.prog w K mg base CX0 1 f47 _ ["self"] (spOpn K CH CL) := ok_hr_opening F_hr_opening CTh
  have G_hr_len : FnOk l.prog w K mg base CX0 1 f48 _ ["self"] (spLenH K CH CL) := ok_hr_len F_hr_len T CTh
  have R_hr_len := (G_hr_len.raw b_hr_len .nil).imp fun vs H Q E h => by rw [List.append_nil]; exact h
  have G_hr_item : FnOk l.prog w K mg base (L2.CX l.prog w) 5 f49 _ ["self", "place"] (spAt K CH CL SN (RItem K)) := ok_hr_item F_hr_item CTh LT F_checked_place b_checked_place g_checked_place G_checked_place
  have R_hr_item := (G_hr_item.raw b_hr_item .nil).imp fun vs H Q E h => by rw [List.append_nil]; exact h
  have G_hr_nexts : FnOk l.prog w K mg base (L2.CX l.prog w) 5 f50 _ ["self", "place"] (spAt K CH CL SN (RNext K)) := ok_hr_nexts F_hr_nexts CTh LT F_checked_place b_checked_place g_checked_place G_checked_place
  have R_hr_nexts := (G_hr_nexts.raw b_hr_nexts .nil).imp fun vs H Q E h => by rw [List.append_nil]; exact h
  have G_hr_holds : FnOk l.prog w K mg base (L2.CX l.prog w) 6 f51 _ ["self", "place"] (spAt K CH CL SN (RFlag 0)) := ok_hr_holds F_hr_holds CTh F_standing b_standing g_standing G_standing
  have R_hr_holds := (G_hr_holds.raw b_hr_holds .nil).imp fun vs H Q E h => by rw [List.append_nil]; exact h
  have G_hr_under : FnOk l.prog w K mg base (L2.CX l.prog w) 6 f52 _ ["self", "place"] (spAt K CH CL SN (RFlag 1)) := ok_hr_under F_hr_under CTh F_standing b_standing g_standing G_standing
  have R_hr_under := (G_hr_under.raw b_hr_under .nil).imp fun vs H Q E h => by rw [List.append_nil]; exact h
  have G_hr_locked : FnOk l.prog w K mg base (L2.CX l.prog w) 6 f53 _ ["self", "place"] (spAt K CH CL SN (RFlag 2)) := ok_hr_locked F_hr_locked CTh F_standing b_standing g_standing G_standing
  have R_hr_locked := (G_hr_locked.raw b_hr_locked .nil).imp fun vs H Q E h => by rw [List.append_nil]; exact h
  have G_hr_places : FnOk l.prog w K mg base CX0 2 f54 _ ["self", "word"] (spPlcR K CH CL) := ok_hr_places F_hr_places CTh F_places_of b_places_of g_places_of G_places_of
  have R_hr_places := (G_hr_places.raw b_hr_places .nil).imp fun vs H Q E h => by rw [List.append_nil]; exact h
  have G_wr_parts : FnOk l.prog w K mg base CX0 1 f57 _ ["self"] (getSp CW "_parts") := ok_wr_parts F_wr_parts CTw
  have G_wr_size : FnOk l.prog w K mg base CX0 1 f58 _ ["self"] (spSize K CW CL) := ok_wr_size F_wr_size CTw LT
  have G_wr_len : FnOk l.prog w K mg base CX0 1 f59 _ ["self"] (spLenH K CW CL) := ok_wr_len F_wr_len T CTw
  have R_wr_len := (G_wr_len.raw b_wr_len .nil).imp fun vs H Q E h => by rw [List.append_nil]; exact h
  have G_wr_item : FnOk l.prog w K mg base (L2.CX l.prog w) 5 f60 _ ["self", "place"] (spAt K CW CL SN (RItem K)) := ok_wr_item F_wr_item CTw LT F_checked_place b_checked_place g_checked_place G_checked_place
  have R_wr_item := (G_wr_item.raw b_wr_item .nil).imp fun vs H Q E h => by rw [List.append_nil]; exact h
  have G_wr_nexts : FnOk l.prog w K mg base (L2.CX l.prog w) 5 f61 _ ["self", "place"] (spAt K CW CL SN (RNext K)) := ok_wr_nexts F_wr_nexts CTw LT F_checked_place b_checked_place g_checked_place G_checked_place
  have R_wr_nexts := (G_wr_nexts.raw b_wr_nexts .nil).imp fun vs H Q E h => by rw [List.append_nil]; exact h
  have G_wr_holds : FnOk l.prog w K mg base (L2.CX l.prog w) 6 f62 _ ["self", "place"] (spAt K CW CL SN (RFlag 0)) := ok_wr_holds F_wr_holds CTw F_standing b_standing g_standing G_standing
  have R_wr_holds := (G_wr_holds.raw b_wr_holds .nil).imp fun vs H Q E h => by rw [List.append_nil]; exact h
  have G_wr_under : FnOk l.prog w K mg base (L2.CX l.prog w) 6 f63 _ ["self", "place"] (spAt K CW CL SN (RFlag 1)) := ok_wr_under F_wr_under CTw F_standing b_standing g_standing G_standing
  have R_wr_under := (G_wr_under.raw b_wr_under .nil).imp fun vs H Q E h => by rw [List.append_nil]; exact h
  have G_wr_locked : FnOk l.prog w K mg base (L2.CX l.prog w) 6 f64 _ ["self", "place"] (spAt K CW CL SN (RFlag 2)) := ok_wr_locked F_wr_locked CTw F_standing b_standing g_standing G_standing
  have R_wr_locked := (G_wr_locked.raw b_wr_locked .nil).imp fun vs H Q E h => by rw [List.append_nil]; exact h
  have G_wr_places : FnOk l.prog w K mg base CX0 2 f65 _ ["self", "word"] (spPlcR K CW CL) := ok_wr_places F_wr_places CTw F_places_of b_places_of g_places_of G_places_of
  have R_wr_places := (G_wr_places.raw b_wr_places .nil).imp fun vs H Q E h => by rw [List.append_nil]; exact h
  have G_hr_of : FnOk l.prog w K mg base (L2.CX l.prog w) 10 f44 _ ["items"] (spHrOf K CH CL) := ok_hr_of F_hr_of T CTh TSI b_ii_init G_ii_init MCH G_hr_init
  have R_hr_of := (G_hr_of.raw b_hr_of .nil).imp fun vs H Q E h => by rw [List.append_nil]; exact h
  have G_wr_of : FnOk l.prog w K mg base (L2.CX l.prog w) 10 f56 _ ["items"] (spWrOf K CW CL) := ok_wr_of F_wr_of T CTw TSI b_ii_init G_ii_init MCW G_wr_init
  have R_wr_of := (G_wr_of.raw b_wr_of .nil).imp fun vs H Q E h => by rw [List.append_nil]; exact h
  have M : ∀ k, RowM l.prog w K mg base (cOf CH CW k) CL SN := fun k => match k with
    | true => ⟨clCH, ⟨_, _, _, PP_hr_parts, b_hr_parts, G_hr_parts⟩, ⟨_, _, _, PP_hr_size, b_hr_size, G_hr_size⟩, ⟨_, a48, i48, R_hr_len⟩, ⟨_, ⟨a49, i49, k49⟩, R_hr_item⟩, ⟨_, ⟨a50, i50, k50⟩, R_hr_nexts⟩, ⟨_, ⟨a51, i51, k51⟩, R_hr_holds⟩, ⟨_, ⟨a52, i52, k52⟩, R_hr_under⟩, ⟨_, ⟨a53, i53, k53⟩, R_hr_locked⟩, ⟨_, ⟨a54, i54, k54⟩, R_hr_places⟩⟩
    | false => ⟨clCW, ⟨_, _, _, PP_wr_parts, b_wr_parts, G_wr_parts⟩, ⟨_, _, _, PP_wr_size, b_wr_size, G_wr_size⟩, ⟨_, a59, i59, R_wr_len⟩, ⟨_, ⟨a60, i60, k60⟩, R_wr_item⟩, ⟨_, ⟨a61, i61, k61⟩, R_wr_nexts⟩, ⟨_, ⟨a62, i62, k62⟩, R_wr_holds⟩, ⟨_, ⟨a63, i63, k63⟩, R_wr_under⟩, ⟨_, ⟨a64, i64, k64⟩, R_wr_locked⟩, ⟨_, ⟨a65, i65, k65⟩, R_wr_places⟩⟩
  have MH : Mkr l.prog w K mg base "HandRow" (cOf CH CW true) (spHrOf K (cOf CH CW true) CL) := ⟨PySem.W.mg_of X G aCH, ⟨_, _, _, RDCH, SM_hr_of, R_hr_of⟩⟩
  have MW : Mkr l.prog w K mg base "WorkRow" (cOf CH CW false) (spWrOf K (cOf CH CW false) CL) := ⟨PySem.W.mg_of X G aCW, ⟨_, _, _, RDCW, SM_wr_of, R_wr_of⟩⟩
  have G_l_numbers : FnOk l.prog w K mg base CX0 1 f25 _ ["_law_cell", "_law_salt", "_law_sizes"] ((spNum K)) := ok_num F_l_numbers T.m_max T.m_range T.m_len
  have G_l_pool : FnOk l.prog w K mg base CX0 2 f26 _ ["_law_cell", "_law_salt", "_law_many"] ((spPool K)) := ok_l_pool F_l_pool T.toBlt F_l_numbers b_l_numbers g_l_numbers G_l_numbers
  have G_l_draw : FnOk l.prog w K mg base CX0 1 f27 _ ["_law_pool_here", "_law_many"] ((spDraw K)) := ok_l_draw F_l_draw T.toBlt
  have G_l_pick : FnOk l.prog w K mg base CX0 2 f28 _ ["_law_pool_here", "_law_some"] ((spPick K)) := ok_l_pick F_l_pick T.toBlt F_l_draw b_l_draw g_l_draw G_l_draw
  have G_l_closing : FnOk l.prog w K mg base CX0 2 f29 _ ["_law_pool_here", "_law_under", "_law_locked", "_law_lets", "_law_leak"] ((spClosing K)) := ok_l_closing F_l_closing T.toBlt F_l_draw b_l_draw g_l_draw G_l_draw
  have G_l_way_out : FnOk l.prog w K mg base CX0 3 f30 _ ["_law_pool_here", "_law_under", "_law_locked", "_law_lets"] ((spWayOut K)) := ok_l_way_out F_l_way_out T.toBlt F_l_draw b_l_draw g_l_draw G_l_draw F_l_closing b_l_closing g_l_closing G_l_closing
  have G_l_body : FnOk l.prog w K mg base CX0 4 f31 _ ["_law_pool_here", "_law_names", "_law_room", "_law_lets"] ((spBody K)) := ok_l_body F_l_body T.toBlt F_l_draw b_l_draw g_l_draw G_l_draw F_l_pick b_l_pick g_l_pick G_l_pick F_l_way_out b_l_way_out g_l_way_out G_l_way_out F_l_closing b_l_closing g_l_closing G_l_closing
  have G_l_hand : FnOk l.prog w K mg base CX0 5 f32 _ ["_law_pool_here", "_law_names"] ((spHand K)) := ok_l_hand F_l_hand T.toBlt F_l_pick b_l_pick g_l_pick G_l_pick F_l_body b_l_body g_l_body G_l_body
  have G_l_work : FnOk l.prog w K mg base CX0 5 f33 _ ["_law_pool_here", "_law_names"] ((spWork K)) := ok_l_work F_l_work T.toBlt F_l_draw b_l_draw g_l_draw G_l_draw F_l_body b_l_body g_l_body G_l_body
  have G_l_flags : FnOk l.prog w K mg base CX0 1 f35 _ ["_law_flags_here", "_law_item"] ((spFlags K)) := ok_l_flags F_l_flags T
  have G_l_laid : FnOk l.prog w K mg base CX0 2 f34 _ ["_law_items"] ((spLaid2 K)) := ok_l_laid F_l_laid T F_l_flags b_l_flags g_l_flags G_l_flags
  have G_l_entry_right : FnOk l.prog w K mg base CX0 8 f36 _ ["_law_row", "_law_place", "_law_entry"] (spEntry K (cOf CH CW) CL) := ok_l_entry_right F_l_entry_right M
  have G_l_refused : FnG l.prog w K mg base CX0 8 f37 _ ["_law_row", "_law_value"] (spRefused K (cOf CH CW) CL) := ok_l_refused F_l_refused T M TSN
  have G_l_row_right : FnG l.prog w K mg base CX0 9 f38 _ ["_law_row", "_law_items"] (spRowR K (cOf CH CW) CL) := ok_l_row_right F_l_row_right T M F_l_laid b_l_laid g_l_laid G_l_laid F_l_entry_right b_l_entry_right g_l_entry_right G_l_entry_right F_l_refused b_l_refused g_l_refused G_l_refused
  exact ok_l_law (C := cOf CH CW) F_law T M MH MW ⟨_, _, _, PP_hr_opening, b_hr_opening, G_hr_opening⟩ F_l_pool b_l_pool g_l_pool G_l_pool F_l_hand b_l_hand g_l_hand G_l_hand F_l_work b_l_work g_l_work G_l_work F_l_row_right b_l_row_right g_l_row_right G_l_row_right
theorem walk {l : PySem.W.OpenLaw} {q : Program} {loose : List Str} {XP : (Str → Option Value) → Heap → Prop} {YP : World → Heap → Prop} {d : DefRec} {K : Params → PySem.W.Frag} (hn : l.most = some 63) (hdf : d.params.defaults = [])
    (hY : ∀ (w : World) (h : Heap), YP w h → (K w.params).In h)
    (F : ∀ (w : World) (mg : Str → Option Value) (fa : Addr) (h : Heap), (K w.params).In h → h.Ns mainGlobals mg → mg d.name = some (.ref fa) →
      ∃ fd : FuncData, (∀ (s : Shared) (u : Value), BindsTo s fd ⟨[u], []⟩ [("_law_script", u)]) ∧ ∀ base : Heap, (K w.params).In base → base.Ns mainGlobals mg → FnG l.prog w (K w.params) mg base CX0 12 fa fd ["_law_script"] (spLaw (K w.params))) :
    PySem.W.WalkO q loose XP YP l.row.toRowW d [] (fun f vs => PySem.call f vs) :=
  walk_G (n := 63) (k := 12) (x := "_law_script") (sp := fun w => spLaw (K w.params)) hn (by decide) hdf ⟨rfl, by decide, by decide⟩ hY F fun _ _ a ns hl hS _ => ⟨a, ns, rfl, hS, hl, fun _ => rfl⟩
end K04

open PySem PySem.W PyProof.Rows in
set_option maxRecDepth 100000 in
set_option maxHeartbeats 0 in
theorem PySem.Challenge.cw_pulledout_k04_whole_rows_of_hands_and_wo_holds : PySem.Challenge.rw_pulledout_k04_whole_rows_of_hands_and_wo.Holds := by
  w_on; o_law; k_head; (case hw => w_witness2)
  k_fill
  refine K04.walk (l := PySem.Challenge.rw_pulledout_k04_whole_rows_of_hands_and_wo) rfl rfl (fun w h Y => PySem.W.kIn_of Y) ?F
  case F =>
    intro w mg fa h KX G hmg
    refine' K04.all_mk KX G hmg ?y_lt0 ?y_lt1 ?y_lt2 ?y_lt4 ?z_max ?z_range ?z_len ?z_int ?z_bool ?z_isinstance ?z_str ?z_all ?z_any ?z_tuple ?z_list ?z_enumerate ?z_repr ?z_min ?z_dict ?y_t0 ?x_t0 ?v_t0 ?y_t1 ?x_t1 ?v_t1 ?y_t2 ?x_t2 ?v_t2 ?y_t3 ?x_t3 ?v_t3 ?y_t7 ?x_t7 ?v_t7 ?y_t8 ?x_t8 ?v_t8 ?y_tF ?x_tF ?v_tF ?y_tO ?x_tO ?v_tO ?x_o0 ?v_o0 ?x_o1 ?v_o1 ?x_o2 ?v_o2 ?x_o3 ?v_o3 ?x_o4 ?v_o4 ?x_o5 ?v_o5 ?y_dC ?x_dC ?q_dC ?u_dC ?lo_dC ?x_h0 ?v_h0 ?x_h1 ?v_h1 ?x_h2 ?v_h2 ?x_h3 ?v_h3 ?x_h4 ?v_h4 ?x_h5 ?v_h5 ?x_h6 ?v_h6 ?aSI ?xSI ?saSI ?exSI ?tySI ?kpSI ?noSI ?gaSI ?ggSI ?hdSI ?iiSI ?tiSI ?icSI ?ssSI ?aSN ?xSN ?saSN ?exSN ?tySN ?kpSN ?noSN ?gaSN ?ggSN ?hdSN ?iiSN ?tiSN ?icSN ?ssSN ?aCL ?pgCL ?hdCL ?poCL ?saCL ?nCLplaced ?nCLend ?nCLleads ?nCLstandings ?mkCL ?kpCL ?aCH ?pgCH ?hdCH ?poCH ?saCH ?nCH_parts ?nCHlayout ?nCH_opening ?mkCH ?kpCH ?rdCH ?gtCH ?b1sCHof ?b2sCHof ?b1pCHparts ?b2pCHparts ?b3pCHparts ?b4pCHparts ?b1pCHsize ?b2pCHsize ?b3pCHsize ?b4pCHsize ?b1pCHopening ?b2pCHopening ?b3pCHopening ?b4pCHopening ?aCW ?pgCW ?hdCW ?poCW ?saCW ?nCW_parts ?nCWlayout ?nCW_opening ?mkCW ?kpCW ?rdCW ?gtCW ?b1sCWof ?b2sCWof ?b1pCWparts ?b2pCWparts ?b3pCWparts ?b4pCWparts ?b1pCWsize ?b2pCWsize ?b3pCWsize ?b4pCWsize ?a1 ?l1 ?c1 ?k1 ?a2 ?l2 ?c2 ?k2 ?a3 ?l3 ?c3 ?k3 ?a4 ?l4 ?c4 ?k4 ?a5 ?l5 ?c5 ?k5 ?a6 ?l6 ?c6 ?k6 ?a7 ?l7 ?c7 ?k7 ?a8 ?l8 ?c8 ?k8 ?a9 ?l9 ?c9 ?k9 ?a10 ?l10 ?c10 ?k10 ?a11 ?l11 ?c11 ?k11 ?a12 ?l12 ?c12 ?k12 ?a13 ?l13 ?c13 ?k13 ?a14 ?l14 ?c14 ?k14 ?a15 ?l15 ?c15 ?k15 ?a16 ?l16 ?c16 ?k16 ?a17 ?l17 ?c17 ?k17 ?a18 ?l18 ?c18 ?k18 ?a19 ?l19 ?c19 ?k19 ?a20 ?l20 ?c20 ?k20 ?a21 ?l21 ?c21 ?k21 ?a22 ?l22 ?c22 ?k22 ?a23 ?l23 ?c23 ?k23 ?a24 ?l24 ?c24 ?k24 ?a25 ?l25 ?c25 ?k25 ?a26 ?l26 ?c26 ?k26 ?a27 ?l27 ?c27 ?k27 ?a28 ?l28 ?c28 ?k28 ?a29 ?l29 ?c29 ?k29 ?a30 ?l30 ?c30 ?k30 ?a31 ?l31 ?c31 ?k31 ?a32 ?l32 ?c32 ?k32 ?a33 ?l33 ?c33 ?k33 ?a34 ?l34 ?c34 ?k34 ?a35 ?l35 ?c35 ?k35 ?a36 ?l36 ?c36 ?k36 ?a37 ?l37 ?c37 ?k37 ?a38 ?l38 ?c38 ?k38 ?a39 ?l39 ?c39 ?k39 ?l40 ?c40 ?k40 ?l41 ?c41 ?k41 ?a42 ?i42 ?fn42 ?l42 ?c42 ?k42 ?a43 ?i43 ?fn43 ?l43 ?c43 ?k43 ?l44 ?c44 ?k44 ?l45 ?c45 ?k45 ?l46 ?c46 ?k46 ?l47 ?c47 ?k47 ?a48 ?i48 ?fn48 ?l48 ?c48 ?k48 ?a49 ?i49 ?fn49 ?l49 ?c49 ?k49 ?a50 ?i50 ?fn50 ?l50 ?c50 ?k50 ?a51 ?i51 ?fn51 ?l51 ?c51 ?k51 ?a52 ?i52 ?fn52 ?l52 ?c52 ?k52 ?a53 ?i53 ?fn53 ?l53 ?c53 ?k53 ?a54 ?i54 ?fn54 ?l54 ?c54 ?k54 ?a55 ?i55 ?fn55 ?l55 ?c55 ?k55 ?l56 ?c56 ?k56 ?l57 ?c57 ?k57 ?l58 ?c58 ?k58 ?a59 ?i59 ?fn59 ?l59 ?c59 ?k59 ?a60 ?i60 ?fn60 ?l60 ?c60 ?k60 ?a61 ?i61 ?fn61 ?l61 ?c61 ?k61 ?a62 ?i62 ?fn62 ?l62 ?c62 ?k62 ?a63 ?i63 ?fn63 ?l63 ?c63 ?k63 ?a64 ?i64 ?fn64 ?l64 ?c64 ?k64 ?a65 ?i65 ?fn65 ?l65 ?c65 ?k65
    (case y_lt0 => k_is)
    (case y_lt1 => k_is)
    (case y_lt2 => k_is)
    (case y_lt4 => k_is)
    (case z_max => k_is)
    (case z_range => k_is)
    (case z_len => k_is)
    (case z_int => k_is)
    (case z_bool => k_is)
    (case z_isinstance => k_is)
    (case z_str => k_is)
    (case z_all => k_is)
    (case z_any => k_is)
    (case z_tuple => k_is)
    (case z_list => k_is)
    (case z_enumerate => k_is)
    (case z_repr => k_is)
    (case z_min => k_is)
    (case z_dict => k_is)
    (case y_t0 => k_is)
    (case x_t0 => k_is)
    (case v_t0 => rfl)
    (case y_t1 => k_is)
    (case x_t1 => k_is)
    (case v_t1 => rfl)
    (case y_t2 => k_is)
    (case x_t2 => k_is)
    (case v_t2 => rfl)
    (case y_t3 => k_is)
    (case x_t3 => k_is)
    (case v_t3 => rfl)
    (case y_t7 => k_is)
    (case x_t7 => k_is)
    (case v_t7 => rfl)
    (case y_t8 => k_is)
    (case x_t8 => k_is)
    (case v_t8 => rfl)
    (case y_tF => k_is)
    (case x_tF => k_is)
    (case v_tF => rfl)
    (case y_tO => k_is)
    (case x_tO => k_is)
    (case v_tO => rfl)
    (case x_o0 => k_is)
    (case v_o0 => rfl)
    (case x_o1 => k_is)
    (case v_o1 => rfl)
    (case x_o2 => k_is)
    (case v_o2 => rfl)
    (case x_o3 => k_is)
    (case v_o3 => rfl)
    (case x_o4 => k_is)
    (case v_o4 => rfl)
    (case x_o5 => k_is)
    (case v_o5 => rfl)
    (case y_dC => k_is)
    (case x_dC => k_is)
    (case q_dC => rfl)
    (case u_dC => rfl)
    (case lo_dC => rfl)
    (case x_h0 => k_is)
    (case v_h0 => rfl)
    (case x_h1 => k_is)
    (case v_h1 => rfl)
    (case x_h2 => k_is)
    (case v_h2 => rfl)
    (case x_h3 => k_is)
    (case v_h3 => rfl)
    (case x_h4 => k_is)
    (case v_h4 => rfl)
    (case x_h5 => k_is)
    (case v_h5 => rfl)
    (case x_h6 => k_is)
    (case v_h6 => rfl)
    (case aSI => k_is)
    (case xSI => k_is)
    (case saSI => k_is)
    (case exSI => k_is)
    (case tySI => k_is)
    (case kpSI => k_is)
    (case noSI => k_is)
    (case gaSI => k_is)
    (case ggSI => k_is)
    (case hdSI => k_is)
    (case iiSI => k_is)
    (case tiSI => k_is)
    (case icSI => k_is)
    (case ssSI => first | rfl | k_is)
    (case aSN => k_is)
    (case xSN => k_is)
    (case saSN => k_is)
    (case exSN => k_is)
    (case tySN => k_is)
    (case kpSN => k_is)
    (case noSN => k_is)
    (case gaSN => k_is)
    (case ggSN => k_is)
    (case hdSN => k_is)
    (case iiSN => k_is)
    (case tiSN => k_is)
    (case icSN => k_is)
    (case ssSN => first | rfl | k_is)
    (case aCL => k_is)
    (case pgCL => k_is)
    (case hdCL => k_is)
    (case poCL => k_is)
    (case saCL => k_is)
    (case nCLplaced => k_is)
    (case nCLend => k_is)
    (case nCLleads => k_is)
    (case nCLstandings => k_is)
    (case mkCL => k_is)
    (case kpCL => k_is)
    (case aCH => k_is)
    (case pgCH => k_is)
    (case hdCH => k_is)
    (case poCH => k_is)
    (case saCH => k_is)
    (case nCH_parts => k_is)
    (case nCHlayout => k_is)
    (case nCH_opening => k_is)
    (case mkCH => k_is)
    (case kpCH => k_is)
    (case rdCH => k_is)
    (case gtCH => k_is)
    (case b1sCHof => k_is)
    (case b2sCHof => k_is)
    (case b1pCHparts => k_is)
    (case b2pCHparts => k_is)
    (case b3pCHparts => k_is)
    (case b4pCHparts => k_is)
    (case b1pCHsize => k_is)
    (case b2pCHsize => k_is)
    (case b3pCHsize => k_is)
    (case b4pCHsize => k_is)
    (case b1pCHopening => k_is)
    (case b2pCHopening => k_is)
    (case b3pCHopening => k_is)
    (case b4pCHopening => k_is)
    (case aCW => k_is)
    (case pgCW => k_is)
    (case hdCW => k_is)
    (case poCW => k_is)
    (case saCW => k_is)
    (case nCW_parts => k_is)
    (case nCWlayout => k_is)
    (case nCW_opening => k_is)
    (case mkCW => k_is)
    (case kpCW => k_is)
    (case rdCW => k_is)
    (case gtCW => k_is)
    (case b1sCWof => k_is)
    (case b2sCWof => k_is)
    (case b1pCWparts => k_is)
    (case b2pCWparts => k_is)
    (case b3pCWparts => k_is)
    (case b4pCWparts => k_is)
    (case b1pCWsize => k_is)
    (case b2pCWsize => k_is)
    (case b3pCWsize => k_is)
    (case b4pCWsize => k_is)
    (case a1 => k_is)
    (case l1 => k_is)
    (case c1 => k_is)
    (case k1 => k_is)
    (case a2 => k_is)
    (case l2 => k_is)
    (case c2 => k_is)
    (case k2 => k_is)
    (case a3 => k_is)
    (case l3 => k_is)
    (case c3 => k_is)
    (case k3 => k_is)
    (case a4 => k_is)
    (case l4 => k_is)
    (case c4 => k_is)
    (case k4 => k_is)
    (case a5 => k_is)
    (case l5 => k_is)
    (case c5 => k_is)
    (case k5 => k_is)
    (case a6 => k_is)
    (case l6 => k_is)
    (case c6 => k_is)
    (case k6 => k_is)
    (case a7 => k_is)
    (case l7 => k_is)
    (case c7 => k_is)
    (case k7 => k_is)
    (case a8 => k_is)
    (case l8 => k_is)
    (case c8 => k_is)
    (case k8 => k_is)
    (case a9 => k_is)
    (case l9 => k_is)
    (case c9 => k_is)
    (case k9 => k_is)
    (case a10 => k_is)
    (case l10 => k_is)
    (case c10 => k_is)
    (case k10 => k_is)
    (case a11 => k_is)
    (case l11 => k_is)
    (case c11 => k_is)
    (case k11 => k_is)
    (case a12 => k_is)
    (case l12 => k_is)
    (case c12 => k_is)
    (case k12 => k_is)
    (case a13 => k_is)
    (case l13 => k_is)
    (case c13 => k_is)
    (case k13 => k_is)
    (case a14 => k_is)
    (case l14 => k_is)
    (case c14 => k_is)
    (case k14 => k_is)
    (case a15 => k_is)
    (case l15 => k_is)
    (case c15 => k_is)
    (case k15 => k_is)
    (case a16 => k_is)
    (case l16 => k_is)
    (case c16 => k_is)
    (case k16 => k_is)
    (case a17 => k_is)
    (case l17 => k_is)
    (case c17 => k_is)
    (case k17 => k_is)
    (case a18 => k_is)
    (case l18 => k_is)
    (case c18 => k_is)
    (case k18 => k_is)
    (case a19 => k_is)
    (case l19 => k_is)
    (case c19 => k_is)
    (case k19 => k_is)
    (case a20 => k_is)
    (case l20 => k_is)
    (case c20 => k_is)
    (case k20 => k_is)
    (case a21 => k_is)
    (case l21 => k_is)
    (case c21 => k_is)
    (case k21 => k_is)
    (case a22 => k_is)
    (case l22 => k_is)
    (case c22 => k_is)
    (case k22 => k_is)
    (case a23 => k_is)
    (case l23 => k_is)
    (case c23 => k_is)
    (case k23 => k_is)
    (case a24 => k_is)
    (case l24 => k_is)
    (case c24 => k_is)
    (case k24 => k_is)
    (case a25 => k_is)
    (case l25 => k_is)
    (case c25 => k_is)
    (case k25 => k_is)
    (case a26 => k_is)
    (case l26 => k_is)
    (case c26 => k_is)
    (case k26 => k_is)
    (case a27 => k_is)
    (case l27 => k_is)
    (case c27 => k_is)
    (case k27 => k_is)
    (case a28 => k_is)
    (case l28 => k_is)
    (case c28 => k_is)
    (case k28 => k_is)
    (case a29 => k_is)
    (case l29 => k_is)
    (case c29 => k_is)
    (case k29 => k_is)
    (case a30 => k_is)
    (case l30 => k_is)
    (case c30 => k_is)
    (case k30 => k_is)
    (case a31 => k_is)
    (case l31 => k_is)
    (case c31 => k_is)
    (case k31 => k_is)
    (case a32 => k_is)
    (case l32 => k_is)
    (case c32 => k_is)
    (case k32 => k_is)
    (case a33 => k_is)
    (case l33 => k_is)
    (case c33 => k_is)
    (case k33 => k_is)
    (case a34 => k_is)
    (case l34 => k_is)
    (case c34 => k_is)
    (case k34 => k_is)
    (case a35 => k_is)
    (case l35 => k_is)
    (case c35 => k_is)
    (case k35 => k_is)
    (case a36 => k_is)
    (case l36 => k_is)
    (case c36 => k_is)
    (case k36 => k_is)
    (case a37 => k_is)
    (case l37 => k_is)
    (case c37 => k_is)
    (case k37 => k_is)
    (case a38 => k_is)
    (case l38 => k_is)
    (case c38 => k_is)
    (case k38 => k_is)
    (case a39 => k_is)
    (case l39 => k_is)
    (case c39 => k_is)
    (case k39 => k_is)
    (case l40 => k_is)
    (case c40 => k_is)
    (case k40 => k_is)
    (case l41 => k_is)
    (case c41 => k_is)
    (case k41 => k_is)
    (case a42 => k_is)
    (case i42 => k_is)
    (case fn42 => k_is)
    (case l42 => k_is)
    (case c42 => k_is)
    (case k42 => k_is)
    (case a43 => k_is)
    (case i43 => k_is)
    (case fn43 => k_is)
    (case l43 => k_is)
    (case c43 => k_is)
    (case k43 => k_is)
    (case l44 => k_is)
    (case c44 => k_is)
    (case k44 => k_is)
    (case l45 => k_is)
    (case c45 => k_is)
    (case k45 => k_is)
    (case l46 => k_is)
    (case c46 => k_is)
    (case k46 => k_is)
    (case l47 => k_is)
    (case c47 => k_is)
    (case k47 => k_is)
    (case a48 => k_is)
    (case i48 => k_is)
    (case fn48 => k_is)
    (case l48 => k_is)
    (case c48 => k_is)
    (case k48 => k_is)
    (case a49 => k_is)
    (case i49 => k_is)
    (case fn49 => k_is)
    (case l49 => k_is)
    (case c49 => k_is)
    (case k49 => k_is)
    (case a50 => k_is)
    (case i50 => k_is)
    (case fn50 => k_is)
    (case l50 => k_is)
    (case c50 => k_is)
    (case k50 => k_is)
    (case a51 => k_is)
    (case i51 => k_is)
    (case fn51 => k_is)
    (case l51 => k_is)
    (case c51 => k_is)
    (case k51 => k_is)
    (case a52 => k_is)
    (case i52 => k_is)
    (case fn52 => k_is)
    (case l52 => k_is)
    (case c52 => k_is)
    (case k52 => k_is)
    (case a53 => k_is)
    (case i53 => k_is)
    (case fn53 => k_is)
    (case l53 => k_is)
    (case c53 => k_is)
    (case k53 => k_is)
    (case a54 => k_is)
    (case i54 => k_is)
    (case fn54 => k_is)
    (case l54 => k_is)
    (case c54 => k_is)
    (case k54 => k_is)
    (case a55 => k_is)
    (case i55 => k_is)
    (case fn55 => k_is)
    (case l55 => k_is)
    (case c55 => k_is)
    (case k55 => k_is)
    (case l56 => k_is)
    (case c56 => k_is)
    (case k56 => k_is)
    (case l57 => k_is)
    (case c57 => k_is)
    (case k57 => k_is)
    (case l58 => k_is)
    (case c58 => k_is)
    (case k58 => k_is)
    (case a59 => k_is)
    (case i59 => k_is)
    (case fn59 => k_is)
    (case l59 => k_is)
    (case c59 => k_is)
    (case k59 => k_is)
    (case a60 => k_is)
    (case i60 => k_is)
    (case fn60 => k_is)
    (case l60 => k_is)
    (case c60 => k_is)
    (case k60 => k_is)
    (case a61 => k_is)
    (case i61 => k_is)
    (case fn61 => k_is)
    (case l61 => k_is)
    (case c61 => k_is)
    (case k61 => k_is)
    (case a62 => k_is)
    (case i62 => k_is)
    (case fn62 => k_is)
    (case l62 => k_is)
    (case c62 => k_is)
    (case k62 => k_is)
    (case a63 => k_is)
    (case i63 => k_is)
    (case fn63 => k_is)
    (case l63 => k_is)
    (case c63 => k_is)
    (case k63 => k_is)
    (case a64 => k_is)
    (case i64 => k_is)
    (case fn64 => k_is)
    (case l64 => k_is)
    (case c64 => k_is)
    (case k64 => k_is)
    (case a65 => k_is)
    (case i65 => k_is)
    (case fn65 => k_is)
    (case l65 => k_is)
    (case c65 => k_is)
    (case k65 => k_is)

