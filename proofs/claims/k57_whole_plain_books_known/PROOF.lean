import PyProof.Rows.All
import Wide.All
import OpenK.AllK
import Wide.FinOn
import HandS.Base
import HandS.Call
import HandS.List
import HandS.Comp
import HandS.Ends
import HandS.Dict
import HandS.Iter
import HandS.Text
import HandS.Words
import HandS.IsInst
import HandS.Style
import HandS.Walk
import HandS.TupAny
import HandS.More
import HandS.Exc
import HandS.ExcOwn
import HandS.ExcInit
import HandS.ExcField
import HandS.WordsExc
import HandS.Slots
import HandS.Star
import HandS.ClsMeth
import HandS.Property
import HandS.Deep
import HandS.Strs
import HandS.RaiseMore
import HandS.CallSlots
import KE.GoesMore
import PyProof.InstNe
import KE.KExcInit
import KE.KExcIs
import HandS.ExcIs
import KE.KIndexOf
import HandS.Codes
import HandS.SetFor
import HandS.NoneIn
import HandS.HeadHook3
import PySem.Challenge.RW_pulledout_k57_whole_plain_books_known
set_option Elab.async false
set_option linter.all false
set_option maxRecDepth 100000
set_option maxHeartbeats 4000000
/-! What holds of no program alone: heaps, data at a value, a pool that is drawn from. -/
namespace GG
open PySem PySem.Spec PyProof.Rows L2 TL
theorem same_upd {H : Hp} {p : Addr} {o : HO} (h : H p = none) : Same H (upd H p o) := fun b x e => by
  rw [upd_ne (ne_of_none e h)]
  exact e
/-- behind a store into a new object all that stood before stands -/
theorem same_st {H H1 : Hp} {p : Addr} {o : HO} (s : Same H H1) (h : H p = none) : Same H (upd H1 p o) := fun b x e => by
  rw [upd_ne (ne_of_none e h)]
  exact s b x e
/-- each number lies below its size -/
def Below (zs ns : List Int) : Prop := ∀ (i : Nat) (z n : Int), zs[i]? = some z → ns[i]? = some n → 0 ≤ n ∧ n < z
theorem below_snoc {zs ns : List Int} {z n : Int} (h : Below zs ns) (hz : zs[ns.length]? = some z) (h0 : 0 ≤ n) (h1 : n < z) : Below zs (ns ++ [n]) := by
  intro i y m hy hm
  by_cases hi : i < ns.length
  · rw [List.getElem?_append_left hi] at hm
    exact h i y m hy hm
  · rw [List.getElem?_append_right (by omega)] at hm
    have e : i - ns.length = 0 := by
      have q := (List.getElem?_eq_some_iff.mp hm).1
      simp at q
      omega
    have ei : i = ns.length := by omega
    subst ei
    rw [e] at hm
    have em : n = m := Option.some.inj hm
    have ey : z = y := Option.some.inj (hz.symm.trans hy)
    subst em ey
    exact ⟨h0, h1⟩
theorem small_mod (x : Int) : (x % 2147483629).natAbs < 2 ^ 64 := by
  have h1 := Int.emod_nonneg x (show (2147483629 : Int) ≠ 0 by decide)
  have h2 := Int.emod_lt_of_pos x (show (0 : Int) < 2147483629 by decide)
  omega
/-! ### data -/
def tyName : PyData → String
  | .none => "NoneType"
  | .bool _ => "bool"
  | .int _ => "int"
  | .str _ => "str"
  | .list _ => "list"
  | .tuple _ => "tuple"
  | .dict _ => "dict"
def isTup : PyData → Bool
  | .tuple _ => true
  | _ => false
def isStr : PyData → Bool
  | .str _ => true
  | _ => false
theorem isi_tup {K : PySem.W.Frag} (d : PyData) : PySem.W.kitOne K (.type (tyName d)) (.type "tuple") = some (isTup d) := by
  cases d
  · exact kit_ty (show kitB "NoneType" "tuple" = some false by decide +kernel)
  · exact kit_ty (show kitB "bool" "tuple" = some false by decide +kernel)
  · exact kit_ty (show kitB "int" "tuple" = some false by decide +kernel)
  · exact kit_ty (show kitB "str" "tuple" = some false by decide +kernel)
  · exact kit_ty (show kitB "list" "tuple" = some false by decide +kernel)
  · exact kit_ty (show kitB "tuple" "tuple" = some true by decide +kernel)
  · exact kit_ty (show kitB "dict" "tuple" = some false by decide +kernel)
theorem isi_str {K : PySem.W.Frag} (d : PyData) : PySem.W.kitOne K (.type (tyName d)) (.type "str") = some (isStr d) := by
  cases d
  · exact kit_ty (show kitB "NoneType" "str" = some false by decide +kernel)
  · exact kit_ty (show kitB "bool" "str" = some false by decide +kernel)
  · exact kit_ty (show kitB "int" "str" = some false by decide +kernel)
  · exact kit_ty (show kitB "str" "str" = some true by decide +kernel)
  · exact kit_ty (show kitB "list" "str" = some false by decide +kernel)
  · exact kit_ty (show kitB "tuple" "str" = some false by decide +kernel)
  · exact kit_ty (show kitB "dict" "str" = some false by decide +kernel)
theorem Rd.same {H H' : Hp} {a : Addr} {o : HO} (s : Same H H') (h : Rd H a o) : Rd H' a o := by
  rcases h with h | ⟨u, h⟩
  · exact .inl (s _ _ h)
  · exact .inr ⟨u, s _ _ h⟩
theorem Same.seqT {K : PySem.W.Frag} {H H' : Hp} {a : Addr} {xs : List V} (e : Same H H') (h : SqT K H a xs) : SqT K H' a xs := by
  rcases h with h | h
  · exact .inl (Rd.same e h)
  · exact .inr h
mutual
theorem dp_same {K : PySem.W.Frag} {H H' : Hp} (e : Same H H') : ∀ (d : PyData) (v : V), Dp K H v d → Dp K H' v d
  | .none, _, h => by cases h; exact .non
  | .bool b, _, h => by cases h; exact .bl b
  | .int i, _, h => by cases h; exact .int i
  | .str x, _, h => by cases h; exact .str x
  | .list ds, _, h => by
    cases h with
    | lst hs ha => exact .lst (Same.seq e hs) (dpAll_same e ds _ ha)
  | .tuple ds, _, h => by
    cases h with
    | tup hs ha => exact .tup (Same.seqT e hs) (dpAll_same e ds _ ha)
  | .dict _, _, h => by cases h
theorem dpAll_same {K : PySem.W.Frag} {H H' : Hp} (e : Same H H') : ∀ (ds : List PyData) (vs : List V), DpAll K H vs ds → DpAll K H' vs ds
  | [], _, h => by cases h; exact .nil
  | d :: ds, _, h => by
    cases h with
    | cons h1 h2 => exact .cons (dp_same e d _ h1) (dpAll_same e ds _ h2)
end
theorem dpAll_len {K : PySem.W.Frag} {H : Hp} : ∀ {vs : List V} {ds : List PyData}, DpAll K H vs ds → vs.length = ds.length
  | _, _, .nil => rfl
  | _, _, .cons _ h => by rw [List.length_cons, List.length_cons, dpAll_len h]
theorem dpAll_get {K : PySem.W.Frag} {H : Hp} : ∀ {vs : List V} {ds : List PyData} {i : Nat} {v : V}, DpAll K H vs ds → vs[i]? = some v → ∃ d, ds[i]? = some d ∧ Dp K H v d
  | _, _, 0, _, .cons (d := d) h _, e => by
    have e : _ = _ := Option.some.inj e
    subst e
    exact ⟨d, rfl, h⟩
  | _, _, i + 1, _, .cons _ h, e => dpAll_get (i := i) h e
theorem dp_ty {K : PySem.W.Frag} {H : Hp} {v : V} {d : PyData} (h : Dp K H v d) : TyX K H v (.type (tyName d)) := by
  cases h with
  | non => exact .base .non
  | bl b => exact .base (.bl b)
  | int i => exact .base (.int i)
  | str x => exact .base (.str x)
  | lst hs _ =>
    rcases hs with (h | ⟨o, h⟩) | ⟨o, its, n, h1, h2, _⟩
    · exact .base (.lst h)
    · exact .base (.frz h)
    · exact .kList h1 h2
  | tup hs _ =>
    rcases hs with (h | ⟨o, h⟩) | ⟨o, its, n, h1, h2, _⟩
    · exact .base (.tup h)
    · exact .fTuple h
    · exact .kTuple h1 h2
mutual
/-- sane texts, nothing long -/
def okD : PyData → Bool
  | .str z => decide (z.length ≤ 1000) && z.cps.all (· < 0x110000)
  | .list ds | .tuple ds => decide (ds.length ≤ 1000) && okAll ds
  | .dict _ => false
  | _ => true
def okAll : List PyData → Bool
  | [] => true
  | d :: ds => okD d && okAll ds
end
mutual
theorem can_ok : ∀ d : PyData, okD d = true → PyData.canLay0 d = true
  | .none, _ => rfl
  | .bool _, _ => rfl
  | .int _, _ => rfl
  | .str z, h => (Bool.and_eq_true_iff.mp h).2
  | .list ds, h => canAll_ok ds (Bool.and_eq_true_iff.mp h).2
  | .tuple ds, h => canAll_ok ds (Bool.and_eq_true_iff.mp h).2
theorem canAll_ok : ∀ ds : List PyData, okAll ds = true → PyData.canLayAll0 ds = true
  | [], _ => rfl
  | d :: ds, h => by
    have h := Bool.and_eq_true_iff.mp h
    show (PyData.canLay0 d && PyData.canLayAll0 ds) = true
    rw [can_ok d h.1, canAll_ok ds h.2]
    rfl
end
theorem okAll_iff {ds : List PyData} : okAll ds = true ↔ ∀ d ∈ ds, okD d = true := by
  induction ds with
  | nil => simp [okAll]
  | cons d r ih => simp [okAll, ih]
theorem depthAll_le {ds : List PyData} {n : Nat} : PyData.depthAll ds ≤ n ↔ ∀ d ∈ ds, PyData.depth d ≤ n := by
  induction ds with
  | nil => simp [PyData.depthAll]
  | cons d r ih => simp [PyData.depthAll, ih, Nat.max_le]
def Good (n : Nat) (d : PyData) : Prop := okD d = true ∧ PyData.depth d ≤ n
theorem Good.lay {n : Nat} {d : PyData} (h : Good n d) (hn : n ≤ 64) : SeqAt.shaped d = true := by
  unfold SeqAt.shaped
  rw [Bool.and_eq_true, decide_eq_true_eq]
  exact ⟨can_ok d h.1, Nat.le_trans h.2 hn⟩
theorem Good.tup {n : Nat} {ds : List PyData} : Good (n + 1) (.tuple ds) ↔ ds.length ≤ 1000 ∧ ∀ d ∈ ds, Good n d := by
  unfold Good
  show (decide (ds.length ≤ 1000) && okAll ds) = true ∧ PyData.depthAll ds + 1 ≤ n + 1 ↔ _
  rw [Bool.and_eq_true, decide_eq_true_eq, okAll_iff, Nat.add_le_add_iff_right, depthAll_le]
  exact ⟨fun h => ⟨h.1.1, fun d hd => ⟨h.1.2 d hd, h.2 d hd⟩⟩, fun h => ⟨⟨h.1, fun d hd => (h.2 d hd).1⟩, fun d hd => (h.2 d hd).2⟩⟩
theorem Good.lst {n : Nat} {ds : List PyData} : Good (n + 1) (.list ds) ↔ ds.length ≤ 1000 ∧ ∀ d ∈ ds, Good n d := Good.tup
theorem Good.mono {n m : Nat} {d : PyData} (h : Good n d) (k : n ≤ m) : Good m d := ⟨h.1, Nat.le_trans h.2 k⟩
/-- a value that stands for the data d; or any dict -/
def Val (K : PySem.W.Frag) (H : Hp) (x : V) (d : PyData) : Prop := (Dp K H x d ∧ Good 60 d) ∨ (d = .dict [] ∧ ∃ (a : Addr) (kvs : List (Key × V)), x = .ref a ∧ H a = some (.dK kvs))
theorem Val.ty {K : PySem.W.Frag} {H : Hp} {x : V} {d : PyData} (h : Val K H x d) : TyX K H x (.type (tyName d)) := by
  rcases h with h | ⟨rfl, a, kvs, rfl, h⟩
  · exact dp_ty h.1
  · exact .base (.dK h)
theorem Val.str {K : PySem.W.Frag} {H : Hp} {x : V} {z : Str} (h : Val K H x (.str z)) : x = .str z ∧ z.length ≤ 1000 ∧ (∀ c ∈ z.cps.toList, c < 1114112) := by
  rcases h with ⟨h, g⟩ | ⟨h, _⟩
  · cases h
    obtain ⟨h1, h2⟩ := Bool.and_eq_true_iff.mp g.1
    refine ⟨rfl, of_decide_eq_true h1, fun c hc => ?_⟩
    rw [← Array.all_toList, List.all_eq_true] at h2
    exact of_decide_eq_true (h2 c hc)
  · cases h
theorem Val.tup {K : PySem.W.Frag} {H : Hp} {x : V} {ds : List PyData} (h : Val K H x (.tuple ds)) : ∃ (a : Addr) (xs : List V), x = .ref a ∧ SqT K H a xs ∧ DpAll K H xs ds ∧ xs.length = ds.length ∧ ds.length ≤ 1000 ∧ ∀ (i : Nat) (d : PyData), ds[i]? = some d → ∃ v, xs[i]? = some v ∧ Val K H v d := by
  rcases h with ⟨h, g⟩ | ⟨h, _⟩
  · cases h with
    | @tup a xs _ hs ha =>
      obtain ⟨g1, g2⟩ := (Good.tup (n := 59)).mp g
      have hl := dpAll_len ha
      refine ⟨_, _, rfl, hs, ha, hl, g1, fun i d hd => ?_⟩
      have hi : i < ds.length := (List.getElem?_eq_some_iff.mp hd).1
      have hi2 : i < xs.length := by omega
      obtain ⟨d', hd', hp⟩ := dpAll_get ha (List.getElem?_eq_getElem hi2)
      have e : d' = d := Option.some.inj (hd'.symm.trans hd)
      subst e
      exact ⟨_, List.getElem?_eq_getElem hi2, .inl ⟨hp, (g2 d' (List.mem_of_getElem? hd)).mono (by decide)⟩⟩
  · cases h
theorem Val.same {K : PySem.W.Frag} {H H' : Hp} {x : V} {d : PyData} (h : Val K H x d) (s : Same H H') : Val K H' x d := by
  rcases h with ⟨h, g⟩ | ⟨rfl, a, kvs, rfl, h⟩
  · exact .inl ⟨dp_same s d x h, g⟩
  · exact .inr ⟨rfl, a, kvs, rfl, s _ _ h⟩
theorem inV_words {z : Str} : ∀ ws : List Str, inV (.str z) (ws.map V.str) = ws.any (· == z) := fun ws => by
  unfold inV
  rw [List.any_map]
  rfl
theorem flat_words : ∀ ws : List Str, (ws.map V.str).all flatV = true := fun ws => by
  rw [List.all_map, List.all_eq_true]
  intro x _
  rfl
theorem yes_then {A B : Hp → Prop} {σ : L2.St} {H : Hp} (h : A H) : tYes σ H (fun b H3 => if b = true then A H3 else B H3) := by
  show (if true = true then A H else B H)
  rw [if_pos rfl]
  exact h
def letB (c : Nat) : Bool := !decide ([c] < [97]) && !decide ([122] < [c])
/-! ### the mathematics of the texts -/
/-- the 26 letters, as the law writes them -/
abbrev abcS : Str := "abcdefghijklmnopqrstuvwxyz"
theorem abc_list : abcS.cps.toList = (List.range 26).map (97 + ·) := by decide +kernel
theorem abc_mem (c : Nat) : c ∈ abcS.cps.toList ↔ 97 ≤ c ∧ c ≤ 122 := by
  rw [abc_list]
  simp only [List.mem_map, List.mem_range]
  constructor
  · rintro ⟨a, h, rfl⟩
    omega
  · intro h
    exact ⟨c - 97, by omega, by omega⟩
theorem one_lt (a b : Nat) : ([a] < [b]) ↔ a < b := by
  simp [List.cons_lt_cons_iff]
theorem letB_abc (c : Nat) : letB c = decide (c ∈ abcS.cps.toList) := by
  unfold letB
  rw [Bool.eq_iff_iff]
  simp only [Bool.and_eq_true, Bool.not_eq_true', decide_eq_false_iff_not, decide_eq_true_eq, one_lt, abc_mem]
  omega
/-- a text of Python's own signs -/
def Sane (z : Str) : Prop := ∀ c ∈ z.cps.toList, c < 1114112
theorem sane_odds {z : Str} (h : Sane z) : ∀ y ∈ (z.cps.toList.filter fun c => !decide (c ∈ abcS.cps.toList)).map (fun c => (⟨#[c]⟩ : Str)), Sane y := by
  intro y hy c hc
  obtain ⟨d, hd, rfl⟩ := List.mem_map.mp hy
  have e : c = d := by simpa using hc
  rw [e]
  exact h d ((List.mem_filter.mp hd).1)
def oddC (c : Nat) : Bool := !decide (c ∈ abcS.cps.toList)
def odds (cs : List Nat) : List Str := (cs.filter oddC).map fun c => ⟨#[c]⟩
theorem odds_snoc {cs : List Nat} {i c : Nat} (hc : cs[i]? = some c) : odds (cs.take (i + 1)) = odds (cs.take i) ++ (if oddC c = true then [⟨#[c]⟩] else []) := by
  unfold odds
  rw [List.take_add_one, hc, List.filter_append, List.map_append]
  congr 1
  show List.map _ (List.filter oddC [c]) = _
  cases h : oddC c <;> simp [h]
theorem odds_len (cs : List Nat) : (odds cs).length ≤ cs.length := by
  unfold odds
  rw [List.length_map]
  exact List.length_filter_le ..
theorem odds_nil (cs : List Nat) : (odds cs).isEmpty = cs.all letB := by
  unfold odds
  rw [List.isEmpty_map]
  induction cs with
  | nil => rfl
  | cons c r ih =>
    rw [List.filter_cons, List.all_cons, letB_abc, ← ih]
    unfold oddC
    cases decide (c ∈ abcS.cps.toList) <;> rfl
theorem dp_strs {K : PySem.W.Frag} {H : Hp} : ∀ ys : List Str, DpAll K H (ys.map V.str) (ys.map PyData.str)
  | [] => .nil
  | y :: r => .cons (.str y) (dp_strs r)
theorem strs_can : ∀ ys : List Str, (∀ y ∈ ys, Sane y) → PyData.canLayAll0 (ys.map PyData.str) = true ∧ PyData.depthAll (ys.map PyData.str) ≤ 1
  | [], _ => ⟨rfl, by decide⟩
  | y :: r, h => by
    obtain ⟨h1, h2⟩ := strs_can r fun z hz => h z (List.mem_cons_of_mem _ hz)
    refine ⟨?_, ?_⟩
    · show (PyData.canLay0 (PyData.str y) && PyData.canLayAll0 (r.map PyData.str)) = true
      rw [h1, Bool.and_true]
      show y.cps.all (· < 0x110000) = true
      rw [← Array.all_toList, List.all_eq_true]
      intro c hc
      exact decide_eq_true (h y (List.mem_cons_self ..) c hc)
    · show max (PyData.depth (PyData.str y)) (PyData.depthAll (r.map PyData.str)) ≤ 1
      exact Nat.max_le.mpr ⟨by simp [PyData.depth], h2⟩
theorem strs_lay (ys : List Str) (h : ∀ y ∈ ys, Sane y) : SeqAt.shaped (PyData.list (ys.map PyData.str)) = true := by
  obtain ⟨h1, h2⟩ := strs_can ys h
  unfold SeqAt.shaped
  rw [Bool.and_eq_true, decide_eq_true_eq]
  refine ⟨h1, ?_⟩
  show PyData.depthAll (ys.map PyData.str) + 1 ≤ 64
  omega
theorem strs_eqv (ys : List Str) : PyData.eqv (PyData.list (ys.map PyData.str)) (PyData.list []) = ys.isEmpty := by
  cases ys with
  | nil => rfl
  | cons y r => rfl
section
variable {K : PySem.W.Frag}
theorem Val.dp {H : Hp} {x : V} {ds : List PyData} (h : Val K H x (.tuple ds)) : Dp K H x (.tuple ds) ∧ Good 60 (.tuple ds) := by
  rcases h with h | ⟨h, _⟩
  · exact h
  · cases h
theorem eqv_unit (ds : List PyData) : PyData.eqv (.tuple ds) (.tuple []) = ds.isEmpty := by
  cases ds <;> rfl
theorem two {α : Type} {r : List α} (h : r.length = 2) : ∃ a b, r = [a, b] := by
  match r, h with
  | [a, b], _ => exact ⟨a, b, rfl⟩
theorem filt_snoc {es : List PyData} {i : Nat} {e : PyData} (h : es[i]? = some e) (g : PyData → Bool) : (es.take (i + 1)).filter g = (es.take i).filter g ++ (if g e = true then [e] else []) := by
  rw [List.take_add_one, h, List.filter_append]
  congr 1
  show List.filter g [e] = _
  cases k : g e <;> simp [k]
theorem filt_all (es : List PyData) (g : PyData → Bool) : (es.filter fun e => !g e).isEmpty = es.all g := by
  induction es with
  | nil => rfl
  | cons e r ih =>
    rw [List.filter_cons, List.all_cons, ← ih]
    cases k : g e <;> simp
theorem eqv_nil (es : List PyData) : PyData.eqv (.list es) (.list []) = es.isEmpty := by
  cases es <;> rfl
theorem dpAll_app {H : Hp} : ∀ {xs ys : List V} {ds es : List PyData}, DpAll K H xs ds → DpAll K H ys es → DpAll K H (xs ++ ys) (ds ++ es)
  | _, _, _, _, .nil, k => k
  | _, _, _, _, .cons h r, k => .cons h (dpAll_app r k)
theorem Val.dp1 {H : Hp} {x : V} {d : PyData} (h : Val K H x d) (k : ∀ e, d ≠ .dict e) : Dp K H x d := by
  rcases h with h | ⟨h, _⟩
  · exact h.1
  · exact absurd h (k _)
theorem okD_dict {d : PyData} (h : okD d = true) : ∀ e, d ≠ .dict e := by
  intro e k
  subst k
  cases h
/-! ### the pool: what stands apart from it -/
def Rest (p : Addr) (R H : Hp) : Prop := Same R H ∧ R p = none ∧ ∃ (d : Addr) (ns : List Int) (k : Int), H p = some (.lst [.ref d, .int k]) ∧ R d = some (.lst (ns.map V.int)) ∧ 0 ≤ k
def Keep (p : Addr) (H H' : Hp) : Prop := ∀ b, b ≠ p → ∀ o, H b = some o → H' b = some o
structure Go (p : Addr) (R H R' H' : Hp) : Prop where
  same : Same R R'
  rest : Rest p R' H'
  keep : Keep p H H'
  fresh : ∀ b o, H b = some o → R b = none → R' b = none
theorem Rest.go {p : Addr} {R H : Hp} (k : Rest p R H) : Go p R H R H := ⟨Same.refl _, k, fun _ _ _ h => h, fun _ _ _ h => h⟩
theorem Go.trans {p : Addr} {R H R1 H1 R2 H2 : Hp} (a : Go p R H R1 H1) (b : Go p R1 H1 R2 H2) : Go p R H R2 H2 :=
  ⟨a.same.trans b.same, b.rest, fun c hc o h => b.keep c hc o (a.keep c hc o h), fun c o h hr => by
    by_cases e : c = p
    · rw [e]
      exact b.rest.2.1
    · exact b.fresh c o (a.keep c e o h) (a.fresh c o h hr)⟩
theorem Rest.ne {p D : Addr} {R H : Hp} (k : Rest p R H) (h : H D = none) : D ≠ p := fun e => by
  obtain ⟨_, _, d, ns, n, hp, _⟩ := k
  rw [e, hp] at h
  cases h
theorem Go.new {p t : Addr} {R H : Hp} {o : HO} (k : Rest p R H) (h : H t = none) : Go p R H (upd R t o) (upd H t o) := by
  have hne := k.ne h
  obtain ⟨s, hRp, d, ns, n, hp, hd, hn⟩ := k
  refine ⟨same_upd (s.free h), ⟨fun b x e => ?_, ?_, d, ns, n, ?_, (same_upd (s.free h)) _ _ hd, hn⟩, fun b _ x e => same_upd h b x e, fun b x e hr => ?_⟩
  · by_cases hb : b = t
    · subst hb
      rw [upd_same] at e ⊢
      exact e
    · rw [upd_ne hb] at e ⊢
      exact s b x e
  · rw [upd_ne hne.symm]
    exact hRp
  · rw [upd_ne hne.symm]
    exact hp
  · rw [upd_ne (ne_of_none e h)]
    exact hr
theorem Go.same_heap {p : Addr} {R H H' : Hp} (k : Rest p R H) (s : Same H H') : Go p R H R H' := by
  obtain ⟨s0, hRp, d, ns, n, hp, hd, hn⟩ := k
  exact ⟨Same.refl _, ⟨s0.trans s, hRp, d, ns, n, s _ _ hp, hd, hn⟩, fun b _ o h => s b o h, fun _ _ _ h => h⟩
/-- a store into a list that is being made -/
theorem Rest.put {p D : Addr} {R H : Hp} {o : HO} (k : Rest p R H) (hR : R D = none) (hne : D ≠ p) : Rest p R (upd H D o) := by
  obtain ⟨s0, hRp, d, ns, n, hp, hd, hn⟩ := k
  exact ⟨same_st s0 hR, hRp, d, ns, n, by rw [upd_ne hne.symm]; exact hp, hd, hn⟩
theorem Dp.go {p : Addr} {R H R' H' : Hp} {v : V} {d : PyData} (g : Go p R H R' H') (h : Dp K R v d) : Dp K R' v d := dp_same g.same d v h
/-- a comprehension that draws -/
theorem lc_go {J : It} {n : Nat} {G : Hp → Prop} {Y : Nat → Hp → V → Hp → Prop} (wk : Walk J n G Y) {p : Addr} {R H : Hp} {D : Addr} (hn : n ≤ 1000) (k : Rest p R H) (hD : H D = none) (hG : ∀ R1 H1, Go p R H R1 H1 → G H1)
    (PP : Hp → V → Prop) (Pm : ∀ R1 R2 y, Same R1 R2 → PP R1 y → PP R2 y) {g : TG} {tt : TT} {te : TE} {vs : List Nat} {σ : L2.St} {Qd : Hp → Prop}
    (hs : ∀ i x R1 H1 H1', i < n → Go p R H R1 H1 → Y i H1 x H1' → ∀ (C : V → Hp → Prop) (E : Hp → Prop), (∀ R2 H2 y, Go p R1 H1 R2 H2 → PP R2 y → C y H2) →
      g x (wipe σ vs) H1' fun σ2 H2 => wipe σ2 vs = wipe σ vs ∧ tt σ2 H2 fun b H3 => if b = true then te σ2 H3 C else E H3)
    (hd : ∀ R1 H1 ys, Go p R H R1 H1 → R1 D = some (.lst ys) → ys.length = n → (∀ y ∈ ys, PP R1 y) → Qd H1) :
    ∃ W : Nat → Nat → Hp → Prop, (∃ m, W 0 m (upd H D (.lst []))) ∧ ∀ i m H, W i m H →
      (J.stop i H ∧ Qd H) ∨ (J.go i H ∧ ∃ Nx : Hp → Prop, (∀ H', Nx H' → ∃ m', m' < m ∧ W (i + 1) m' H') ∧ ∀ x H', J.yld i H x H' → g x (wipe σ vs) H' fun σ2 H2 => wipe σ2 vs = wipe σ vs ∧ tt σ2 H2 fun b H3 =>
        if b = true then te σ2 H3 fun y H4 => ∃ acc, H4 D = some (.lst acc) ∧ acc.length < sizeLine ∧ Nx (upd H4 D (.lst (acc ++ [y]))) else Nx H3) := by
  have hne := k.ne hD
  have hRD : R D = none := k.1.free hD
  refine lc_it wk (fun i H' => ∃ R1, Go p R H R1 H' ∧ R1 D = none ∧ ∃ ys : List V, H' D = some (.lst ys) ∧ ys.length = i ∧ ∀ y ∈ ys, PP R1 y) ?_ ?_ ?_ ?_
  · refine ⟨R, ⟨Same.refl _, k.put hRD hne, fun b _ x e => same_upd hD b x e, fun _ _ _ h => h⟩, hRD, [], upd_same, rfl, fun y h => by cases h⟩
  · rintro i H' _ ⟨R1, g1, _⟩
    exact hG R1 H' g1
  · rintro i x H1 H1' hi ⟨R1, g1, hR1, ys, hy, hl, hP⟩ hY
    refine hs i x R1 H1 H1' hi g1 hY _ _ fun R2 H2 y g2 hp => ⟨ys, g2.keep D hne _ hy, small1000 (by omega), R2, ?_, g2.fresh D _ hy hR1, ys ++ [y], upd_same, ?_, ?_⟩
    · have g3 := g1.trans g2
      refine ⟨g3.same, g3.rest.put (g2.fresh D _ hy hR1) hne, fun b hb x e => ?_, g3.fresh⟩
      rw [upd_ne (ne_of_none e hD)]
      exact g3.keep b hb x e
    · rw [List.length_append, List.length_singleton, hl]
    · intro u hu
      rw [List.mem_append, List.mem_singleton] at hu
      rcases hu with hu | rfl
      · exact Pm R1 R2 u g2.same (hP u hu)
      · exact hp
  · rintro H1 ⟨R1, g1, hR1, ys, hy, hl, hP⟩
    have e1 : Same R1 (upd R1 D (.lst ys)) := same_upd hR1
    refine hd (upd R1 D (.lst ys)) H1 ys ⟨g1.same.trans e1, ?_, g1.keep, fun b o e hr => ?_⟩ upd_same hl fun y h => Pm _ _ y e1 (hP y h)
    · obtain ⟨s0, hRp, d, ns, n, hp, hd, hn⟩ := g1.rest
      refine ⟨fun b x e => ?_, by rw [upd_ne hne.symm]; exact hRp, d, ns, n, hp, e1 _ _ hd, hn⟩
      by_cases hb : b = D
      · subst hb
        rw [upd_same] at e
        rw [hy, e]
      · rw [upd_ne hb] at e
        exact s0 b x e
    · rw [upd_ne (ne_of_none e hD)]
      exact g1.fresh b o e hr
theorem at_int {xs : List V} {r : Int} (h0 : 0 ≤ r) (hi : r.toNat < xs.length) : ∃ v, atI xs r = some v ∧ v ∈ xs := by
  have e := atI_nat (List.getElem?_eq_getElem hi)
  rw [Int.toNat_of_nonneg h0] at e
  exact ⟨_, e, List.getElem_mem hi⟩
/-! ### data while the pool is drawn from -/
def cutG {α : Type} (ds : List α) (lo hi : Option Int) : List α := (ds.drop (HT.sIx ds.length 0 lo)).take (HT.sIx ds.length ds.length hi - HT.sIx ds.length 0 lo)
theorem dpAll_drop {H : Hp} : ∀ (n : Nat) {vs : List V} {ds : List PyData}, DpAll K H vs ds → DpAll K H (vs.drop n) (ds.drop n)
  | 0, _, _, h => h
  | n + 1, _, _, .nil => .nil
  | n + 1, _, _, .cons _ h => dpAll_drop n h
theorem dpAll_take {H : Hp} : ∀ (n : Nat) {vs : List V} {ds : List PyData}, DpAll K H vs ds → DpAll K H (vs.take n) (ds.take n)
  | 0, _, _, _ => .nil
  | n + 1, _, _, .nil => .nil
  | n + 1, _, _, .cons h r => .cons h (dpAll_take n r)
theorem dpAll_cut {H : Hp} {vs : List V} {ds : List PyData} (h : DpAll K H vs ds) (lo hi : Option Int) : DpAll K H (cutV vs lo hi) (cutG ds lo hi) := by
  have e := dpAll_len h
  unfold cutV cutG
  rw [e]
  exact dpAll_take _ (dpAll_drop _ h)
theorem cutG_mem {ds : List PyData} {lo hi : Option Int} {d : PyData} (h : d ∈ cutG ds lo hi) : d ∈ ds := List.mem_of_mem_drop (List.mem_of_mem_take h)
theorem cutG_len (ds : List PyData) (lo hi : Option Int) : (cutG ds lo hi).length ≤ ds.length := by
  unfold cutG
  rw [List.length_take, List.length_drop]
  omega
theorem cat_ok {p : Addr} {R H : Hp} {v u : V} {ds es : List PyData} {Q : VK} (k : Rest p R H) (hv : Dp K R v (.tuple ds)) (hu : Dp K R u (.tuple es)) (hl : ds.length + es.length ≤ 1000)
    (hq : ∀ x R' H', Go p R H R' H' → Dp K R' x (.tuple (ds ++ es)) → Q x H') : rCatA K v u H Q := by
  cases hv with
  | @tup a xs _ hs ha =>
    cases hu with
    | @tup b ys _ ht hb =>
      have l1 := dpAll_len ha
      have l2 := dpAll_len hb
      refine ⟨a, b, xs, ys, rfl, rfl, Same.seqT k.1 hs, Same.seqT k.1 ht, Nat.le_of_lt (small1000 (by omega)), fun e => ?_, fun _ e => ?_, fun _ _ t ht => ?_⟩
      · have e2 : ds = [] := List.eq_nil_of_length_eq_zero (by rw [← l1, e]; rfl)
        have := hq (.ref b) R H k.go
        rw [e2] at this
        exact this (.tup ht hb)
      · have e2 : es = [] := List.eq_nil_of_length_eq_zero (by rw [← l2, e]; rfl)
        have := hq (.ref a) R H k.go
        rw [e2, List.append_nil] at this
        exact this (.tup hs ha)
      · exact hq _ _ _ (Go.new k ht) (.tup (.inl (.inl upd_same)) (dpAll_same (Go.new k ht).same _ _ (dpAll_app ha hb)))
theorem slice_ok {p : Addr} {R H : Hp} {v : V} {ds : List PyData} {lo hi : Option Int} {Q : VK} (k : Rest p R H) (hv : Dp K R v (.tuple ds))
    (hq : ∀ x R' H', Go p R H R' H' → Dp K R' x (.tuple (cutG ds lo hi)) → Q x H') : rSlA K v lo hi H Q := by
  cases hv with
  | @tup a xs _ hs ha =>
    have l1 := dpAll_len ha
    refine ⟨a, xs, rfl, Same.seqT k.1 hs, fun e => ?_, fun _ t ht => ?_⟩
    · have e2 : cutG ds lo hi = ds := by
        unfold cutG
        rw [← l1, e.1, e.2, l1]
        show (ds.drop 0).take (ds.length - 0) = ds
        rw [List.drop_zero, Nat.sub_zero, List.take_length]
      have := hq (.ref a) R H k.go
      rw [e2] at this
      exact this (.tup hs ha)
    · exact hq _ _ _ (Go.new k ht) (.tup (.inl (.inl upd_same)) (dpAll_same (Go.new k ht).same _ _ (dpAll_cut ha lo hi)))
theorem slice_lo {p : Addr} {R H : Hp} {v : V} {ds : List PyData} {lo : Option Int} {σ : L2.St} {Q : VK} (k : Rest p R H) (hv : Dp K R v (.tuple ds))
    (hq : ∀ x R' H', Go p R H R' H' → Dp K R' x (.tuple (cutG ds lo none)) → Q x H') : tNoPart σ H (fun u H3 => rSlA K v lo u H3 Q) := slice_ok (hi := none) k hv hq
theorem lst_raw {p t : Addr} {R H : Hp} (vs : List V) (k : Rest p R H) (ht : H t = none) : Go p R H (upd R t (.lst vs)) (upd H t (.lst vs)) ∧ (upd R t (.lst vs)) t = some (.lst vs) := ⟨Go.new k ht, upd_same⟩
theorem tup_new {p t : Addr} {R H : Hp} {vs : List V} {ds : List PyData} (k : Rest p R H) (ht : H t = none) (hv : DpAll K R vs ds) : Go p R H (upd R t (.tup vs)) (upd H t (.tup vs)) ∧ Dp K (upd R t (.tup vs)) (.ref t) (.tuple ds) :=
  ⟨Go.new k ht, .tup (.inl (.inl upd_same)) (dpAll_same (Go.new (o := .tup vs) k ht).same _ _ hv)⟩
theorem lst_new {p t : Addr} {R H : Hp} {vs : List V} {ds : List PyData} (k : Rest p R H) (ht : H t = none) (hv : DpAll K R vs ds) : Go p R H (upd R t (.lst vs)) (upd H t (.lst vs)) ∧ Dp K (upd R t (.lst vs)) (.ref t) (.list ds) :=
  ⟨Go.new k ht, .lst (.inl (.inl upd_same)) (dpAll_same (Go.new (o := .lst vs) k ht).same _ _ hv)⟩
/-- some data of moderate size -/
def PD (K : PySem.W.Frag) (n : Nat) (R : Hp) (x : V) : Prop := ∃ d, Dp K R x d ∧ Good n d
theorem PD.same {n : Nat} {R R' : Hp} {x : V} (h : PD K n R x) (s : Same R R') : PD K n R' x := by
  obtain ⟨d, h, g⟩ := h
  exact ⟨d, dp_same s d x h, g⟩
theorem PD.mono {n m : Nat} {R : Hp} {x : V} (h : PD K n R x) (k : n ≤ m) : PD K m R x := by
  obtain ⟨d, h, g⟩ := h
  exact ⟨d, h, g.mono k⟩
theorem good_str {z : Str} (h : z.length ≤ 1000) (s : Sane z) (n : Nat) : Good n (.str z) := by
  refine ⟨?_, Nat.zero_le _⟩
  show (decide (z.length ≤ 1000) && z.cps.all (· < 0x110000)) = true
  rw [decide_eq_true h, Bool.true_and, ← Array.all_toList, List.all_eq_true]
  exact fun c hc => decide_eq_true (s c hc)
theorem good_t {n : Nat} {ds : List PyData} (h : ds.length ≤ 1000) (g : ∀ d ∈ ds, Good n d) : Good (n + 1) (.tuple ds) := Good.tup.mpr ⟨h, g⟩
end
theorem ints_can : ∀ ns : List Int, PyData.canLayAll0 (ns.map PyData.int) = true ∧ PyData.depthAll (ns.map PyData.int) ≤ 1
  | [] => ⟨rfl, by decide⟩
  | y :: r => by
    obtain ⟨h1, h2⟩ := ints_can r
    refine ⟨?_, ?_⟩
    · show (PyData.canLay0 (PyData.int y) && PyData.canLayAll0 (r.map PyData.int)) = true
      rw [h1]
      rfl
    · show max (PyData.depth (PyData.int y)) (PyData.depthAll (r.map PyData.int)) ≤ 1
      exact Nat.max_le.mpr ⟨by simp [PyData.depth], h2⟩
theorem ints_lay (ns : List Int) : SeqAt.shaped (PyData.list (ns.map PyData.int)) = true := by
  obtain ⟨h1, h2⟩ := ints_can ns
  unfold SeqAt.shaped
  rw [Bool.and_eq_true, decide_eq_true_eq]
  refine ⟨h1, ?_⟩
  show PyData.depthAll (ns.map PyData.int) + 1 ≤ 64
  omega
theorem dp_ints {K : PySem.W.Frag} {H : Hp} : ∀ ys : List Int, DpAll K H (ys.map V.int) (ys.map PyData.int)
  | [] => .nil
  | y :: r => .cons (.int y) (dp_ints r)
theorem same_of {H H1 : Hp} {p : Addr} {o : HO} (s : Same H H1) (h : H1 p = none) : Same H (upd H1 p o) := s.trans (same_upd h)
theorem joinL_mem : ∀ (ls : List (List Nat)) (c : Nat), c ∈ joinL [] ls → ∃ l ∈ ls, c ∈ l
  | [], c, h => by cases h
  | [l], c, h => ⟨l, List.mem_cons_self .., h⟩
  | l :: m :: r, c, h => by
    have h : c ∈ l ++ ([] ++ joinL [] (m :: r)) := h
    rw [List.nil_append, List.mem_append] at h
    rcases h with h | h
    · exact ⟨l, List.mem_cons_self .., h⟩
    · obtain ⟨x, hx, hc⟩ := joinL_mem (m :: r) c h
      exact ⟨x, List.mem_cons_of_mem _ hx, hc⟩
theorem joinL_len : ∀ (ls : List (List Nat)), (joinL [] ls).length = (ls.map List.length).sum
  | [] => rfl
  | [l] => by show l.length = _; simp
  | l :: m :: r => by
    show (l ++ ([] ++ joinL [] (m :: r))).length = _
    rw [List.nil_append, List.length_append, joinL_len (m :: r)]
    rfl
theorem join_facts (ys : List Str) (h : ∀ y ∈ ys, y.length = 1 ∧ Sane y) : (Txt.join "" ys).length = ys.length ∧ Sane (Txt.join "" ys) := by
  have e : (Txt.join "" ys).cps.toList = joinL [] (ys.map tl) := by
    rw [join_eq]
    exact tl_join "" ys
  refine ⟨?_, ?_⟩
  · show (Txt.join "" ys).cps.size = ys.length
    rw [← Array.length_toList, e, joinL_len, List.map_map]
    clear e
    induction ys with
    | nil => rfl
    | cons y r ih =>
      rw [List.map_cons, List.sum_cons, List.length_cons, ih fun z hz => h z (List.mem_cons_of_mem _ hz)]
      have e1 : (List.length ∘ tl) y = 1 := by
        show y.cps.toList.length = 1
        rw [Array.length_toList]
        exact (h y (List.mem_cons_self ..)).1
      rw [e1]
      omega
  · intro c hc
    rw [e] at hc
    obtain ⟨l, hl, hcl⟩ := joinL_mem _ c hc
    obtain ⟨y, hy, rfl⟩ := List.mem_map.mp hl
    exact (h y hy).2 c hcl
theorem join_le (ys : List Str) (h : ∀ y ∈ ys, y.length = 1) : (ys.map (·.length)).sum = ys.length := by
  induction ys with
  | nil => rfl
  | cons y r ih =>
    rw [List.map_cons, List.sum_cons, List.length_cons, ih fun z hz => h z (List.mem_cons_of_mem _ hz), h y (List.mem_cons_self ..)]
    omega
theorem cut_mem {xs : List V} {lo hi : Option Int} {x : V} {i : Nat} (h : (cutV xs lo hi)[i]? = some x) : x ∈ xs := by
  have h1 := List.mem_of_getElem? h
  unfold cutV at h1
  exact List.mem_of_mem_drop (List.mem_of_mem_take h1)
theorem at_abc {r : Int} (h0 : 0 ≤ r) (h1 : r < 26) : ∃ c, atI abcS.cps.toList r = some c ∧ c < 1114112 := by
  have hl : abcS.cps.toList.length = 26 := by decide +kernel
  have hi : r.toNat < abcS.cps.toList.length := by omega
  have e := atI_nat (List.getElem?_eq_getElem hi)
  rw [Int.toNat_of_nonneg h0] at e
  refine ⟨_, e, ?_⟩
  have := (abc_mem _).mp (List.getElem_mem hi)
  omega
section
variable {K : PySem.W.Frag}
theorem pd_all {n : Nat} {R : Hp} : ∀ {ys : List V}, (∀ y ∈ ys, PD K n R y) → ∃ ds, DpAll K R ys ds ∧ ∀ d ∈ ds, Good n d
  | [], _ => ⟨[], .nil, fun d h => by cases h⟩
  | y :: ys, h => by
    obtain ⟨d, h1, h2⟩ := h y (List.mem_cons_self ..)
    obtain ⟨ds, h3, h4⟩ := pd_all fun z hz => h z (List.mem_cons_of_mem _ hz)
    refine ⟨d :: ds, .cons h1 h3, fun e he => ?_⟩
    rcases List.mem_cons.mp he with rfl | he
    · exact h2
    · exact h4 e he
theorem signs_of : ∀ {ys : List V}, (∀ y ∈ ys, ∃ c : Nat, y = .str ⟨#[c]⟩ ∧ c < 1114112) → ∃ zs : List Str, ys = zs.map V.str ∧ zs.length = ys.length ∧ ∀ z ∈ zs, z.length = 1 ∧ Sane z
  | [], _ => ⟨[], rfl, rfl, fun z h => by cases h⟩
  | y :: ys, h => by
    obtain ⟨c, rfl, hc⟩ := h y (List.mem_cons_self ..)
    obtain ⟨zs, h3, h4, h5⟩ := signs_of fun z hz => h z (List.mem_cons_of_mem _ hz)
    refine ⟨⟨#[c]⟩ :: zs, by rw [h3]; rfl, by rw [List.length_cons, List.length_cons, h4], fun e he => ?_⟩
    rcases List.mem_cons.mp he with rfl | he
    · exact ⟨rfl, fun x hx => by
        have : x = c := by simpa using hx
        omega⟩
    · exact h5 e he
theorem mem_app {P : V → Prop} {a b c : List V} (e : a ++ b = c) (h1 : ∀ y ∈ a, P y) (h2 : ∀ y ∈ b, P y) : ∀ y ∈ c, P y := fun y h => by
  rw [← e] at h
  exact (List.mem_append.mp h).elim (h1 y) (h2 y)
end
theorem vals_abs : ∀ (us : List Value) (xs : List V), us.map absV = xs.map some → Vals xs us
  | [], [], _ => .nil
  | [], _ :: _, h => by cases h
  | _ :: _, [], h => by cases h
  | u :: us, x :: xs, h => by
    rw [List.map_cons, List.map_cons, List.cons.injEq] at h
    refine .cons ?_ (vals_abs us xs h.2)
    have h1 := h.1
    cases u <;> simp only [absV] at h1 <;> cases h1 <;> first | rfl | exact ⟨_, rfl⟩
theorem tup_of {K : PySem.W.Frag} {a : Addr} {od : Option Addr} {its : Array Value} {n : Nat} {sl : Array (Option Value)} {ws : List Str} (h : K.lookup a = some ⟨.type "tuple", od, .seq its n, sl⟩) (hv : its.toList.map absV = (ws.map V.str).map some) (hl : ws.length ≤ 1000) : ∀ H, SqT K H a (ws.map V.str) := fun H => by
  have r := vals_abs its.toList _ hv
  refine .inr ⟨_, its, n, h, rfl, rfl, ?_, r⟩
  have e := r.length
  simp only [List.length_map, Array.length_toList] at e
  exact Nat.le_of_lt (small1000 (by rw [← e]; exact hl))
end GG

/-! The rows that the laws draw, as data: what they keep. -/
namespace GG
open PySem PySem.Spec PyProof.Rows L2 TL
abbrev T1 (w : Str) : PyData := .tuple [.str w]
abbrev TS (n : Str) : PyData := .tuple [.str "start", .str n]
abbrev TA3 (m : Str) (o : List PyData) : PyData := .tuple [.str "ask", .str m, .tuple o]
/-- items that keep the rules from where one is under way (u), has the lock (l): to the end, closed; ns, ms: the names of works and marks; t: let may be the last one; a: asks may be there -/
inductive RowOk (ns ms : List Str) (t : Bool) : Bool → Bool → Bool → List PyData → Prop
  | nil {a} : RowOk ns ms t a false false []
  | lets {a} : t = true → RowOk ns ms t a false false [T1 "let"]
  | plain {a u l w r} : w ∈ (["touch", "use"] : List Str) → RowOk ns ms t a u l r → RowOk ns ms t a u l (T1 w :: r)
  | start {a u l n r} : n ∈ ns → RowOk ns ms t a u l r → RowOk ns ms t a u l (TS n :: r)
  | enter {a l r} : RowOk ns ms t a true l r → RowOk ns ms t a false l (T1 "enter" :: r)
  | leave {a l r} : RowOk ns ms t a false l r → RowOk ns ms t a true l (T1 "leave" :: r)
  | lock {a u r} : RowOk ns ms t a u true r → RowOk ns ms t a u false (T1 "lock" :: r)
  | unlock {a u r} : RowOk ns ms t a u false r → RowOk ns ms t a u true (T1 "unlock" :: r)
  | ask {u l m o r} : m ∈ ms → RowOk ns ms t false u l o → o.length ≤ 4 → RowOk ns ms t true u l r → RowOk ns ms t true u l (TA3 m o :: r)
/-- the number of items, with those in ways out -/
def size1 : PyData → Nat
  | .tuple [_, _, .tuple o] => 1 + o.length
  | _ => 1
def sizeR (r : List PyData) : Nat := (r.map size1).sum
theorem sizeR_app (a b : List PyData) : sizeR (a ++ b) = sizeR a + sizeR b := by
  unfold sizeR
  rw [List.map_append, List.sum_append]
/-- what a way's end may be -/
def IsClosing (u l t : Bool) (c : List PyData) : Prop := ∃ b k : List PyData, c = b ++ k ∧ (k = [] ∨ (t = true ∧ k = [T1 "let"])) ∧
  (b = (if l then [T1 "unlock"] else []) ++ (if u then [T1 "leave"] else []) ∨ b = (if u then [T1 "leave"] else []) ++ (if l then [T1 "unlock"] else []))
theorem IsClosing.ok {ns ms : List Str} {u l t a : Bool} {c : List PyData} (h : IsClosing u l t c) : RowOk ns ms t a u l c ∧ sizeR c ≤ 3 ∧ c.length ≤ 3 := by
  obtain ⟨b, k, rfl, hk, hb⟩ := h
  have e : RowOk ns ms t a false false k ∧ sizeR k ≤ 1 ∧ k.length ≤ 1 := by
    rcases hk with rfl | ⟨ht, rfl⟩
    · exact ⟨.nil, by decide, by decide⟩
    · exact ⟨.lets ht, by decide +kernel, by decide⟩
  obtain ⟨e1, e2, e3⟩ := e
  have s1 : sizeR [T1 "unlock"] = 1 := rfl
  have s2 : sizeR [T1 "leave"] = 1 := rfl
  cases u <;> cases l <;> rcases hb with rfl | rfl <;> simp only [if_true, Bool.false_eq_true, if_false, List.nil_append, List.append_nil, List.cons_append, List.length_cons, List.length_append] at *
  · exact ⟨e1, by omega, by omega⟩
  · exact ⟨e1, by omega, by omega⟩
  · exact ⟨.unlock e1, by show 1 + sizeR k ≤ 3; omega, by omega⟩
  · exact ⟨.unlock e1, by show 1 + sizeR k ≤ 3; omega, by omega⟩
  · exact ⟨.leave e1, by show 1 + sizeR k ≤ 3; omega, by omega⟩
  · exact ⟨.leave e1, by show 1 + sizeR k ≤ 3; omega, by omega⟩
  · exact ⟨.unlock (.leave e1), by show 1 + (1 + sizeR k) ≤ 3; omega, by omega⟩
  · exact ⟨.leave (.unlock e1), by show 1 + (1 + sizeR k) ≤ 3; omega, by omega⟩
/-- items so far: whatever goes on well from u, l, is well from the beginning -/
def Pfx (ns ms : List Str) (t a : Bool) (items : List PyData) (u l : Bool) : Prop := ∀ r, RowOk ns ms t a u l r → RowOk ns ms t a false false (items ++ r)
theorem Pfx.nil {ns ms : List Str} {t a : Bool} : Pfx ns ms t a [] false false := fun r h => h
theorem Pfx.snoc {ns ms : List Str} {t a : Bool} {items : List PyData} {u l u' l' : Bool} {i : PyData} (h : Pfx ns ms t a items u l) (k : ∀ r, RowOk ns ms t a u' l' r → RowOk ns ms t a u l (i :: r)) : Pfx ns ms t a (items ++ [i]) u' l' := fun r hr => by
  rw [List.append_assoc]
  exact h _ (k r hr)
/-- u behind an item of the word w, as the law reckons it -/
abbrev nextB (u : Bool) (w a b : Str) : Bool := !decide (V.bl u = V.bl (inV (.str w) [.str a, .str b]))
/-- an item that may stand where one is at u, l -/
def ItemFor (ns ms : List Str) (t u l : Bool) (w : Str) (rest : List PyData) : Prop :=
  ∀ r, RowOk ns ms t true (nextB u w "enter" "leave") (nextB l w "lock" "unlock") r → RowOk ns ms t true u l (.tuple (.str w :: rest) :: r)
theorem item_plain {ns ms : List Str} {t u l : Bool} {w : Str} (h : w ∈ (["touch", "use"] : List Str)) : ItemFor ns ms t u l w [] := by
  intro r hr
  simp only [List.mem_cons, List.not_mem_nil, or_false] at h
  rcases h with rfl | rfl
  · have e1 : nextB u "touch" "enter" "leave" = u := by cases u <;> decide +kernel
    have e2 : nextB l "touch" "lock" "unlock" = l := by cases l <;> decide +kernel
    rw [e1, e2] at hr
    exact .plain (by decide) hr
  · have e1 : nextB u "use" "enter" "leave" = u := by cases u <;> decide +kernel
    have e2 : nextB l "use" "lock" "unlock" = l := by cases l <;> decide +kernel
    rw [e1, e2] at hr
    exact .plain (by decide) hr
theorem item_el {ns ms : List Str} {t u l : Bool} : ItemFor ns ms t u l (if u = true then "leave" else "enter") [] := by
  intro r hr
  cases u with
  | true =>
    have e1 : nextB true "leave" "enter" "leave" = false := by decide +kernel
    have e2 : nextB l "leave" "lock" "unlock" = l := by cases l <;> decide +kernel
    have hr : RowOk ns ms t true (nextB true "leave" "enter" "leave") (nextB l "leave" "lock" "unlock") r := hr
    rw [e1, e2] at hr
    exact .leave hr
  | false =>
    have e1 : nextB false "enter" "enter" "leave" = true := by decide +kernel
    have e2 : nextB l "enter" "lock" "unlock" = l := by cases l <;> decide +kernel
    have hr : RowOk ns ms t true (nextB false "enter" "enter" "leave") (nextB l "enter" "lock" "unlock") r := hr
    rw [e1, e2] at hr
    exact .enter hr
theorem item_lu {ns ms : List Str} {t u l : Bool} : ItemFor ns ms t u l (if l = true then "unlock" else "lock") [] := by
  intro r hr
  cases l with
  | true =>
    have e1 : nextB u "unlock" "enter" "leave" = u := by cases u <;> decide +kernel
    have e2 : nextB true "unlock" "lock" "unlock" = false := by decide +kernel
    have hr : RowOk ns ms t true (nextB u "unlock" "enter" "leave") (nextB true "unlock" "lock" "unlock") r := hr
    rw [e1, e2] at hr
    exact .unlock hr
  | false =>
    have e1 : nextB u "lock" "enter" "leave" = u := by cases u <;> decide +kernel
    have e2 : nextB false "lock" "lock" "unlock" = true := by decide +kernel
    have hr : RowOk ns ms t true (nextB u "lock" "enter" "leave") (nextB false "lock" "lock" "unlock") r := hr
    rw [e1, e2] at hr
    exact .lock hr
theorem item_start {ns ms : List Str} {t u l : Bool} {n : Str} (h : n ∈ ns) : ItemFor ns ms t u l "start" [.str n] := by
  intro r hr
  have e1 : nextB u "start" "enter" "leave" = u := by cases u <;> decide +kernel
  have e2 : nextB l "start" "lock" "unlock" = l := by cases l <;> decide +kernel
  rw [e1, e2] at hr
  exact .start h hr
theorem item_ask {ns ms : List Str} {t u l : Bool} {m : Str} {o : List PyData} (h : m ∈ ms) (ho : RowOk ns ms t false u l o) (h4 : o.length ≤ 4) : ItemFor ns ms t u l "ask" [.str m, .tuple o] := by
  intro r hr
  have e1 : nextB u "ask" "enter" "leave" = u := by cases u <;> decide +kernel
  have e2 : nextB l "ask" "lock" "unlock" = l := by cases l <;> decide +kernel
  rw [e1, e2] at hr
  exact .ask h ho h4 hr
theorem in23 {w : Int} (h : inV (.int w) [.int 2, .int 3] = true) : w = 2 ∨ w = 3 := by
  have h : ((2 : Int) == w || ((3 : Int) == w || false)) = true := h
  simp only [Bool.or_false, Bool.or_eq_true, beq_iff_eq] at h
  omega
theorem not23 {w : Int} (h : ¬ inV (.int w) [.int 2, .int 3] = true) : w ≠ 2 ∧ w ≠ 3 := by
  have h : ¬ ((2 : Int) == w || ((3 : Int) == w || false)) = true := h
  simp only [Bool.or_false, Bool.or_eq_true, beq_iff_eq] at h
  omega
theorem two_at {x y : V} (u : Bool) : atI [x, y] (if u = true then 1 else 0) = some (if u = true then y else x) := by
  cases u <;> rfl
theorem eq_dec {w k : Int} (h : decide (V.int w = V.int k) = true) : w = k := V.int.inj (of_decide_eq_true h)
theorem ne_dec {w k : Int} (h : ¬ decide (V.int w = V.int k) = true) : w ≠ k := fun e => h (decide_eq_true (by rw [e]))
/-- a new list at x of what stands for the data ds -/
def LD (K : PySem.W.Frag) (R : Hp) (x : V) (ds : List PyData) : Prop := ∃ (a : Addr) (vs : List V), x = .ref a ∧ R a = some (.lst vs) ∧ DpAll K R vs ds
theorem LD.same {K : PySem.W.Frag} {R R' : Hp} {x : V} {ds : List PyData} (h : LD K R x ds) (s : Same R R') : LD K R' x ds := by
  obtain ⟨a, vs, h1, h2, h3⟩ := h
  exact ⟨a, vs, h1, s _ _ h2, dpAll_same s _ _ h3⟩
section
variable {K : PySem.W.Frag} {p : Addr} {R H : Hp}
/-- a list and another one, joined -/
theorem catL {a b : V} {ds es : List PyData} {Q : VK} (k : Rest p R H) (ha : LD K R a ds) (hb : LD K R b es) (hl : ds.length + es.length ≤ 1000) (hq : ∀ x R' H', Go p R H R' H' → LD K R' x (ds ++ es) → Q x H') : rCat a b H Q := by
  obtain ⟨a, vs, rfl, h2, h3⟩ := ha
  obtain ⟨b, ws, rfl, k2, k3⟩ := hb
  have l1 := dpAll_len h3
  have l2 := dpAll_len k3
  exact ⟨a, b, vs, ws, rfl, rfl, k.1 _ _ h2, k.1 _ _ k2, Nat.le_of_lt (small1000 (by omega)), fun x hx => hq _ _ _ (Go.new k hx) ⟨x, _, rfl, upd_same, dpAll_same (Go.new k hx).same _ _ (dpAll_app h3 k3)⟩⟩
/-- a list once or not at all -/
theorem repL {a : V} {ds : List PyData} {b : Bool} {Q : VK} (k : Rest p R H) (ha : LD K R a ds) (hl : ds.length ≤ 1000) (hq : ∀ x R' H', Go p R H R' H' → LD K R' x (if b then ds else []) → Q x H') : rRep a (.int (if b then 1 else 0)) H Q := by
  obtain ⟨a, vs, rfl, h2, h3⟩ := ha
  have l1 := dpAll_len h3
  cases b with
  | true =>
    refine ⟨a, _, vs, rfl, rfl, k.1 _ _ h2, by decide, by decide, ?_, fun x hx => ?_⟩
    · show vs.length * 1 ≤ sizeLine
      exact Nat.le_of_lt (small1000 (by omega))
    · have e : (List.replicate (if true = true then (1 : Int) else 0).toNat vs).flatten = vs := by
        show vs ++ [] = vs
        rw [List.append_nil]
      rw [e]
      exact hq _ _ _ (Go.new k hx) ⟨x, _, rfl, upd_same, dpAll_same (Go.new k hx).same _ _ h3⟩
  | false =>
    refine ⟨a, _, vs, rfl, rfl, k.1 _ _ h2, by decide, by decide, ?_, fun x hx => ?_⟩
    · show vs.length * 0 ≤ sizeLine
      omega
    · exact hq _ _ _ (Go.new k hx) ⟨x, _, rfl, upd_same, .nil⟩
/-- a list of one tuple, new -/
theorem new1 {u : Addr} {ds : PyData} {l : Addr} (k : Rest p R H) (hu : Dp K R (.ref u) ds) (hl : H l = none) : Go p R H (upd R l (.lst [.ref u])) (upd H l (.lst [.ref u])) ∧ LD K (upd R l (.lst [.ref u])) (.ref l) [ds] :=
  ⟨Go.new k hl, l, _, rfl, upd_same, .cons (dp_same (Go.new (o := .lst [.ref u]) k hl).same _ _ hu) .nil⟩
theorem dpAll_rev : ∀ {vs : List V} {ds : List PyData}, DpAll K R vs ds → DpAll K R vs.reverse ds.reverse
  | _, _, .nil => .nil
  | _, _, .cons h r => by
    rw [List.reverse_cons, List.reverse_cons]
    exact dpAll_app (dpAll_rev r) (.cons h .nil)
theorem revL {vs : List V} {ds : List PyData} {l : Addr} (k : Rest p R H) (hl : H l = none) (h : DpAll K R vs ds) : LD K (upd R l (.lst vs.reverse)) (.ref l) ds.reverse :=
  ⟨l, _, rfl, upd_same, dpAll_same (Go.new (o := .lst vs.reverse) k hl).same _ _ (dpAll_rev h)⟩
theorem four_of {e1 e2 l3 l4 : Addr} {v : V} (f1 : LD K R (.ref e1) []) (f2 : LD K R (.ref e2) []) (f3 : LD K R (.ref l3) [T1 "touch"]) (f4 : LD K R (.ref l4) [T1 "use"]) (hv : v ∈ [V.ref e1, .ref e2, .ref l3, .ref l4]) :
    ∃ ex, LD K R v ex ∧ (ex = [] ∨ ex = [T1 "touch"] ∨ ex = [T1 "use"]) := by
  simp only [List.mem_cons, List.not_mem_nil, or_false] at hv
  rcases hv with rfl | rfl | rfl | rfl
  · exact ⟨_, f1, .inl rfl⟩
  · exact ⟨_, f2, .inl rfl⟩
  · exact ⟨_, f3, .inr (.inl rfl)⟩
  · exact ⟨_, f4, .inr (.inr rfl)⟩
/-- a new object that is kept apart for a while -/
theorem dp_two {u : Bool} {x y : V} {a b : Str} (h1 : Dp K R x (T1 a)) (h2 : Dp K R y (T1 b)) : Dp K R (if u = true then y else x) (T1 (if u = true then b else a)) := by
  cases u with
  | true => exact h2
  | false => exact h1
theorem one_of {u1 u2 : Addr} {v : V} (d1 : Dp K R (.ref u1) (T1 "touch")) (d2 : Dp K R (.ref u2) (T1 "use")) (hv : v ∈ [V.ref u1, .ref u2]) : ∃ w : Str, Dp K R v (T1 w) ∧ w ∈ (["touch", "use"] : List Str) := by
  simp only [List.mem_cons, List.not_mem_nil, or_false] at hv
  rcases hv with rfl | rfl
  · exact ⟨_, d1, by decide⟩
  · exact ⟨_, d2, by decide⟩
theorem cut2_nil {ds : List PyData} (h : ds.length ≤ 2) : cutG ds (some 2) none = [] := by
  match ds, h with
  | [], _ => rfl
  | [_], _ => rfl
  | [_, _], _ => rfl
theorem dp_unit {y : V} (h : Dp K R y (.tuple [])) : ∃ ya : Addr, y = .ref ya ∧ SqT K R ya [] := by
  cases h with
  | tup h1 h2 =>
    cases h2
    exact ⟨_, rfl, h1⟩
theorem dp_head {y : V} {w : Str} {rest : List PyData} (h : Dp K R y (.tuple (.str w :: rest))) : ∃ (ya : Addr) (xs : List V), y = .ref ya ∧ SqT K R ya xs ∧ atI xs 0 = some (.str w) := by
  cases h with
  | tup h1 h2 =>
    cases h2 with
    | cons h3 _ =>
      cases h3
      exact ⟨_, _, rfl, h1, atI_nat (j := 0) rfl⟩
theorem dp_third {y : V} {a b : PyData} {o : List PyData} (h : Dp K R y (.tuple [a, b, .tuple o])) : ∃ (ya oa : Addr) (xs ys : List V), y = .ref ya ∧ SqT K R ya xs ∧ atI xs 2 = some (.ref oa) ∧ SqT K R oa ys ∧ ys.length = o.length := by
  cases h with
  | tup h1 h2 =>
    cases h2 with
    | cons h3 h4 =>
      cases h4 with
      | cons h5 h6 =>
        cases h6 with
        | cons h7 h8 =>
          cases h8
          cases h7 with
          | tup k1 k2 => exact ⟨_, _, _, _, rfl, h1, atI_nat (j := 2) rfl, k1, dpAll_len k2⟩
theorem dp_single {y : V} {d : PyData} (h : Dp K R y (.tuple [d])) : ∃ (ya : Addr) (v : V), y = .ref ya ∧ SqT K R ya [v] := by
  cases h with
  | tup h1 h2 =>
    cases h2 with
    | cons h3 h4 =>
      cases h4
      exact ⟨_, _, rfl, h1⟩
theorem go_hid {li : Addr} {o : HO} (k : Rest p R H) (h : H li = none) : Go p R H R (upd H li o) :=
  ⟨Same.refl _, k.put (k.1.free h) (k.ne h), fun b _ x e => same_upd h b x e, fun _ _ _ h => h⟩
theorem go_put {R0 H0 : Hp} {li : Addr} {o : HO} (g : Go p R0 H0 R H) (h0 : H0 li = none) (hR : R li = none) (hne : li ≠ p) : Go p R0 H0 R (upd H li o) :=
  ⟨g.same, g.rest.put hR hne, fun b hb x e => by
    rw [upd_ne (ne_of_none e h0)]
    exact g.keep b hb x e, g.fresh⟩
theorem go_put2 {R0 H0 : Hp} {li : Addr} (o : HO) (g : Go p R0 H0 R H) (h0 : H0 li = none) (hR : R li = none) (hne : li ≠ p) : Go p R0 H0 R (upd H li o) ∧ upd H li o li = some o := ⟨go_put g h0 hR hne, upd_same⟩
theorem go_new2 {l : Addr} (o : HO) (k : Rest p R H) (h : H l = none) : Go p R H (upd R l o) (upd H l o) := Go.new k h
/-- what was kept apart is let in -/
theorem go_show {R0 H0 : Hp} {li : Addr} {o : HO} (g : Go p R0 H0 R H) (h0 : H0 li = none) (hR : R li = none) (hne : li ≠ p) (hH : H li = some o) : Go p R0 H0 (upd R li o) H := by
  obtain ⟨s0, hRp, d, ns, n, hp, hd, hn⟩ := g.rest
  have e1 : Same R (upd R li o) := same_upd hR
  refine ⟨g.same.trans e1, ⟨fun b x e => ?_, by rw [upd_ne hne.symm]; exact hRp, d, ns, n, hp, e1 _ _ hd, hn⟩, g.keep, fun b x e hr => ?_⟩
  · by_cases hb : b = li
    · subst hb
      rw [upd_same] at e
      rw [hH, e]
    · rw [upd_ne hb] at e
      exact s0 b x e
  · rw [upd_ne (ne_of_none e h0)]
    exact g.fresh b x e hr
theorem closeLast {R0 H0 : Hp} {u l t : Bool} {x3 x6 : V} {bs : List PyData} {Q : VK} (q : ∀ x R' H' c, Go p R0 H0 R' H' → LD K R' x c → IsClosing u l t c → Q x H') (g : Go p R0 H0 R H) (f3 : LD K R x3 bs) (f6 : LD K R x6 [T1 "let"]) (hl : bs.length ≤ 10)
    (hq : ∀ k' : List PyData, (k' = [] ∨ (t = true ∧ k' = [T1 "let"])) → IsClosing u l t (bs ++ k')) (b : Bool) (hb : b = true → t = true) : rRep x6 (.int (if b = true then 1 else 0)) H (fun y H2 => rCat x3 y H2 Q) := by
  refine repL g.rest f6 (by decide) fun x7 Ri Hi gi f7 => catL (g.trans gi).rest (f3.same gi.same) f7 ?_ fun x8 Rj Hj gj f8 => q _ _ _ _ ((g.trans gi).trans gj) f8 (hq _ ?_)
  · have : (if b = true then [T1 "let"] else []).length ≤ 1 := by cases b <;> decide
    omega
  · cases b with
    | true => exact .inr ⟨hb rfl, rfl⟩
    | false => exact .inl rfl
end
end GG

namespace GG
open PySem PySem.Spec PyProof.Rows L2 TL
/-- the names that a law draws from are plain -/
def NamesOk (ns : List Str) : Prop := ∀ n ∈ ns, Sane n ∧ n.length ≤ 100
theorem good_name {ns : List Str} {n : Str} (h : NamesOk ns) (hn : n ∈ ns) (k : Nat) : Good k (.str n) := good_str (by have := (h n hn).2; omega) (h n hn).1 k
theorem good_word (w : Str) (h : okD (.str w) = true) (k : Nat) : Good k (.str w) := ⟨h, Nat.zero_le _⟩
theorem rowOk_good {ns ms : List Str} {t : Bool} (h1 : NamesOk ns) (h2 : NamesOk ms) : ∀ {a u l : Bool} {r : List PyData}, RowOk ns ms t a u l r → ∀ d ∈ r, Good (if a = true then 4 else 2) d := by
  have one : ∀ (a : Bool) (w : Str), okD (.str w) = true → Good (if a = true then 4 else 2) (T1 w) := fun a w hw => Good.mono (n := 2) (good_t (n := 1) (by show 1 ≤ 1000; decide) (fun d hd => by
    rw [List.mem_singleton] at hd
    rw [hd]
    exact good_word w hw 1)) (by cases a <;> decide)
  intro a u l r h
  induction h with
  | nil => intro d hd; cases hd
  | lets _ => intro d hd; rw [List.mem_singleton] at hd; rw [hd]; exact one _ _ (by decide +kernel)
  | plain hw _ ih =>
    intro d hd
    rcases List.mem_cons.mp hd with rfl | hd
    · simp only [List.mem_cons, List.not_mem_nil, or_false] at hw
      rcases hw with rfl | rfl <;> exact one _ _ (by decide +kernel)
    · exact ih d hd
  | @start a u l n r hn _ ih =>
    intro d hd
    rcases List.mem_cons.mp hd with rfl | hd
    · refine Good.mono (n := 2) (good_t (n := 1) (by show 2 ≤ 1000; decide) (fun e he => ?_)) (by cases a <;> decide)
      rw [List.mem_cons, List.mem_singleton] at he
      rcases he with rfl | rfl
      · exact good_word _ (by decide +kernel) 1
      · exact good_name h1 hn 1
    · exact ih d hd
  | enter _ ih => intro d hd; rcases List.mem_cons.mp hd with rfl | hd; exact one _ _ (by decide +kernel); exact ih d hd
  | leave _ ih => intro d hd; rcases List.mem_cons.mp hd with rfl | hd; exact one _ _ (by decide +kernel); exact ih d hd
  | lock _ ih => intro d hd; rcases List.mem_cons.mp hd with rfl | hd; exact one _ _ (by decide +kernel); exact ih d hd
  | unlock _ ih => intro d hd; rcases List.mem_cons.mp hd with rfl | hd; exact one _ _ (by decide +kernel); exact ih d hd
  | ask hm ho h4 _ iho ih =>
    intro d hd
    rcases List.mem_cons.mp hd with rfl | hd
    · refine good_t (n := 3) (by show 3 ≤ 1000; decide) (fun e he => ?_)
      simp only [List.mem_cons, List.not_mem_nil, or_false] at he
      rcases he with rfl | rfl | rfl
      · exact good_word _ (by decide +kernel) 3
      · exact good_name h2 hm 3
      · exact good_t (n := 2) (by omega) iho
    · exact ih d hd
theorem size1_pos (d : PyData) : 1 ≤ size1 d := by
  unfold size1
  split <;> omega
theorem sizeR_len : ∀ r : List PyData, r.length ≤ sizeR r
  | [] => Nat.le_refl _
  | d :: r => by
    have h1 := size1_pos d
    have h2 := sizeR_len r
    show r.length + 1 ≤ size1 d + sizeR r
    omega
/-- the openings of a hand -/
def opens : List (List Str) := [["look", "hold"], ["look", "try"], ["lock", "look", "hold", "unlock"], ["lock", "look", "try", "unlock"], ["lock", "look", "unlock", "hold"], ["lock", "look", "unlock", "try"]]
/-- a hand's row that keeps the rules -/
def HandOk (ns ms : List Str) (ds : List PyData) : Prop := ∃ op b, op ∈ opens ∧ ds = op.map T1 ++ b ∧ RowOk ns ms true true false false b ∧ sizeR b + op.length ≤ 14
/-- a work's row that keeps the rules -/
def WorkOk (ns ms : List Str) (ds : List PyData) : Prop := RowOk ns ms false true false false ds ∧ ds ≠ [] ∧ sizeR ds ≤ 9
section
variable {K : PySem.W.Frag} {p : Addr} {R H : Hp}
theorem dpAll_of_get : ∀ {vs : List V} {ds : List PyData}, vs.length = ds.length → (∀ (i : Nat) (y : V) (d : PyData), vs[i]? = some y → ds[i]? = some d → Dp K R y d) → DpAll K R vs ds
  | [], [], _, _ => .nil
  | v :: vs, d :: ds, hl, h => .cons (h 0 v d rfl rfl) (dpAll_of_get (by simpa using hl) fun i y e h1 h2 => h (i + 1) y e h1 h2)
/-- a comprehension that draws, place by place -/
theorem lc_goI {J : It} {n : Nat} {G : Hp → Prop} {Y : Nat → Hp → V → Hp → Prop} (wk : Walk J n G Y) {D : Addr} (hn : n ≤ 1000) (k : Rest p R H) (hD : H D = none) (hG : ∀ R1 H1, Go p R H R1 H1 → G H1)
    (PP : Nat → Hp → V → Prop) (Pm : ∀ i R1 R2 y, Same R1 R2 → PP i R1 y → PP i R2 y) {g : TG} {tt : TT} {te : TE} {vs : List Nat} {σ : L2.St} {Qd : Hp → Prop}
    (hs : ∀ i x R1 H1 H1', i < n → Go p R H R1 H1 → Y i H1 x H1' → ∀ (C : V → Hp → Prop) (E : Hp → Prop), (∀ R2 H2 y, Go p R1 H1 R2 H2 → PP i R2 y → C y H2) →
      g x (wipe σ vs) H1' fun σ2 H2 => wipe σ2 vs = wipe σ vs ∧ tt σ2 H2 fun b H3 => if b = true then te σ2 H3 C else E H3)
    (hd : ∀ R1 H1 ys, Go p R H R1 H1 → R1 D = some (.lst ys) → ys.length = n → (∀ (i : Nat) (y : V), ys[i]? = some y → PP i R1 y) → Qd H1) :
    ∃ W : Nat → Nat → Hp → Prop, (∃ m, W 0 m (upd H D (.lst []))) ∧ ∀ i m H, W i m H →
      (J.stop i H ∧ Qd H) ∨ (J.go i H ∧ ∃ Nx : Hp → Prop, (∀ H', Nx H' → ∃ m', m' < m ∧ W (i + 1) m' H') ∧ ∀ x H', J.yld i H x H' → g x (wipe σ vs) H' fun σ2 H2 => wipe σ2 vs = wipe σ vs ∧ tt σ2 H2 fun b H3 =>
        if b = true then te σ2 H3 fun y H4 => ∃ acc, H4 D = some (.lst acc) ∧ acc.length < sizeLine ∧ Nx (upd H4 D (.lst (acc ++ [y]))) else Nx H3) := by
  have hne := k.ne hD
  have hRD : R D = none := k.1.free hD
  refine lc_it wk (fun i H' => ∃ R1, Go p R H R1 H' ∧ R1 D = none ∧ ∃ ys : List V, H' D = some (.lst ys) ∧ ys.length = i ∧ ∀ (j : Nat) (y : V), ys[j]? = some y → PP j R1 y) ?_ ?_ ?_ ?_
  · exact ⟨R, go_hid k hD, hRD, [], upd_same, rfl, fun j y h => by simp at h⟩
  · rintro i H' _ ⟨R1, g1, _⟩
    exact hG R1 H' g1
  · rintro i x H1 H1' hi ⟨R1, g1, hR1, ys, hy, hl, hP⟩ hY
    refine hs i x R1 H1 H1' hi g1 hY _ _ fun R2 H2 y g2 hp => ⟨ys, g2.keep D hne _ hy, small1000 (by omega), R2, go_put (g1.trans g2) hD (g2.fresh D _ hy hR1) hne, g2.fresh D _ hy hR1, ys ++ [y], upd_same, ?_, ?_⟩
    · rw [List.length_append, List.length_singleton, hl]
    · intro j u hu
      by_cases hj : j < ys.length
      · rw [List.getElem?_append_left hj] at hu
        exact Pm j R1 R2 u g2.same (hP j u hu)
      · rw [List.getElem?_append_right (by omega)] at hu
        have hj2 := (List.getElem?_eq_some_iff.mp hu).1
        rw [List.length_singleton] at hj2
        have ej : j - ys.length = 0 := by omega
        rw [ej] at hu
        have eu : y = u := Option.some.inj hu
        have ei : j = i := by omega
        rw [← eu, ei]
        exact hp
  · rintro H1 ⟨R1, g1, hR1, ys, hy, hl, hP⟩
    exact hd _ H1 ys (go_show g1 hD hR1 hne hy) upd_same hl fun j y h => Pm j _ _ y (same_upd hR1) (hP j y h)
/-- a list of texts, new -/
theorem six_of {l1 l2 l3 l4 l5 l6 : Addr} {x : V} (h1 : R l1 = some (.lst [.str "look", .str "hold"])) (h2 : R l2 = some (.lst [.str "look", .str "try"])) (h3 : R l3 = some (.lst [.str "lock", .str "look", .str "hold", .str "unlock"]))
    (h4 : R l4 = some (.lst [.str "lock", .str "look", .str "try", .str "unlock"])) (h5 : R l5 = some (.lst [.str "lock", .str "look", .str "unlock", .str "hold"])) (h6 : R l6 = some (.lst [.str "lock", .str "look", .str "unlock", .str "try"]))
    (hx : x ∈ [V.ref l1, .ref l2, .ref l3, .ref l4] ++ [V.ref l5, .ref l6]) : ∃ (a : Addr) (op : List Str), x = .ref a ∧ R a = some (.lst (op.map V.str)) ∧ op ∈ opens := by
  simp only [List.cons_append, List.nil_append, List.mem_cons, List.not_mem_nil, or_false] at hx
  rcases hx with rfl | rfl | rfl | rfl | rfl | rfl
  · exact ⟨_, ["look", "hold"], rfl, h1, by decide⟩
  · exact ⟨_, ["look", "try"], rfl, h2, by decide⟩
  · exact ⟨_, ["lock", "look", "hold", "unlock"], rfl, h3, by decide⟩
  · exact ⟨_, ["lock", "look", "try", "unlock"], rfl, h4, by decide⟩
  · exact ⟨_, ["lock", "look", "unlock", "hold"], rfl, h5, by decide⟩
  · exact ⟨_, ["lock", "look", "unlock", "try"], rfl, h6, by decide⟩
theorem two_of {l3 l4 : Addr} {v : V} (f3 : LD K R (.ref l3) [T1 "touch"]) (f4 : LD K R (.ref l4) [T1 "use"]) (hv : v ∈ [V.ref l3, .ref l4]) : ∃ w : Str, LD K R v [T1 w] ∧ w ∈ (["touch", "use"] : List Str) := by
  simp only [List.mem_cons, List.not_mem_nil, or_false] at hv
  rcases hv with rfl | rfl
  · exact ⟨_, f3, by decide⟩
  · exact ⟨_, f4, by decide⟩
theorem opens_len {op : List Str} (h : op ∈ opens) : 2 ≤ op.length ∧ op.length ≤ 4 := by
  unfold opens at h
  simp only [List.mem_cons, List.not_mem_nil, or_false] at h
  rcases h with rfl | rfl | rfl | rfl | rfl | rfl <;> decide
end
end GG

/-! The puller's steps that the laws draw, as data. -/
namespace GG
open PySem PySem.Spec PyProof.Rows L2 TL
abbrev T2 (w n : Str) : PyData := .tuple [.str w, .str n]
/-- a step that the laws draw, of those that are no lock -/
def StepW (ns ms : List Str) (d : PyData) : Prop := (∃ w ∈ (["out", "wait", "empty", "down", "let"] : List Str), d = T1 w) ∨ (∃ m ∈ ms, d = T2 "mark" m) ∨ ∃ n ∈ ns, ∃ w ∈ (["bar", "forget", "idle"] : List Str), d = T2 w n
/-- a step that may stand there more than once -/
def RepW (d : PyData) : Prop := (∃ w ∈ (["wait", "empty"] : List Str), d = T1 w) ∨ ∃ n : Str, ∃ w ∈ (["bar", "forget", "idle"] : List Str), d = T2 w n
def StepsOk (ns ms : List Str) (ds : List PyData) : Prop := (∀ d ∈ ds, StepW ns ms d) ∧ ds.Pairwise fun a b => a = b → RepW a
/-- steps with lock and unlock put in -/
def LocksOf (ds es : List PyData) : Prop := es = ds ∨ ∃ a b c e k : List PyData, ds = (a ++ b) ++ c ∧ ((e = [] ∧ k = []) ∨ (e = [T1 "unlock"] ∧ (k = [] ∨ k = [T1 "lock"] ∨ k = [T1 "lock", T1 "unlock"]))) ∧ es = ((((a ++ [T1 "lock"]) ++ b) ++ e) ++ c) ++ k ∧ es.length ≤ 9
/-- a puller's row that the laws draw -/
def PullOk (ns ms : List Str) (es : List PyData) : Prop := ∃ ds, StepsOk ns ms ds ∧ ds.length ≤ 7 ∧ LocksOf ds es
theorem sIx_int (n d : Nat) {r : Int} (h0 : 0 ≤ r) (h1 : r ≤ n) : HT.sIx n d (some r) = r.toNat := by
  show (if r < 0 then (r + (n : Int)).toNat else min r.toNat n) = r.toNat
  rw [if_neg (by omega), Nat.min_eq_left (by omega)]
theorem cutG_lo {α : Type} (ds : List α) {r : Int} (h0 : 0 ≤ r) (h1 : r ≤ ds.length) : cutG ds none (some r) = ds.take r.toNat := by
  unfold cutG
  rw [sIx_int _ _ h0 h1, HT.sIx_none, List.drop_zero, Nat.sub_zero]
theorem cutG_hi {α : Type} (ds : List α) {r : Int} (h0 : 0 ≤ r) (h1 : r ≤ ds.length) : cutG ds (some r) none = ds.drop r.toNat := by
  unfold cutG
  rw [sIx_int _ _ h0 h1, HT.sIx_none, List.take_of_length_le (by rw [List.length_drop]; exact Nat.le_refl _)]
theorem cutG_mid {α : Type} (ds : List α) {r t : Int} (h0 : 0 ≤ r) (h1 : r ≤ t) (h2 : t ≤ ds.length) : cutG ds (some r) (some t) = (ds.drop r.toNat).take (t.toNat - r.toNat) := by
  unfold cutG
  rw [sIx_int _ _ h0 (by omega), sIx_int _ _ (by omega) h2]
theorem three_cuts {α : Type} (ds : List α) {r t : Int} (h0 : 0 ≤ r) (h1 : r ≤ t) (h2 : t ≤ ds.length) : ds = (cutG ds none (some r) ++ cutG ds (some r) (some t)) ++ cutG ds (some t) none := by
  rw [cutG_lo ds h0 (by omega), cutG_mid ds h0 h1 h2, cutG_hi ds (by omega) h2]
  have e : ds.take r.toNat ++ (ds.drop r.toNat).take (t.toNat - r.toNat) = ds.take t.toNat := by
    rw [← List.take_add]
    congr 1
    omega
  rw [e, List.take_append_drop]
section
variable {K : PySem.W.Frag} {p : Addr} {R H : Hp}
/-- a cut of a list -/
theorem sliceL {x : V} {ds : List PyData} {lo hi : Option Int} {Q : VK} (k : Rest p R H) (hx : LD K R x ds) (hq : ∀ y R' H', Go p R H R' H' → LD K R' y (cutG ds lo hi) → Q y H') : rSlL K x lo hi H Q := by
  obtain ⟨a, vs, rfl, h1, h2⟩ := hx
  exact ⟨a, vs, rfl, .inl (.inl (k.1 _ _ h1)), fun y hy => hq _ _ _ (Go.new k hy) ⟨y, _, rfl, upd_same, dpAll_same (Go.new k hy).same _ _ (dpAll_cut h2 lo hi)⟩⟩
theorem sliceLo {x : V} {ds : List PyData} {lo : Option Int} {σ : L2.St} {Q : VK} (k : Rest p R H) (hx : LD K R x ds) (hq : ∀ y R' H', Go p R H R' H' → LD K R' y (cutG ds lo none) → Q y H') : tNoPart σ H (fun u H3 => rSlL K x lo u H3 Q) := sliceL (hi := none) k hx hq
end
end GG

namespace GG
open PySem PySem.Spec PyProof.Rows L2 TL
theorem eqv_strs : ∀ xs ys : List Str, PyData.eqvAll (xs.map PyData.str) (ys.map PyData.str) = true ↔ xs = ys
  | [], [] => ⟨fun _ => rfl, fun _ => rfl⟩
  | [], y :: ys => iff_of_false (by intro h; cases h) (by intro h; cases h)
  | x :: xs, [] => iff_of_false (by intro h; cases h) (by intro h; cases h)
  | x :: xs, y :: ys => by
    show ((x == y) && PyData.eqvAll (xs.map PyData.str) (ys.map PyData.str)) = true ↔ _
    rw [Bool.and_eq_true_iff, eqv_strs xs ys, List.cons.injEq, beq_iff_eq]
theorem StepW.words {ns ms : List Str} {d : PyData} (h : StepW ns ms d) : ∃ (w : Str) (r : List Str), d = .tuple ((w :: r).map PyData.str) := by
  rcases h with ⟨w, _, rfl⟩ | ⟨m, _, rfl⟩ | ⟨n, _, w, _, rfl⟩
  · exact ⟨w, [], rfl⟩
  · exact ⟨"mark", [m], rfl⟩
  · exact ⟨w, [n], rfl⟩
theorem eqv_step {ns ms : List Str} {d e : PyData} (h : StepW ns ms d) (h' : StepW ns ms e) : PyData.eqv d e = true ↔ d = e := by
  obtain ⟨w, r, rfl⟩ := h.words
  obtain ⟨v, q, rfl⟩ := h'.words
  refine (eqv_strs (w :: r) (v :: q)).trans ⟨fun e => by rw [e], fun e => ?_⟩
  injection e with e
  exact List.map_inj_right (fun a b h => by injection h) |>.mp e
theorem step_good {ns ms : List Str} {d : PyData} (h1 : NamesOk ns) (h2 : NamesOk ms) (h : StepW ns ms d) : Good 1 d := by
  rcases h with ⟨w, hw, rfl⟩ | ⟨m, hm, rfl⟩ | ⟨n, hn, w, hw, rfl⟩
  · refine good_t (n := 0) (by show 1 ≤ 1000; decide) fun d hd => ?_
    rw [List.mem_singleton] at hd
    subst hd
    simp only [List.mem_cons, List.not_mem_nil, or_false] at hw
    rcases hw with rfl | rfl | rfl | rfl | rfl <;> exact good_word _ (by decide +kernel) 0
  · refine good_t (n := 0) (by show 2 ≤ 1000; decide) fun d hd => ?_
    rw [List.mem_cons, List.mem_singleton] at hd
    rcases hd with rfl | rfl
    · exact good_word _ (by decide +kernel) 0
    · exact good_name h2 hm 0
  · refine good_t (n := 0) (by show 2 ≤ 1000; decide) fun d hd => ?_
    rw [List.mem_cons, List.mem_singleton] at hd
    rcases hd with rfl | rfl
    · simp only [List.mem_cons, List.not_mem_nil, or_false] at hw
      rcases hw with rfl | rfl | rfl <;> exact good_word _ (by decide +kernel) 0
    · exact good_name h1 hn 0
theorem rep_of {ns ms : List Str} {w : Str} {r : List PyData} (h : StepW ns ms (.tuple (.str w :: r))) (hw : inV (.str w) [.str "wait", .str "empty", .str "bar", .str "forget", .str "idle"] = true) : RepW (.tuple (.str w :: r)) := by
  rcases h with ⟨v, hv, e⟩ | ⟨m, hm, e⟩ | ⟨n, hn, v, hv, e⟩
  · injection e with e
    injection e with e1 e2
    injection e1 with e1
    subst e1 e2
    simp only [List.mem_cons, List.not_mem_nil, or_false] at hv
    rcases hv with rfl | rfl | rfl | rfl | rfl
    · exact absurd hw (by decide +kernel)
    · exact .inl ⟨_, by decide, rfl⟩
    · exact .inl ⟨_, by decide, rfl⟩
    · exact absurd hw (by decide +kernel)
    · exact absurd hw (by decide +kernel)
  · injection e with e
    injection e with e1 e2
    injection e1 with e1
    subst e1
    exact absurd hw (by decide +kernel)
  · injection e with e
    injection e with e1 e2
    injection e1 with e1
    subst e1 e2
    exact .inr ⟨n, w, hv, rfl⟩
theorem rel_symm {a b : PyData} (h : a = b → RepW a) : b = a → RepW b := fun e => by
  subst e
  exact h rfl
theorem StepsOk.sub {ns ms : List Str} {ds es : List PyData} (h : StepsOk ns ms ds) (s : es.Sublist ds) : StepsOk ns ms es := ⟨fun d hd => h.1 d (s.subset hd), h.2.sublist s⟩
theorem StepsOk.ins {ns ms : List Str} {A B k ds : List PyData} (h : StepsOk ns ms ds) (e : A ++ B = ds) (hk : ∀ d ∈ k, StepW ns ms d) (hp : k.Pairwise fun a b => a = b → RepW a) (hx : ∀ a ∈ k, ∀ b ∈ ds, a = b → RepW a) : StepsOk ns ms ((A ++ k) ++ B) := by
  have pm : List.Perm ((A ++ k) ++ B) (k ++ ds) := by
    rw [← e, List.append_assoc]
    exact List.perm_append_comm_assoc _ _ _
  refine ⟨fun d hd => ?_, (pm.pairwise_iff (fun h => rel_symm h)).mpr (List.pairwise_append.mpr ⟨hp, h.2, hx⟩)⟩
  have hd := pm.subset hd
  rcases List.mem_append.mp hd with hd | hd
  · exact hk d hd
  · exact h.1 d hd
theorem del_sub (ds : List PyData) {r : Int} (h0 : 0 ≤ r) (h1 : r < ds.length) : (cutG ds none (some r) ++ cutG ds (some (r + 1)) none).Sublist ds ∧ (cutG ds none (some r) ++ cutG ds (some (r + 1)) none).length + 1 = ds.length := by
  rw [cutG_lo ds h0 (by omega), cutG_hi ds (by omega) (by omega)]
  constructor
  · refine (List.Sublist.append (List.Sublist.refl _) (List.drop_sublist_drop_left ds (i := r.toNat) (by omega))).trans ?_
    rw [List.take_append_drop]
    exact List.Sublist.refl _
  · rw [List.length_append, List.length_take, List.length_drop]
    omega
theorem cut_two {α : Type} (ds : List α) {r : Int} (h0 : 0 ≤ r) : cutG ds none (some r) ++ cutG ds (some r) none = ds := by
  have e : ∀ d, HT.sIx ds.length d (some r) = min r.toNat ds.length := fun d => by
    show (if r < 0 then (r + (ds.length : Int)).toNat else min r.toNat ds.length) = _
    rw [if_neg (by omega)]
  unfold cutG
  rw [e, e, HT.sIx_none, HT.sIx_none, List.drop_zero, Nat.sub_zero, List.take_of_length_le (l := ds.drop _) (by rw [List.length_drop]; exact Nat.le_refl _), List.take_append_drop]
/-- the steps that the law begins with -/
def ini (ns ms : List Str) (b : Bool) : List PyData := (((((([T1 "out"] ++ ms.map (T2 "mark")) ++ ns.map (T2 "bar")) ++ ns.map (T2 "forget")) ++ [T1 "wait"]) ++ ns.map (T2 "idle")) ++ (if b = true then [T1 "empty"] else [])) ++ [T1 "down", T1 "let"]
theorem ini_len (ns ms : List Str) (b : Bool) : 4 ≤ (ini ns ms b).length ∧ (ini ns ms b).length ≤ ms.length + 3 * ns.length + 5 := by
  unfold ini
  cases b <;> simp only [List.length_append, List.length_map, List.length_cons, List.length_nil, if_true, Bool.false_eq_true, if_false] <;> omega
theorem SOk.app {ns ms : List Str} {A B : List PyData} (h : StepsOk ns ms A) (k : StepsOk ns ms B) (hx : ∀ a ∈ A, ∀ b ∈ B, a = b → RepW a) : StepsOk ns ms (A ++ B) :=
  ⟨fun d hd => (List.mem_append.mp hd).elim (h.1 d) (k.1 d), List.pairwise_append.mpr ⟨h.2, k.2, hx⟩⟩
theorem SOk.rep {ns ms : List Str} {A B : List PyData} (h : StepsOk ns ms A) (k : ∀ d ∈ B, StepW ns ms d ∧ RepW d) : StepsOk ns ms (A ++ B) :=
  SOk.app h ⟨fun d hd => (k d hd).1, List.pairwise_of_forall_mem_list fun a ha b _ _ => (k a ha).2⟩ fun a _ b hb e => by rw [e]; exact (k b hb).2
theorem rep_names {ns ms : List Str} {w : Str} (hw : w ∈ (["bar", "forget", "idle"] : List Str)) : ∀ d ∈ ns.map (T2 w), StepW ns ms d ∧ RepW d := fun d hd => by
  obtain ⟨n, hn, rfl⟩ := List.mem_map.mp hd
  exact ⟨.inr (.inr ⟨n, hn, w, hw, rfl⟩), .inr ⟨n, w, hw, rfl⟩⟩
theorem ini_ok {ns ms : List Str} {b : Bool} (hm : ms.Nodup) : StepsOk ns ms (ini ns ms b) := by
  have h1 : StepsOk ns ms ([T1 "out"] ++ ms.map (T2 "mark")) := by
    refine SOk.app ⟨fun d hd => ?_, List.pairwise_singleton _ _⟩ ⟨fun d hd => ?_, List.pairwise_map.mpr (hm.imp fun h e => absurd (by injection e with e; injection e with _ e; injection e with e; injection e) h)⟩ fun a ha b hb e => ?_
    · rw [List.mem_singleton.mp hd]
      exact .inl ⟨"out", by decide, rfl⟩
    · obtain ⟨m, hm, rfl⟩ := List.mem_map.mp hd
      exact .inr (.inl ⟨m, hm, rfl⟩)
    · obtain ⟨m, hm, rfl⟩ := List.mem_map.mp hb
      rw [List.mem_singleton.mp ha] at e
      injection e with e
      injection e with _ e
      cases e
  have one : ∀ w ∈ (["wait", "empty"] : List Str), StepW ns ms (T1 w) ∧ RepW (T1 w) := fun w hw => by
    refine ⟨.inl ⟨w, ?_, rfl⟩, .inl ⟨w, hw, rfl⟩⟩
    simp only [List.mem_cons, List.not_mem_nil, or_false] at hw
    rcases hw with rfl | rfl <;> decide
  have h6 : StepsOk ns ms (((((([T1 "out"] ++ ms.map (T2 "mark")) ++ ns.map (T2 "bar")) ++ ns.map (T2 "forget")) ++ [T1 "wait"]) ++ ns.map (T2 "idle")) ++ (if b = true then [T1 "empty"] else [])) := by
    refine SOk.rep (SOk.rep (SOk.rep (SOk.rep (SOk.rep h1 (rep_names (by decide))) (rep_names (by decide))) fun d hd => ?_) (rep_names (by decide))) fun d hd => ?_
    · rw [List.mem_singleton.mp hd]
      exact one _ (by decide)
    · cases b with
      | true =>
        rw [if_pos rfl] at hd
        rw [List.mem_singleton.mp hd]
        exact one _ (by decide)
      | false => cases hd
  refine SOk.app h6 ⟨fun d hd => ?_, ?_⟩ fun a ha b hb e => ?_
  · rw [List.mem_cons, List.mem_singleton] at hd
    rcases hd with rfl | rfl
    · exact .inl ⟨"down", by decide, rfl⟩
    · exact .inl ⟨"let", by decide, rfl⟩
  · refine List.pairwise_pair.mpr fun e => ?_
    injection e with e
    injection e with e _
    injection e with e
    exact absurd e (by decide)
  · have hne : ∀ w ∈ (["down", "let"] : List Str), ∀ d ∈ ((((([T1 "out"] ++ ms.map (T2 "mark")) ++ ns.map (T2 "bar")) ++ ns.map (T2 "forget")) ++ [T1 "wait"]) ++ ns.map (T2 "idle")), d ≠ T1 w := by
      intro w hw d hd e
      subst e
      simp only [List.mem_append, List.mem_singleton, List.mem_map] at hd
      rcases hd with ((((h | ⟨_, _, h⟩) | ⟨_, _, h⟩) | ⟨_, _, h⟩) | h) | ⟨_, _, h⟩ <;> injection h with h <;> injection h with h h'
      · injection h with h
        subst h
        revert hw
        decide
      · cases h'
      · cases h'
      · cases h'
      · injection h with h
        subst h
        revert hw
        decide
      · cases h'
    subst e
    rcases List.mem_append.mp ha with ha | ha
    · rw [List.mem_cons, List.mem_singleton] at hb
      rcases hb with rfl | rfl
      · exact absurd rfl (hne "down" (by decide) _ ha)
      · exact absurd rfl (hne "let" (by decide) _ ha)
    · revert ha
      split
      · intro ha
        rw [List.mem_singleton.mp ha]
        exact .inl ⟨"empty", by decide, rfl⟩
      · intro ha
        cases ha
section
variable {K : PySem.W.Frag} {p : Addr} {R H : Hp}
theorem dpAll_at {vs : List V} {ds : List PyData} {i : Nat} {v : V} {d : PyData} (h : DpAll K R vs ds) (h1 : vs[i]? = some v) (h2 : ds[i]? = some d) : Dp K R v d := by
  obtain ⟨e, he, hd⟩ := dpAll_get h h1
  rw [h2] at he
  rw [Option.some.inj he]
  exact hd
theorem dpAll_mem {vs : List V} {ds : List PyData} {v : V} (h : DpAll K R vs ds) (h1 : v ∈ vs) : ∃ d, d ∈ ds ∧ Dp K R v d := by
  obtain ⟨i, hi⟩ := List.getElem?_of_mem h1
  obtain ⟨e, he, hd⟩ := dpAll_get h hi
  exact ⟨e, List.mem_of_getElem? he, hd⟩
theorem new1v {u : V} {ds : PyData} {l : Addr} (k : Rest p R H) (hu : Dp K R u ds) (hl : H l = none) : Go p R H (upd R l (.lst [u])) (upd H l (.lst [u])) ∧ LD K (upd R l (.lst [u])) (.ref l) [ds] :=
  ⟨Go.new k hl, l, _, rfl, upd_same, .cons (dp_same (Go.new (o := .lst [u]) k hl).same _ _ hu) .nil⟩
theorem cut_len1 {α : Type} (ds : List α) (b : Bool) : (cutG ds none (some (if b = true then 1 else 0))).length ≤ 1 := by
  have e : HT.sIx ds.length ds.length (some (if b = true then 1 else 0)) ≤ 1 := by
    cases b
    · show min 0 ds.length ≤ 1
      omega
    · show min 1 ds.length ≤ 1
      omega
  unfold cutG
  rw [List.length_take]
  omega
/-- the word that a step begins with -/
def headW : PyData → Str
  | .tuple (.str w :: _) => w
  | _ => ""
/-- a comprehension that keeps some of a list's data -/
theorem lc_goF {J : It} {n : Nat} {G : Hp → Prop} {Y : Nat → Hp → V → Hp → Prop} (wk : Walk J n G Y) {D : Addr} (hn : n ≤ 1000) (k : Rest p R H) (hD : H D = none) (hG : ∀ R1 H1, Go p R H R1 H1 → G H1)
    (ds : List PyData) (hdn : ds.length = n) (f : PyData → Bool) {g : TG} {tt : TT} {te : TE} {vs : List Nat} {σ : L2.St} {Qd : Hp → Prop}
    (hs : ∀ i x R1 H1 H1' d, ds[i]? = some d → Go p R H R1 H1 → Y i H1 x H1' → ∀ (C : V → Hp → Prop) (E : Hp → Prop), (∀ R2 H2 y, f d = true → Go p R1 H1 R2 H2 → Dp K R2 y d → C y H2) → (∀ R2 H2, f d = false → Go p R1 H1 R2 H2 → E H2) →
      g x (wipe σ vs) H1' fun σ2 H2 => wipe σ2 vs = wipe σ vs ∧ tt σ2 H2 fun b H3 => if b = true then te σ2 H3 C else E H3)
    (hd : ∀ R1 H1, Go p R H R1 H1 → LD K R1 (.ref D) (ds.filter f) → Qd H1) :
    ∃ W : Nat → Nat → Hp → Prop, (∃ m, W 0 m (upd H D (.lst []))) ∧ ∀ i m H, W i m H →
      (J.stop i H ∧ Qd H) ∨ (J.go i H ∧ ∃ Nx : Hp → Prop, (∀ H', Nx H' → ∃ m', m' < m ∧ W (i + 1) m' H') ∧ ∀ x H', J.yld i H x H' → g x (wipe σ vs) H' fun σ2 H2 => wipe σ2 vs = wipe σ vs ∧ tt σ2 H2 fun b H3 =>
        if b = true then te σ2 H3 fun y H4 => ∃ acc, H4 D = some (.lst acc) ∧ acc.length < sizeLine ∧ Nx (upd H4 D (.lst (acc ++ [y]))) else Nx H3) := by
  have hne := k.ne hD
  have hRD : R D = none := k.1.free hD
  refine lc_it wk (fun i H' => ∃ R1, Go p R H R1 H' ∧ R1 D = none ∧ ∃ ys : List V, H' D = some (.lst ys) ∧ DpAll K R1 ys ((ds.take i).filter f)) ?_ ?_ ?_ ?_
  · exact ⟨R, go_hid k hD, hRD, [], upd_same, .nil⟩
  · rintro i H' _ ⟨R1, g1, _⟩
    exact hG R1 H' g1
  · rintro i x H1 H1' hi ⟨R1, g1, hR1, ys, hy, hP⟩ hY
    have hlt : i < ds.length := by omega
    have hdi : ds[i]? = some ds[i] := List.getElem?_eq_getElem hlt
    have hl : ys.length ≤ 1000 := by
      have e1 := dpAll_len hP
      have e2 := List.length_filter_le f (ds.take i)
      rw [List.length_take] at e2
      omega
    refine hs i x R1 H1 H1' _ hdi g1 hY _ _ (fun R2 H2 y hf g2 hp => ⟨ys, g2.keep D hne _ hy, small1000 (by omega), R2, go_put (g1.trans g2) hD (g2.fresh D _ hy hR1) hne, g2.fresh D _ hy hR1, ys ++ [y], upd_same, ?_⟩) (fun R2 H2 hf g2 => ⟨R2, g1.trans g2, g2.fresh D _ hy hR1, ys, g2.keep D hne _ hy, ?_⟩)
    · rw [filt_snoc hdi, if_pos hf]
      exact dpAll_app (dpAll_same g2.same _ _ hP) (.cons hp .nil)
    · rw [filt_snoc hdi, hf, if_neg Bool.false_ne_true, List.append_nil]
      exact dpAll_same g2.same _ _ hP
  · rintro H1 ⟨R1, g1, hR1, ys, hy, hP⟩
    refine hd _ H1 (go_show g1 hD hR1 hne hy) ⟨D, ys, rfl, upd_same, ?_⟩
    rw [List.take_of_length_le (by omega)] at hP
    exact dpAll_same (same_upd hR1) _ _ hP
end
end GG

/-! Objects of a program's own classes: made with a star, methods whose exceptions are wished for at the caller's slots, static methods, len, places in tuples of data, counts of texts, repr of what is flat. -/
namespace OO
open PySem PySem.Spec PyProof.Rows L2
theorem pat {CX : CXT} {X : Cx} {E : XK} (h : Passes CX X E) : ∀ σ : L2.St, PassesAt CX X σ ((fun _ => E) σ) := fun σ pins H s e s' I c => h pins σ H s e s' I c
section
variable {X : Cx} {CX : CXT} {k : Nat} {f C p g : Addr} {mc : Value} {sp : Sp} {E : L2.St → XK} {x m : Str} {e o : Expr} {es : List Expr} {te ta : TE} {t : TA} {q sp_ pos apos : Pos} {pl : Sem Bool} {pins : List (Addr × Obj)} {σ : L2.St} {H : Hp} {s : Shared}
theorem run_fnRS {Q : VK} {us : List Value} {vs : List V} (F : FnR X.prog X.w X.K X.mg X.base CX k f sp) (hr : Room k X.A) (hx : PassesAt CX X σ (E σ)) (I : Inv X pins σ H s) (r : Vals vs us) (h : sp vs H Q (E σ)) :
    codeAny (model X.prog X.w) X.A (.call (.ref f) ⟨us, []⟩) (fun r s' => match r with | .ok (.ret v) => EP X pins σ Q v s' | .ok _ => False | .error e => X.xe e s') s := by
  refine codeAny_mono (F X.A X.stack s H us vs Q (E σ) hr I.env0 r h) fun r s' hq => ?_
  cases r with
  | error e => exact hx pins H s e s' I hq
  | ok fl =>
    cases fl with
    | ret u => exact I.after hq
    | next => exact False.elim hq
    | brk => exact False.elim hq
    | cont => exact False.elim hq
/-- f(e, ..) by a positional promise -/
def tCallRS (sp : Sp) (E : L2.St → XK) (t : TA) : TE := fun σ H Q => t σ H fun vs H1 => sp vs H1 Q (E σ)
theorem pe_callRS (F : FnR X.prog X.w X.K X.mg X.base CX k f sp) (hr : Room k X.A) (hg : Gl X x) (hm : X.mg x = some (.ref f)) (hk : PySem.W.keepIn X.K (.ref f) = true) (hx : ∀ σ, PassesAt CX X σ (E σ))
    (ha : PA X (e :: es) t) (hdb : (x == ("__debug__" : Str)) = false := by decide) (he : starEach (e :: es) X.env = (false, eval e X.env) :: starEach es X.env := by rfl) (hpl : (backTo pos (starEach es X.env)).any (·.1) = false := by rfl) :
    PE X (.Call (.Name x q) (e :: es) [] pos) (tCallRS sp E t) := by
  refine ⟨fun pins s σ H Q I h => ?_⟩
  refine wpAny_Call_Name_kw (ld_glob I hg hm ?_ hdb)
  refine PySem.W.callWith_K (h₀ := X.base) I.ok.mod.kin hk (thn (ha.run pos pins s σ H _ I h) fun us s1 ⟨vs, H1, I1, r, q⟩ => ⟨I1.kIn, ?_⟩) he hpl
  exact wpAny_call (run_fnRS F hr (hx σ) I1 r q)
/-- o.m(e, ..) -/
def tMethRS (C : Addr) (m : Str) (sp : Sp) (E : L2.St → XK) (ta : TE) (t : TA) : TE := fun σ H Q => ta σ H fun x H1 => ∃ a dx fs, x = .ref a ∧ H1 a = some (.ins C dx fs) ∧ fs.lookup m = none ∧ t σ H1 fun vs H2 => sp (x :: vs) H2 Q (E σ)
theorem pe_methRS (he : PE X o ta) (c : Cls X.K C) (hm : Meth X.K C m f) (F : FnR X.prog X.w X.K X.mg X.base CX k f sp) (hr : Room k X.A) (hx : ∀ σ, PassesAt CX X σ (E σ)) (ha : PA X (e :: es) t)
    (hst : starEach (e :: es) X.env = (false, eval e X.env) :: starEach es X.env := by rfl) (hpl : (backTo pos (starEach es X.env)).any (·.1) = false := by rfl)
    (ht : eval (.Call (.Attribute o m apos) (e :: es) [] pos) X.env = (do
      let ov ← eval o X.env
      standAt apos.atName
      let (f, first) ← holding [ov] (getMethod ov m pl)
      callWith pos f first (backTo pos (starEach (e :: es) X.env)) (backToKw pos (keywordEach [] X.env))) := by rfl) :
    PE X (.Call (.Attribute o m apos) (e :: es) [] pos) (tMethRS C m sp E ta t) := by
  refine ⟨fun pins s σ H Q I h => ?_⟩
  refine PySem.W.methodCall_KW (pl := pl) (thn (he.run pins s σ H _ I h) fun u s1 ⟨x, H1, I1, rx, a, dx, fs, ex, ea, l, q⟩ => ?_) ht
  subst ex
  obtain rfl : u = Value.ref a := rx
  refine getmeth_ok I1 ea c hm l ?_
  refine PySem.W.callWith_K (first := [.ref a]) (h₀ := X.base) I.ok.mod.kin hm.kp (thn (ha.run pos pins s1 σ H1 _ I1 q) fun us s2 ⟨vs, H2, I2, r, q2⟩ => ⟨I2.kIn, ?_⟩) hst hpl
  exact wpAny_call (run_fnRS (us := .ref a :: us) (vs := .ref a :: vs) F hr (hx σ) I2 (.cons rfl r) q2)
/-- C.m is a static method: its record at p, its def at g -/
structure SMet (K : PySem.W.Frag) (C : Addr) (mc : Value) (m : Str) (p g : Addr) : Prop where
  at_ : PySem.W.findCls K (.ref C) mc m = some (.get (.builtin "staticmethod.__get__") (.ref p) .none (.ref C))
  rc : ∃ rest, PySem.W.recIn K p "staticmethod" = some (.ref g :: rest)
  kp : PySem.W.keepIn K (.ref g) = true
theorem getsm_ok {A : Around} {E : Value → Shared → Prop} {b : Bool} {Q : Value → Shared → Prop} (I : Inv X pins σ H s) (r : ClX.CRead X.K C mc) (k : SMet X.K C mc m p g) (h : ∀ s', Inv X pins σ H s' → Q (.ref g) s') : wpAny (model X.prog X.w) A (getAttr (.ref C) m b) Q E s := by
  obtain ⟨rest, hp⟩ := k.rc
  refine PySem.W.cls_bind I.kIn r.rd k.at_ ?_
  exact wpAny_call (PySem.W.sm_get (s := { s with toks := s.toks + 1 }) I.kIn hp (PySem.W.handed_on rfl (h _ (I.tok _))))
/-- C.m(e, ..) -/
def tSMethS (C : Addr) (sp : Sp) (E : L2.St → XK) (ta : TE) (t : TA) : TE := fun σ H Q => ta σ H fun x H1 => x = .ref C ∧ t σ H1 fun vs H2 => sp vs H2 Q (E σ)
theorem pe_smethS (he : PE X o ta) (r : ClX.CRead X.K C mc) (c : SMet X.K C mc m p g) (F : FnR X.prog X.w X.K X.mg X.base CX k g sp) (hr : Room k X.A) (hx : ∀ σ, PassesAt CX X σ (E σ)) (ha : PA X (e :: es) t)
    (hst : starEach (e :: es) X.env = (false, eval e X.env) :: starEach es X.env := by rfl) (hpl : (backTo pos (starEach es X.env)).any (·.1) = false := by rfl)
    (ht : eval (.Call (.Attribute o m apos) (e :: es) [] pos) X.env = (do
      let ov ← eval o X.env
      standAt apos.atName
      let (f, first) ← holding [ov] (getMethod ov m pl)
      callWith pos f first (backTo pos (starEach (e :: es) X.env)) (backToKw pos (keywordEach [] X.env))) := by rfl) :
    PE X (.Call (.Attribute o m apos) (e :: es) [] pos) (tSMethS C sp E ta t) := by
  refine ⟨fun pins s σ H Q I h => ?_⟩
  refine PySem.W.methodCall_KW (pl := pl) (thn (he.run pins s σ H _ I h) fun u s1 ⟨x, H1, I1, rx, ex, q⟩ => ?_) ht
  subst ex
  obtain rfl : u = Value.ref C := rx
  refine PySem.W.method_cls I1.kIn r.ga (getsm_ok I1 r c fun s2 I2 => ?_)
  refine PySem.W.callWith_K (first := []) (h₀ := X.base) I.ok.mod.kin c.kp (thn (ha.run pos pins s2 σ H1 _ I2 q) fun us s3 ⟨vs, H2, I3, r3, q2⟩ => ⟨I3.kIn, ?_⟩) hst hpl
  exact wpAny_call (run_fnRS F hr (hx σ) I3 r3 q2)
/-- C( *y), C(e, ..), C(): by a positional promise of __init__ -/
theorem run_makeRS {Q : VK} {us : List Value} {vs : List V} (M : Mk X.K C f) (F : FnR X.prog X.w X.K X.mg X.base CX k f sp) (hr : Room (k + 1) X.A) (hx : PassesAt CX X σ (E σ)) (I : Inv X pins σ H s) (r : Vals vs us)
    (h : ∀ x dx, H x = Option.none → H dx = Option.none → dx ≠ x → sp (V.ref x :: vs) (upd (upd H dx (.own x)) x (.ins C dx [])) (fun v H2 => v = .non ∧ Q (.ref x) H2) (E σ)) :
    wpAny (model X.prog X.w) X.A (call (.ref C) us) (EP X pins σ Q) X.xe s := by
  have hq := h (s.heap.objs.size + 1) s.heap.objs.size (I.hok.fresh (Nat.le_succ _)) (I.hok.fresh (Nat.le_refl _)) (Nat.ne_of_lt (Nat.lt_succ_self _))
  have I2 := Inv.made (C := C) I
  have r2 : Vals (V.ref (s.heap.objs.size + 1) :: vs) (Value.ref (s.heap.objs.size + 1) :: us) := .cons rfl r
  refine wpAny_call (make_map (f := f) I.kIn M.makes M.init (beq_iff_eq.mp M.fn) (codeAny_mono (F _ X.stack _ _ (Value.ref (s.heap.objs.size + 1) :: us) _ _ (E σ) (hr.make C us []) (I2.env0.make C us []) r2 hq) fun r s' hq' => ?_))
  cases r with
  | error e => exact hx pins _ _ e s' I2 hq'
  | ok fl =>
    cases fl with
    | ret u =>
      obtain ⟨v, H', I3, rv, ev, q3⟩ := I2.after hq'
      subst ev
      exact ⟨rv, ⟨V.ref (s.heap.objs.size + 1), H', I3, rfl, q3⟩⟩
    | next => exact False.elim hq'
    | brk => exact False.elim hq'
    | cont => exact False.elim hq'
def tMakeRS (C : Addr) (sp : Sp) (E : L2.St → XK) (t : TA) : TE := fun σ H Q => t σ H fun vs H1 => ∀ x dx, H1 x = Option.none → H1 dx = Option.none → dx ≠ x →
  sp (V.ref x :: vs) (upd (upd H1 dx (.own x)) x (.ins C dx [])) (fun v H2 => v = .non ∧ Q (.ref x) H2) (E σ)
theorem pe_makeRS (M : Mk X.K C f) (F : FnR X.prog X.w X.K X.mg X.base CX k f sp) (hr : Room (k + 1) X.A) (hg : Gl X x) (hm : X.mg x = some (.ref C)) (hx : ∀ σ, PassesAt CX X σ (E σ)) (ha : PA X (e :: es) t) (hdb : (x == ("__debug__" : Str)) = false := by decide)
    (he : starEach (e :: es) X.env = (false, eval e X.env) :: starEach es X.env := by rfl) (hpl : (backTo pos (starEach es X.env)).any (·.1) = false := by rfl) : PE X (.Call (.Name x q) (e :: es) [] pos) (tMakeRS C sp E t) := by
  refine ⟨fun pins s σ H Q I h => ?_⟩
  refine wpAny_Call_Name_kw (ld_glob I hg hm ?_ hdb)
  refine PySem.W.callWith_K (h₀ := X.base) I.ok.mod.kin M.kp (thn (ha.run pos pins s σ H _ I h) fun us s1 ⟨vs, H1, I1, r, q⟩ => ⟨I1.kIn, ?_⟩) he hpl
  exact run_makeRS M F hr (hx σ) I1 r q
theorem pe_makeRS0 (M : Mk X.K C f) (F : FnR X.prog X.w X.K X.mg X.base CX k f sp) (hr : Room (k + 1) X.A) (hg : Gl X x) (hm : X.mg x = some (.ref C)) (hx : ∀ σ, PassesAt CX X σ (E σ)) (hdb : (x == ("__debug__" : Str)) = false := by decide) :
    PE X (.Call (.Name x q) [] [] pos) (tMakeRS C sp E tNil) := by
  refine ⟨fun pins s σ H Q I h => ?_⟩
  refine wpAny_Call_Name_kw (ld_glob I hg hm ?_ hdb)
  exact PySem.W.callWith_K0 I.kIn M.kp (run_makeRS (us := []) M F hr (hx σ) I .nil h)
def tMakeSt (K : PySem.W.Frag) (C : Addr) (sp : Sp) (E : L2.St → XK) (te : TE) : TE := fun σ H Q => te σ H fun y H1 => ∃ a xs, y = V.ref a ∧ (SqT K H1 a xs ∨ SqL K H1 a xs) ∧ ∀ x dx, H1 x = Option.none → H1 dx = Option.none → dx ≠ x →
  sp (V.ref x :: xs) (upd (upd H1 dx (.own x)) x (.ins C dx [])) (fun v H2 => v = .non ∧ Q (.ref x) H2) (E σ)
theorem pe_makeSt (M : Mk X.K C f) (F : FnR X.prog X.w X.K X.mg X.base CX k f sp) (hr : Room (k + 1) X.A) (hg : Gl X x) (hm : X.mg x = some (.ref C)) (hx : ∀ σ, PassesAt CX X σ (E σ)) (he : PE X e te) (hdb : (x == ("__debug__" : Str)) = false := by decide)
    (hst : starEach [.Starred e sp_] X.env = [(true, eval e X.env)] := by rfl) : PE X (.Call (.Name x q) [.Starred e sp_] [] pos) (tMakeSt X.K C sp E te) := by
  refine ⟨fun pins s σ H Q I h => ?_⟩
  refine wpAny_Call_Name_kw (ld_glob I hg hm ?_ hdb)
  refine PySem.W.callWith_S (h₀ := X.base) I.ok.mod.kin M.kp (thn (he.run pins s σ H _ I h) fun v s1 ⟨y, H1, I1, ry, a, xs, ey, hxs, q⟩ => ?_) hst
  subst ey
  obtain rfl : v = Value.ref a := ry
  exact StX.star_any I1 hxs fun us s2 I2 rv => ⟨I2.kIn, run_makeRS M F hr (hx σ) I2 rv q⟩
/-- len(o), o an instance of the class at C whose __len__ is the def at g -/
theorem call_lenO {E : XK} (F : FnR X.prog X.w X.K X.mg X.base CX k g sp) (hr : Room (k + 1) X.A) (hx : Passes CX X E) (hs : PySem.W.findIn X.K (.ref C) "__len__" = some (some (.ref g))) (hf : PySem.W.isFn X.K (.ref g) = true) :
    CallR X (.builtin "len") (fun xs H Q => ∃ a dx fs, xs = [V.ref a] ∧ H a = some (.ins C dx fs) ∧ sp [V.ref a] H (fun v H' => ∃ n : Nat, v = .int n ∧ n ≤ 1000 ∧ Q (.int n) H') E) := by
  intro pins s σ H xs us Q I r h
  obtain ⟨a, dx, fs, rfl, ha, h⟩ := h
  obtain ⟨u, rfl, hu⟩ := vals1 r
  obtain rfl : u = Value.ref a := hu
  obtain ⟨mA, O, _, _, _, _⟩ := ins_get I.hok ha
  obtain ⟨od, J, _⟩ := O.look
  refine Calls.call_function_entry kind_len plain_len entry_len (args_len1 _) ?_
  unfold Builtin.«len»
  refine wpAny_bind (m := oneArg "len" _) (wpAny_pure ?_)
  have r2 : Vals [V.ref a] [Value.ref a] := .cons rfl .nil
  refine wpAny_bind (m := callSpecial? (.ref a) (Str.ofString "__len__")) (PySem.W.special_fn (args := []) I.kIn J hs (beq_iff_eq.mp hf) (wpAny_call (codeAny_mono (F X.A.in1 X.stack s H [.ref a] [.ref a] _ E hr.in1 I.env0.in1 r2 h) fun r s' hq => ?_)))
  cases r with
  | error e => exact hx pins σ H s e s' I hq
  | ok fl =>
    cases fl with
    | ret u =>
      obtain ⟨v, H', I3, rv, n, ev, hn, q3⟩ := I.after hq
      subst ev
      obtain ⟨tk, eu⟩ := (show ∃ tk, u = Value.int n tk from rv)
      subst eu
      refine wpAny_bind (wpAny_holding (wpAny_pure ?_))
      refine wpAny_bind (wpAny_letGo ?_)
      show wpAny _ _ (if ((n : Nat) : Int) < 0 then _ else _) _ _ _
      rw [if_neg (by omega)]
      show wpAny _ _ (if ((n : Nat) : Int) ≥ 2 ^ 63 then _ else _) _ _ _
      rw [if_neg (by omega)]
      exact wpAny_bind (wpAny_mkInt (wpAny_pure ⟨_, rfl, .int n, H', I3.tok _, ⟨_, rfl⟩, q3⟩))
    | next => exact False.elim hq
    | brk => exact False.elim hq
    | cont => exact False.elim hq
/-! ### data in tuples -/
def rInT (K : PySem.W.Frag) : R2 := fun x y H Q => ∃ d ds, Dp K H x d ∧ Dp K H y (.tuple ds) ∧ SeqAt.shaped d = true ∧ SeqAt.shaped (.tuple ds) = true ∧ Q (.bl (ds.any fun z => PyData.eqv z d)) H
theorem op_inT (hu : X.A.units + 65 < cLine) : OpR X (compareOp .In) (rInT X.K) := by
  intro pins s σ H x y v u Q I rx ry h
  obtain ⟨d, ds, hd, he, sd, se, q⟩ := h
  obtain ⟨as, r1⟩ := Dp.reads I d x v hd rx
  obtain ⟨bs, r2⟩ := Dp.reads I (.tuple ds) y u he ry
  exact SeqAt.in_tuple_reads r2 r1 (SeqAt.canLay_of_shaped se) (SeqAt.canLay_of_shaped sd) (room_in_shaped sd hu) ⟨.bl _, H, I, rfl, q⟩
/-- t.index(x): the first place of an equal one -/
def rIndexT (K : PySem.W.Frag) : V → List V → Hp → VK → Prop := fun x xs H Q => ∃ (a : Addr) (y : V) (d : PyData) (ds : List PyData) (j : Nat) (z : PyData), x = V.ref a ∧ xs = [y] ∧ Dp K H (V.ref a) (.tuple ds) ∧ Dp K H y d ∧
  SeqAt.shaped (.tuple ds) = true ∧ SeqAt.shaped d = true ∧ ds[j]? = some z ∧ PyData.eqv z d = true ∧ (∀ (m : Nat) (z' : PyData), m < j → ds[m]? = some z' → PyData.eqv z' d = false) ∧ Q (.int (j : Nat)) H
theorem mt_tindexD (hu : X.A.units + 65 < cLine) : MtR X "tuple.index" (rIndexT X.K) := by
  intro pins s σ H x xs v us Q I rx rxs h
  obtain ⟨a, y, d, ds, j, z, rfl, rfl, hl, hy, sl, sd, hz, hzj, hno, q⟩ := h
  cases rx
  cases rxs with
  | cons ry rt =>
    rename_i uy ut
    cases rt
    obtain ⟨bs, r1⟩ := Dp.reads I d y uy hy ry
    have hxs : PyData.canLayAll0 ds = true := SeqAt.canLay_of_shaped sl
    have hroom : X.A.units + 1 + min (PyData.depthAll ds) d.depth < cLine := room_in_shaped sd hu
    cases hl with
    | tup hs ha =>
      obtain ⟨its, rv, ⟨⟨cls, dd, data, sls⟩, ho, hc, n, hdt⟩, hlen⟩ := I.tuple hs
      simp only at hc hdt
      subst hc hdt
      obtain ⟨as, h4⟩ := Dp.readsAll I ds _ its ha rv
      have hn : its.length = ds.length := SeqAt.ReadsAll.length ds its as h4
      have hmap : its.map (SeqAt.readOf s.heap) = ds := SeqAt.readsAll_map ds its as hxs h4
      have hvl := rv.length
      obtain ⟨hjd, _⟩ := List.getElem?_eq_some_iff.mp hz
      have hjl : j < its.length := by omega
      have hj : j < its.toArray.size := by simpa using hjl
      have at_ : ∀ (m : Nat) (hm : m < its.toArray.size) (z' : PyData), ds[m]? = some z' → SeqAt.readOf s.heap its.toArray[m] = z' := by
        intro m hm z' hz'
        have hml : m < its.length := by simpa using hm
        rw [← hmap, List.getElem?_map, List.getElem?_eq_getElem hml] at hz'
        have e1 : SeqAt.readOf s.heap its[m] = z' := Option.some.inj (show some (SeqAt.readOf s.heap its[m]) = some z' from hz')
        simpa using e1
      refine call_meets PySem.F.slot_tuple_index ⟨_, ho, rfl⟩ PySem.F.entry_tuple_index (PySem.F.args_tuple_index_2 _ _)
        (TI.tuple_indexAt a its.toArray n dd sls uy (fun u => PyData.eqv (SeqAt.readOf s.heap u) d) j hj ?_ ?_) ⟨ho, SeqAt.items_eqAt (vs := its.toArray) (show ReadsAll s.heap its.toArray.toList ds as from h4) r1 hxs (SeqAt.canLay_of_shaped sd) hroom, ?_⟩
      · show PyData.eqv (SeqAt.readOf s.heap its.toArray[j]) d = true
        rw [at_ j hj z hz]
        exact hzj
      · intro m hm hmj
        have hmd : m < ds.length := by omega
        have hz' : ds[m]? = some ds[m] := List.getElem?_eq_getElem hmd
        show PyData.eqv (SeqAt.readOf s.heap its.toArray[m]) d = false
        rw [at_ m hm _ hz']
        exact hno m _ hmj hz'
      · exact ⟨.int (j : Nat), H, I.tok _, ⟨_, rfl⟩, q⟩
/-- xs.count(z), texts -/
def rCntS (K : PySem.W.Frag) : V → List V → Hp → VK → Prop := fun x xs H Q => ∃ (p : Addr) (ys : List Str) (z : Str), x = .ref p ∧ xs = [.str z] ∧ SqL K H p (ys.map V.str) ∧ Q (.int (countIn (.str z) (ys.map PyData.str))) H
theorem mt_lcountS : MtR X "list.count" (rCntS X.K) := by
  intro pins s σ H x xs v us Q I rx rxs h
  obtain ⟨p, ys, z, rfl, rfl, hs, q⟩ := h
  cases rx
  obtain ⟨u, rfl, ru⟩ := rxs.one
  obtain ⟨t, rfl⟩ := ru
  obtain ⟨its, rv, pl, hlen⟩ := I.list hs
  exact count_list_strs pl.isList (strsAre_of rv) ⟨.int _, H, I.tok _, ⟨_, rfl⟩, q⟩
/-! ### repr of what is flat -/
def reprV : V → Option Str
  | .int i => some (toString i)
  | .bl b => some (if b then "True" else "False")
  | .non => some "None"
  | .str z => some (reprText z)
  | _ => none
def rRepr (xs : List V) (H : Hp) (Q : VK) : Prop := ∃ v z, xs = [v] ∧ reprV v = some z ∧ (∀ i, v = .int i → i.natAbs.log2 < 1920) ∧ (∀ y, v = .str y → (reprText y).length ≤ sizeLine) ∧ Q (.str z) H
theorem call_reprF : CallR X (.builtin "repr") rRepr := by
  intro pins s σ H xs us Q I r h
  obtain ⟨v, z, rfl, hz, hi, hs, q⟩ := h
  obtain ⟨u, rfl, hu⟩ := vals1 r
  cases v with
  | int i =>
    obtain ⟨t, rfl⟩ := hu
    cases hz
    exact PySem.P.repr_of_int (hi i rfl) ⟨.str _, H, I.tok _, ⟨_, rfl⟩, q⟩
  | bl b =>
    cases (show u = Value.bool b from hu)
    cases hz
    exact PySem.P.repr_of_bool ⟨.str _, H, I.tok _, ⟨_, rfl⟩, q⟩
  | non =>
    cases (show u = Value.none from hu)
    cases hz
    exact PySem.P.repr_of_none ⟨.str _, H, I.tok _, ⟨_, rfl⟩, q⟩
  | str y =>
    obtain ⟨t, rfl⟩ := hu
    cases hz
    exact PySem.P.repr_of_str ⟨.str _, H, I.tok _, ⟨_, rfl⟩, q⟩ (hs y rfl)
  | byt b => cases hz
  | flt b => cases hz
  | ref a => cases hz
  | ty n => cases hz
end
end OO

/-! enumerate of a tuple. -/
namespace OO
open PySem PySem.Sem
open AutoSeq1 (wpAny_loadPart')
theorem meets_enumerate_newT (l : Addr) (items : Array Value) (n : Nat) (dct : Option Addr) (sl : Array (Option Value)) :
    Meets (Builtin.«enumerate.__new__» ⟨[.type "enumerate", .ref l], []⟩) (fun _ R s => s.heap.get? l = some { cls := .type "tuple", dict := dct, data := .seq items n, slots := sl } ∧
      R (.ok (.ret (.ref (s.heap.push { cls := .type "tuple_iterator", data := .fields #[.ref l, .int 0 0] }).objs.size)))
        { s with heap := (s.heap.push { cls := .type "tuple_iterator", data := .fields #[.ref l, .int 0 0] }).push { cls := .type "enumerate", data := .fields #[.none, .bool false, .ref s.heap.objs.size, rawInt 0, .none, .none] } }) :=
  .of_wp fun prog w A R s h => by
    obtain ⟨hp, g, d, tk, os⟩ := s; obtain ⟨hl, h⟩ := h
    have hsub := sub_enumerate
    have hL : Heap.IsTuple (Shared.heap ⟨hp, g, d, tk, os⟩) l items := ⟨_, hl, rfl, n, rfl⟩
    wp_walk using wpAny_loadPart' hl
    refine wpAny_stack_any fun st => wpAny_pure ?_
    split
    · rename_i c _ _ _ _ _
      cases (c == Value.type "enumerate")
      · wp_walk using wpAny_loadPart' hl, wpAny_pyIter_tuple hL
        exact ⟨_, rfl, h⟩
      · wp_walk using wpAny_loadPart' hl, wpAny_pyIter_tuple hL
        exact ⟨_, rfl, h⟩
    · wp_walk using wpAny_loadPart' hl, wpAny_pyIter_tuple hL
      exact ⟨_, rfl, h⟩
theorem call_enumerate_tuple {prog : Program} {w : World} {A : Around} {E : Value → Shared → Prop} {s : Shared} {l : Addr} {items : Array Value} {Q : Value → Shared → Prop} (hL : s.heap.IsTuple l items)
    (h : ∀ h', IsEnum h' (s.heap.objs.size + 1) s.heap.objs.size 0 .none → h'.IsTupleIter s.heap.objs.size l 0 → h'.objs.size = s.heap.objs.size + 2 →
      (∀ b o, s.heap.get? b = some o → h'.get? b = some o) → Q (.ref (s.heap.objs.size + 1)) { s with heap := h' }) :
    wpAny (model prog w) A (call (.type "enumerate") [.ref l]) Q E s := by
  obtain ⟨⟨c, dct, dt, sl⟩, hl, hc, n, hd⟩ := hL
  replace hc : c = .type "tuple" := hc
  replace hd : dt = .seq items n := hd
  subst hc hd
  refine callType_new F.called_enumerate (by decide) (F.typeCall_enumerate_1 _) (F.newCall_enumerate_1 _) (fun obj => F.args_object_init_2 obj _) F.entry_enumerate_new
    (meets_enumerate_newT l items n dct sl) ⟨hl, ?_⟩
  have hz : (s.heap.push { cls := .type "tuple_iterator", data := .fields #[.ref l, .int 0 0] }).objs.size = s.heap.objs.size + 1 := Heap.size_push ..
  show _ ∧ _
  rw [hz]
  have he : IsEnum ((s.heap.push { cls := .type "tuple_iterator", data := .fields #[.ref l, .int 0 0] }).push
      { cls := .type "enumerate", data := .fields #[.none, .bool false, .ref s.heap.objs.size, rawInt 0, .none, .none] }) (s.heap.objs.size + 1) s.heap.objs.size 0 .none := by
    have := Heap.get?_push_size (s.heap.push { cls := .type "tuple_iterator", data := .fields #[.ref l, .int 0 0] })
      (o := { cls := .type "enumerate", data := .fields #[.none, .bool false, .ref s.heap.objs.size, rawInt 0, .none, .none] }) rfl
    rw [hz] at this; exact this
  refine ⟨⟨_, he, rfl⟩, h _ he ⟨_, Heap.get?_push_of_some _ (Heap.get?_push_size _ rfl), rfl, rfl⟩ (by rw [Heap.size_push, hz]) fun b o x => Heap.get?_push_of_some _ (Heap.get?_push_of_some _ x)⟩
end OO
namespace OO
open PySem PySem.Spec PyProof.Rows L2
/-- the tuple at a, each item in a new pair -/
def IteT (K : PySem.W.Frag) (a : Addr) : It :=
  ⟨fun i H => ∃ (xs : List V) (x : V), SqT K H a xs ∧ xs[i]? = some x, fun i H v H' => ∃ T x, v = .ref T ∧ H T = none ∧ H' = upd H T (.tup [.int (i : Nat), x]) ∧ ∀ xs, SqT K H a xs → xs[i]? = some x, fun i H => ∃ xs : List V, SqT K H a xs ∧ xs.length ≤ i⟩
theorem tupIter_ne {h : Heap} {a it : Addr} {i : Nat} {its : Array Value} (p : h.IsTuple a its) (q : h.IsTupleIter it a i) : a ≠ it := fun z => by
  obtain ⟨o, ho, hc, _⟩ := p
  obtain ⟨o2, ho2, hc2, _⟩ := q
  rw [z, ho2] at ho
  have := Option.some.inj ho
  subst this
  rw [hc2] at hc
  exact absurd hc (by decide)
theorem enum_ne {h : Heap} {a e it : Addr} {i : Int} {old : Value} {its : Array Value} (p : h.IsTuple a its) (q : IsEnum h e it i old) : e ≠ a := fun z => by
  obtain ⟨o, ho, hc, _⟩ := p
  rw [← z, q] at ho
  have := Option.some.inj ho
  subst this
  exact absurd (Value.type.inj hc) (by decide)
theorem turn_enumT {P : Program} {w : World} {K : PySem.W.Frag} {elts : List Expr} {kk : Nat} {tpos : Pos} (a e it : Addr) :
    Turn P w K (.Tuple elts kk tpos) (IteT K a) [e, it] e (fun i h => (∃ old, IsEnum h e it ((i : Nat) : Int) old) ∧ h.IsTupleIter it a i ∧ e ≠ it) where
  mem := by simp
  obj := fun i h st b hb => by
    obtain ⟨⟨old, he⟩, ⟨o, ho, hc, hd⟩, _⟩ := st
    have e' : b = e ∨ b = it := by simpa using hb
    rcases e' with z | z
    · rw [z]; exact ⟨_, he, fun v q => nomatch q⟩
    · rw [z]; exact ⟨o, ho, fun v q => by rw [hd] at q; cases q⟩
  keep := fun i h h' st k => let ⟨⟨old, he⟩, hi, hne⟩ := st; ⟨⟨old, k e (by simp) _ he⟩, hi.at fun o q => k it (by simp) o q, hne⟩
  item := by
    intro X hP hw hK hc i pins s σ H E I hf st hg
    subst hP hw hK
    obtain ⟨⟨old, he⟩, hit, hne⟩ := st
    obtain ⟨xs, x, hq, hx⟩ := hg
    obtain ⟨its, rv, p, hz⟩ := I.tuple hq
    obtain ⟨u, hu, ru⟩ := rv.get hx
    have hel : e < s.heap.objs.size := Heap.lt_size he
    have hil : it < s.heap.objs.size := by obtain ⟨_, q, _⟩ := hit; exact Heap.lt_size q
    have hat := tupIter_ne p hit
    have hlt : i < its.toArray.size := by
      have := (List.getElem?_eq_some_iff.mp hu).1
      simpa using this
    refine wpAny_pyNext_enum_itemD (Draws.tuple (A := X.A.in1) (show X.A.in1.handled = none from I.ok.hd hc) it a hat its.toArray) he ⟨hit, p⟩ hlt hne (by
      have := enum_ne p he
      simp [hne, this]) fun x' h' tk hx' ho st' hT hsz hk => ?_
    have hit' := st'.1
    have ex : x' = u := by
      have h1 : its[i]? = some x' := by simpa using hx'
      exact Option.some.inj (h1.symm.trans hu)
    subst ex
    refine ⟨_, rfl, wpAny_letOwnedTupleGo_enum (s := { s with heap := h', toks := tk + 1 }) ho fun h'' he' sb => ?_⟩
    have hT2 : h''.get? s.heap.objs.size = some { cls := .type "tuple", data := .seq #[.int i tk, x'] } := (sb.2 _ (Nat.ne_of_gt hel)).trans hT
    have new : ObjOk X.prog X.w (upd H s.heap.objs.size (.tup [.int (i : Nat), x])) h'' s.heap.objs.size (.tup [.int (i : Nat), x]) :=
      ⟨by show 2 ≤ sizeLine; decide, [.int i tk, x'], .cons ⟨_, rfl⟩ (.cons ru .nil), ⟨_, hT2, rfl, _, rfl⟩⟩
    have I1 : Inv X pins σ (upd H s.heap.objs.size (.tup [.int (i : Nat), x])) { s with heap := h'', toks := tk + 1 } :=
      I.turnedNew (ch := [e, it]) (fun b ob hb q => (sb.2 b (fun z => hb (by simp [z]))).trans (hk b ob (fun z => hb (by simp [z])) (fun z => hb (by simp [z])) q)) hf (Nat.le_refl _) new
    refine ⟨.ref s.heap.objs.size, _, I1, rfl, ⟨_, x, rfl, I.hok.fresh (Nat.le_refl _), rfl, fun ys hy => by rw [I.tuple_inj hy hq]; exact hx⟩, ⟨⟨x', ?_⟩, hit'.at fun o q => (sb.2 it (Ne.symm hne)).trans q, hne⟩, fun b hb => ?_⟩
    · have e1 : ((i + 1 : Nat) : Int) = (i : Int) + 1 := by omega
      rw [e1]; exact he'
    · have hb' : b < s.heap.objs.size := by
        have e' : b = e ∨ b = it := by simpa using hb
        rcases e' with z | z
        · rw [z]; exact hel
        · rw [z]; exact hil
      rw [upd_ne (Nat.ne_of_lt hb')]
      exact (hf b hb).1
  done := by
    intro X hP hw hK hc i pins s σ H E I hf st hg
    subst hP hw hK
    obtain ⟨⟨old, he⟩, hit, hne⟩ := st
    obtain ⟨xs, hq, hx⟩ := hg
    obtain ⟨its, rv, p, hz⟩ := I.tuple hq
    obtain ⟨f0, f1, f2, f3, f4, f5⟩ := hf it (by simp)
    have hl := rv.length
    have hat := tupIter_ne p hit
    have hh : X.A.in1.handled = none := I.ok.hd hc
    have hT : s.TypeIs (.ref e) "enumerate" := ⟨_, he, rfl⟩
    show wpAny _ _ (pyNext (.ref e)) _ _ _
    unfold pyNext
    refine wpAny_bind (wpAny_attempt (wpAny_callSpecial?_slot (name := Str.ofString "__next__") hT F.slot_enumerate_next
      (wpAny_call_entry F.slot_enumerate_next hT F.entry_enumerate_next ?_ (F.args_enumerate_next_1 _))))
    show wpAny _ _ (field (.ref e) 2 >>= _) _ _ _
    refine wpAny_bind (wpAny_field he rfl (x := .ref it) rfl ?_)
    refine wpAny_bind (wpAny_nextOf_tuple_end hh hit p (by simp; omega) fun h' x eb hx' => ?_)
    obtain ⟨o, ho, hcl⟩ := hx'
    refine wpAny_bind (wpAny_isInstance (T := "StopIteration") (b := true) ⟨o, ho, hcl⟩ isSubtype_stop ?_)
    exact wpAny_pure ⟨rfl, I.turned (t' := s.toks) (fun b o hb q => eb b o hb q) f0 f1 f3 f4 f5⟩
  self := fun A i s Q E st h => let ⟨⟨_, he⟩, _⟩ := st; wpAny_pyIter_enum he h
def iEnumT (K : PySem.W.Frag) (ta : TA) : TI := fun σ H R => ta σ H fun vs H1 => ∃ a xs, vs = [.ref a] ∧ SqT K H1 a xs ∧ R (IteT K a) H1
theorem pi_enumT {X : Cx} {e : Expr} {ta : TA} {p pos tpos : Pos} {elts : List Expr} {kk : Nat} (hg : Gl X "enumerate") (hm : X.mg "enumerate" = none) (ha : PA X [e] ta) (hs : starEach [e] X.env = [(false, eval e X.env)] := by rfl) :
    PI X (.Tuple elts kk tpos) (.Call (.Name "enumerate" p) [e] [] pos) (iEnumT X.K ta) := by
  refine ⟨fun pins s σ H R I h => ?_⟩
  refine Call_ (ld_blt I hg hm boot_enumerate (PyProof.Rows.callWith_type1 (thn (ha.run pos pins s σ H _ I h) fun us s1 ⟨vs, H1, I1, r1, q1⟩ => ?_) hs rfl))
  obtain ⟨a, xs, ex, hq, q⟩ := q1
  subst ex
  cases r1 with
  | cons r rr =>
    cases rr
    cases r
    obtain ⟨its, rv, p', hz⟩ := I1.tuple hq
    refine call_enumerate_tuple p' fun h' he hit hsz hk => wpAny_pyIter_enum he ?_
    have I2 : Inv X pins σ H1 { s1 with heap := h' } := I1.kept (t' := s1.toks) hk
    refine ⟨s1.heap.objs.size + 1, [s1.heap.objs.size + 1, s1.heap.objs.size], _, _, H1, rfl, I2, turn_enumT a (s1.heap.objs.size + 1) s1.heap.objs.size, ⟨⟨.none, he⟩, hit, Nat.succ_ne_self _⟩, fun b hb => ?_, q⟩
    have e' : b = s1.heap.objs.size + 1 ∨ b = s1.heap.objs.size := by simpa using hb
    have hle : s1.heap.objs.size ≤ b := by
      rcases e' with z | z
      · rw [z]; exact Nat.le_add_right _ _
      · rw [z]; exact Nat.le_refl _
    exact I1.fpOk hle (I1.hok.fresh hle)
theorem walk_enumT {K : PySem.W.Frag} {a : Addr} {xs : List V} : Walk (IteT K a) xs.length (fun H => SqT K H a xs) (YPair (fun i => some (.int (i : Nat))) (fun i => xs[i]?)) := by
  refine ⟨fun i _ hi q => ⟨xs, xs[i], q, by simp [hi]⟩, fun _ q => ⟨xs, q, Nat.le_refl _⟩, fun i H v H' _ q y => ?_⟩
  obtain ⟨T, x, h1, h2, h3, h4⟩ := y
  exact ⟨T, .int (i : Nat), x, h1, h2, h3, rfl, h4 xs q⟩
end OO

/-! Error classes of a program's own that store what they are made of: made and raised, their field read off where they are caught. -/
namespace OO
open PySem PySem.Spec PyProof.Rows L2 GG
structure ExT (K : PySem.W.Frag) (mg : Str → Option Value) (nm fld : Str) (S fI : Addr) : Prop where
  g : mg nm = some (.ref S)
  o : OexC K S
  no : PySem.W.findIn K (.ref S) fld = some none
  x : XfC K S
  i : PySem.W.findIn K (.ref S) "__init__" = some (some (.ref fI))
  t : PySem.W.typeIn K (.ref fI) = some (.type "function")
  te : PySem.W.exmOne K (.ref S) (.ref S) = some true
def spExI (S : Addr) (fld : Str) : Sp := fun vs H Q _ => ∃ (a : Addr) (v : V), vs = [.ref a, v] ∧ H a = some (exo a S none) ∧ ∀ dx, H dx = none → dx ≠ a → Q .non (upd (upd H dx (exd dx [(fld, v)])) a (exo a S (some dx)))
theorem mko {S : Addr} {fld : Str} {v : V} {H1 : Hp} {Q : XK} (q : ∀ (d : Addr) (H' : Hp), H1 d = none → Same H1 H' → H' d = some (.xd [(fld, v)]) → Q (.ref S) (some d) H') :
    [v].length ≤ 1000 ∧ ∀ a, H1 a = none → spExI S fld (.ref a :: ([v] ++ [])) (upd H1 a (exo a S none))
      (fun v' H2 => v' = .non ∧ ∃ (d : Addr) (fs : List (Str × V)), H2 a = some (exo a S (some d)) ∧ H2 d = some (exd d fs) ∧ H1 d = none ∧ Q (.ref S) (some d) (upd (del H2 a) d (.xd fs))) (fun _ _ _ => False) := by
  refine ⟨by show 1 ≤ 1000; decide, fun a ha => ⟨a, v, rfl, upd_same, fun dx hdx hne => ?_⟩⟩
  have hd : H1 dx = none := by
    rw [upd_ne hne] at hdx
    exact hdx
  refine ⟨rfl, dx, [(fld, v)], upd_same, by rw [upd_ne hne]; exact upd_same, hd, q dx _ hd (fun b o e => ?_) upd_same⟩
  have h1 : b ≠ dx := ne_of_none e hd
  have h2 : b ≠ a := ne_of_none e ha
  rw [upd_ne h1, del_ne h2, upd_ne h2, upd_ne h1, upd_ne h2]
  exact e
/-- what is known of the class, in one fact for each part -/
theorem exT_of {K : PySem.W.Frag} {h : Heap} {mg : Str → Option Value} {nm fld : Str} {S fI : Addr} (X : K.In h) (G : h.Ns mainGlobals mg) {nn q : Str} {N : Addr} {bs bm : List Value} {sn : List Str} {sub : List Value} {ab : Bool} {col : Option Bool} {dd : Option Addr} {k0 k1 k2 k3 k5 : Option Value}
    (a : PySem.W.nsIn K mainGlobals nm = some (some (.ref S))) (l : K.lookup S = some (excClassObj nn q S N bs bm true sn sub ab col dd k0 k1 k2 k3 k5 "ValueError.__new__")) (hb : PySem.HandSPX.refsVE bm = true)
    (sa : PySem.W.findIn K (.ref S) "__setattr__" = some (some (.builtin "object.__setattr__"))) (ex : PySem.W.subIn K (.ref S) (.type "BaseException") = some true) (ty : PySem.W.typeIn K (.ref S) = some (.type "type")) (kp : PySem.W.keepIn K (.ref S) = true)
    (no : PySem.W.findIn K (.ref S) fld = some none) (ga : PySem.W.findIn K (.ref S) "__getattribute__" = some (some (.builtin "BaseException.__getattribute__"))) (gg : PySem.W.findIn K (.ref S) "__getattr__" = some none) (hd : PySem.W.hasDictIn K S = true)
    (i : PySem.W.findIn K (.ref S) "__init__" = some (some (.ref fI))) (t : PySem.W.typeIn K (.ref fI) = some (.type "function")) (ic : PySem.W.isClsIn K S = true) (ss : PySem.W.subIn K (.ref S) (.ref S) = some true) : ExT K mg nm fld S fI where
  g := PySem.W.mg_of X G a
  o := ⟨⟨_, _, _, _, _, _, _, _, _, _, _, _, _, _, _, l, hb⟩, sa, ex, ty, kp⟩
  no := no
  x := ⟨ga, gg, ex, hd⟩
  i := i
  t := t
  te := by
    have e1 : (PySem.W.subIn K (.ref S) (.type "BaseException") == some true) = true := by rw [ex] <;> rfl
    have e2 : ((PySem.W.clsIn K S).isSome && PySem.W.typeIn K (.ref S) == some (.type "type")) = true := by
      have h2' : (PySem.W.clsIn K S).isSome = true := ic
      rw [h2', ty] <;> rfl
    show (if (PySem.W.subIn K (.ref S) (.type "BaseException") == some true) = true then (if ((PySem.W.clsIn K S).isSome && PySem.W.typeIn K (.ref S) == some (.type "type")) = true then PySem.W.subIn K (.ref S) (.ref S) else none) else none) = some true
    rw [if_pos e1, if_pos e2]
    exact ss
/-- at x: an instance of the class at C with such attributes -/
def At (C : Addr) (H : Hp) (x : Addr) (fs : List (Str × V)) : Prop := ∃ dx, H x = some (.ins C dx fs)
theorem At.same {C : Addr} {H H' : Hp} {x : Addr} {fs : List (Str × V)} (h : At C H x fs) (s : Same H H') : At C H' x fs := by
  obtain ⟨dx, h⟩ := h
  exact ⟨dx, s _ _ h⟩
end OO

/-! Defs with a star parameter as they stand in the text. -/
namespace OO
open PySem PySem.Spec PyProof.Rows L2 GG
/-! ### data apart from an object that is changed -/
theorem rd_keep {x : Addr} {H H' : Hp} {C dx : Addr} {fs : List (Str × V)} (k : Keep x H H') (hx : H x = some (.ins C dx fs)) {a : Addr} {o : HO} (ho : ∀ C dx fs, o ≠ .ins C dx fs) (h : Rd H a o) : Rd H' a o := by
  rcases h with h | ⟨u, h⟩
  · refine .inl (k a (fun e => ?_) _ h)
    rw [e, hx] at h
    exact ho _ _ _ (Option.some.inj h).symm
  · refine .inr ⟨u, k a (fun e => ?_) _ h⟩
    rw [e, hx] at h
    cases h
mutual
theorem dp_keep {K : PySem.W.Frag} {x : Addr} {H H' : Hp} {C dx : Addr} {fs : List (Str × V)} (k : Keep x H H') (hx : H x = some (.ins C dx fs)) : ∀ (d : PyData) (v : V), Dp K H v d → Dp K H' v d
  | .none, _, h => by cases h; exact .non
  | .bool b, _, h => by cases h; exact .bl b
  | .int i, _, h => by cases h; exact .int i
  | .str z, _, h => by cases h; exact .str z
  | .list ds, _, h => by
    cases h with
    | lst hs ha => exact .lst (hs.elim (fun z => .inl (rd_keep k hx (fun _ _ _ e => by cases e) z)) .inr) (dpAll_keep k hx ds _ ha)
  | .tuple ds, _, h => by
    cases h with
    | tup hs ha => exact .tup (hs.elim (fun z => .inl (rd_keep k hx (fun _ _ _ e => by cases e) z)) .inr) (dpAll_keep k hx ds _ ha)
  | .dict _, _, h => by cases h
theorem dpAll_keep {K : PySem.W.Frag} {x : Addr} {H H' : Hp} {C dx : Addr} {fs : List (Str × V)} (k : Keep x H H') (hx : H x = some (.ins C dx fs)) : ∀ (ds : List PyData) (vs : List V), DpAll K H vs ds → DpAll K H' vs ds
  | [], _, h => by cases h; exact .nil
  | d :: ds, _, h => by
    cases h with
    | cons h1 h2 => exact .cons (dp_keep k hx d _ h1) (dpAll_keep k hx ds _ h2)
end
theorem val_keep {K : PySem.W.Frag} {x : Addr} {H H' : Hp} {C dx : Addr} {fs : List (Str × V)} {v : V} {d : PyData} (h : Val K H v d) (k : Keep x H H') (hx : H x = some (.ins C dx fs)) : Val K H' v d := by
  rcases h with ⟨h, g⟩ | ⟨rfl, a, kvs, rfl, h⟩
  · exact .inl ⟨dp_keep k hx d v h, g⟩
  · refine .inr ⟨rfl, a, kvs, rfl, k a (fun e => ?_) _ h⟩
    rw [e, hx] at h
    cases h
/-- the promise of a def f(a, .., *v), told of its positional arguments; the tuple of what is left over is known as the object it is -/
def spStar (n : Nat) (sp : Sp) : Sp := fun vs H Q E => ∃ ws rest, vs = ws ++ rest ∧ ws.length = n ∧ rest.length ≤ sizeLine ∧ ∀ (p : Addr) (ob : Obj), H p = none → ob.cls = .type "tuple" → ob.dict = none → sp (ws ++ [V.ref p]) (upd H p (.frz ob (.tup rest))) Q E
section
variable {P : Program} {w : World} {K : PySem.W.Frag} {mg : Str → Option Value} {base : Heap}
/-- a def whose arguments beyond the first ones go into a tuple, by the facts of its record -/
theorem star_raw {CX : CXT} {k : Nat} {f : Addr} {nm ql : Str} {pa : Arguments} {bd : List Stmt} {sc : Scope} {v1 v2 v3 v4 v5 v6 v7 : Value} {o1 o2 : Option Addr} {sl : Array (Option Value)} {N qs : List Str} {sp : Sp} {pv : Str}
    (hl : K.lookup f = some ⟨v7, o2, .func (PySem.W.fnOf nm ql pa bd sc v1 v2 v3 v4 o1 v5 v6), sl⟩) (hc : PySem.W.codeIn K v5 ql = true) (S : FnScope N (qs ++ [pv]) sc) (up : StX.CXUp CX)
    (hb : ∀ fst rst : List Value, fst.length = qs.length → bindArgs (PySem.W.fnOf nm ql pa bd sc v1 v2 v3 v4 o1 v5 v6) ⟨fst ++ rst, []⟩ = (newTuple rst >>= fun t => pure (qs.zip fst ++ [(pv, t)])))
    (body : ∀ (A : Around) (outer : List Env) (s : Shared) (H : Hp) (vs : List V) (Q : VK) (E : XK), Room k (A.deeper (envOfC ql sc s.heap.objs.size f v5)) → sp vs H Q E →
      ∃ t, PSs (cxOf CX P w K mg base N ql sc f v5 A outer s H E) bd t ∧ t { nx := fun _ H' => Q .non H', rt := Q } (start N vs) H) :
    FnR P w K mg base CX (k + 1) f (spStar qs.length sp) := by
  rintro A outer s H all _ Q E room e0 rel ⟨ws, rst, rfl, len, fits, want⟩
  obtain ⟨fst, snd, rfl, rel1, rel2⟩ := StX.vals_split rel
  have lfst : fst.length = qs.length := rel1.length.symm.trans len
  have fits2 : snd.length ≤ sizeLine := rel2.length ▸ fits
  have nw : H s.heap.objs.size = none := e0.hok.fresh (Nat.le_refl _)
  refine StX.run_bnd hl hc S room e0 (G := fun xs Hx => ∃ (p : Addr) (ob : Obj), H p = none ∧ ob.cls = .type "tuple" ∧ ob.dict = none ∧ xs = ws ++ [V.ref p] ∧ Hx = upd H p (.frz ob (.tup rst))) ?_ ?_
  · intro A' Ex Q' good
    rw [hb fst snd lfst]
    refine wpAny_bind (wpAny_newTuple (wpAny_pure ?_) fits2)
    have at_ : (s.heap.push ({ cls := .type "tuple", data := .seq snd.toArray } : Obj)).get? s.heap.objs.size = some ({ cls := .type "tuple", data := .seq snd.toArray } : Obj) := Heap.get?_push_size _ rfl
    have un := StX.un_laid (fs := frs outer) (s := s) (o := ({ cls := .type "tuple", data := .seq snd.toArray } : Obj)) (u := .frz ({ cls := .type "tuple", data := .seq snd.toArray } : Obj) (.tup rst)) nw
    have fine := good _ _ (ws ++ [V.ref s.heap.objs.size]) (fst ++ [Value.ref s.heap.objs.size]) (StX.env0_laid (u := .frz ({ cls := .type "tuple", data := .seq snd.toArray } : Obj) (.tup rst)) e0 ⟨at_, fits, snd, rel2, ⟨_, at_, rfl, _, rfl⟩⟩) un rfl
      (fun e s' => up outer s H _ _ E e s' un (fun _ _ z => Heap.get?_push_of_some _ z) rfl) (rel1.append (.cons rfl .nil)) (by simp only [List.length_append, List.length_singleton, len]) ⟨_, _, nw, rfl, rfl, rfl, rfl⟩
    rwa [List.zip_append lfst.symm] at fine
  · rintro s2 _ _ ⟨p, ob, np, hcl, hd, rfl, rfl⟩ room'
    exact body A outer s2 _ _ Q E room' (want p ob np hcl hd)
theorem Fun.star1 {CX : CXT} {x ql : Str} {st : Stmt} {f : Addr} {fd : FuncData} {N : List Str} {p1 pv : Str} {k : Nat} {sp : Sp} (F : Fun K x ql st f fd) (S : FnScope N [p1, pv] (defScope st)) (up : StX.CXUp CX)
    (h0 : ∀ (b c d : Value) (e : Option Addr) (g h u : Value), bindArgs (PySem.W.fnOf x ql (defArgs st) (defBody st) (defScope st) .none b c d e g h) ⟨[u], []⟩ = (newTuple [] >>= fun t => pure [(p1, u), (pv, t)]))
    (h1 : ∀ (b c d : Value) (e : Option Addr) (g h u r : Value) (rs : List Value), bindArgs (PySem.W.fnOf x ql (defArgs st) (defBody st) (defScope st) .none b c d e g h) ⟨u :: r :: rs, []⟩ = (newTuple (r :: rs) >>= fun t => pure [(p1, u), (pv, t)]))
    (body : ∀ (cd : Value) (A : Around) (outer : List Env) (s : Shared) (H : Hp) (vs : List V) (Q : VK) (E : XK), Room k (A.deeper (envOfC ql (defScope st) s.heap.objs.size f cd)) → sp vs H Q E →
      ∃ t, PSs (cxOf CX P w K mg base N ql (defScope st) f cd A outer s H E) (defBody st) t ∧ t { nx := fun _ H' => Q .non H', rt := Q } (start N vs) H) :
    FnR P w K mg base CX (k + 1) f (spStar 1 sp) := by
  obtain ⟨oc, od, b, c, d, e, g, h, osl, rfl, lk, hcd⟩ := F.ex
  exact star_raw (qs := [p1]) lk hcd S up (StX.bind_star1 (B := fun us => bindArgs (PySem.W.fnOf x ql (defArgs st) (defBody st) (defScope st) .none b c d e g h) ⟨us, []⟩) (h0 b c d e g h) (h1 b c d e g h)) (body g)
theorem Fun.star2 {CX : CXT} {x ql : Str} {st : Stmt} {f : Addr} {fd : FuncData} {N : List Str} {p1 p2 pv : Str} {k : Nat} {sp : Sp} (F : Fun K x ql st f fd) (S : FnScope N [p1, p2, pv] (defScope st)) (up : StX.CXUp CX)
    (h0 : ∀ (b c d : Value) (e : Option Addr) (g h u v : Value), bindArgs (PySem.W.fnOf x ql (defArgs st) (defBody st) (defScope st) .none b c d e g h) ⟨[u, v], []⟩ = (newTuple [] >>= fun t => pure [(p1, u), (p2, v), (pv, t)]))
    (h1 : ∀ (b c d : Value) (e : Option Addr) (g h u v r : Value) (rs : List Value), bindArgs (PySem.W.fnOf x ql (defArgs st) (defBody st) (defScope st) .none b c d e g h) ⟨u :: v :: r :: rs, []⟩ = (newTuple (r :: rs) >>= fun t => pure [(p1, u), (p2, v), (pv, t)]))
    (body : ∀ (cd : Value) (A : Around) (outer : List Env) (s : Shared) (H : Hp) (vs : List V) (Q : VK) (E : XK), Room k (A.deeper (envOfC ql (defScope st) s.heap.objs.size f cd)) → sp vs H Q E →
      ∃ t, PSs (cxOf CX P w K mg base N ql (defScope st) f cd A outer s H E) (defBody st) t ∧ t { nx := fun _ H' => Q .non H', rt := Q } (start N vs) H) :
    FnR P w K mg base CX (k + 1) f (spStar 2 sp) := by
  obtain ⟨oc, od, b, c, d, e, g, h, osl, rfl, lk, hcd⟩ := F.ex
  exact star_raw (qs := [p1, p2]) lk hcd S up (StX.bind_star2 (B := fun us => bindArgs (PySem.W.fnOf x ql (defArgs st) (defBody st) (defScope st) .none b c d e g h) ⟨us, []⟩) (h0 b c d e g h) (h1 b c d e g h)) (body g)
/-- t.m(e), t a tuple that is known as the object it is -/
def tTupM (r : V → List V → Hp → VK → Prop) (to : TE) (t : TA) : TE := fun σ H Q => to σ H fun x H1 => ∃ (p : Addr) (ob : Obj) (ys : List V), x = .ref p ∧ H1 p = some (.frz ob (.tup ys)) ∧ ob.cls = .type "tuple" ∧ ob.dict = none ∧ t σ H1 fun vs H2 => r x vs H2 Q
theorem pe_tupM {X : Cx} {nm : Str} {id : String} {r : V → List V → Hp → VK → Prop} {o e : Expr} {es : List Expr} {to : TE} {t : TA} {ap cp : Pos} (slot : Slot "tuple" nm id) (ty : typeOf (.builtin id) = pure (.type "method_descriptor")) (hm : MtR X id r) (ho : PE X o to) (ha : PA X (e :: es) t)
    (h1 : attributeBase o nm X.env (eval o X.env) = eval o X.env := by rfl)
    (h2 : ((backTo cp (starEach (e :: es) X.env)).all (fun x => !x.1) && (backToKw cp (keywordEach [] X.env)).all (fun x => x.1.isSome) && decide ((e :: es).length + ([] : List Keyword).length + (if ([] : List Keyword).isEmpty then 0 else 1) < 30)) = true := by rfl)
    (h3 : (ap.endLine == cp.line) = true := by rfl) (h4 : starEach (e :: es) X.env = (false, eval e X.env) :: starEach es X.env := by rfl) (h5 : (backTo cp (starEach es X.env)).any (·.1) = false := by rfl) :
    PE X (.Call (.Attribute o nm ap) (e :: es) [] cp) (tTupM r to t) := by
  refine ⟨fun pins s σ H Q I h => wpAny_Call_method_late h1 h2 h3 rfl (thn (ho.run pins s σ H _ I h) ?_)⟩
  rintro v s1 ⟨x, H1, I1, rx, p, ob, ys, rfl, hp, hcl, hd, q⟩
  cases (show v = Value.ref p from rx)
  obtain ⟨hg, _⟩ := (show ObjOk X.prog X.w H1 s1.heap p (.frz ob (.tup ys)) from I1.hok p _ hp)
  refine ⟨"tuple", id, PySem.F.plainAttrs_tuple, slot, ty, ⟨ob, hg, hcl⟩, fun a ea => ?_, ?_⟩
  · cases ea
    exact ⟨ob, hg, hd⟩
  have z := ha.run cp pins s1 σ H1 _ I1 q
  rw [h4] at z ⊢
  refine Calls.callWith_builtin (by show (false || (backTo cp (starEach es X.env)).any (·.1)) = false; rw [h5]; rfl) (Calls.evalArgs_plain (thn z ?_))
  rintro us s2 ⟨vs, H2, I2, rv, q2⟩
  exact hm pins s2 σ H2 (.ref p) vs (.ref p) us Q I2 rfl rv q2
/-- what is raised in a callee passes out of the def -/
theorem passX {X : Cx} {E : XK} (tk : Takes X (fun cls d _ H => E cls d H)) : Passes (L2.CX X.prog X.w) X E := passes_call tk fun _ _ _ _ h => h
end
end OO

/-! Promises of defs that are called where no object is being written out (A.guards = some []): so repr of containers may be asked. -/
namespace OO
open PySem PySem.Spec PyProof.Rows L2 TL GG
/-- as FnOk, where nothing is being written out -/
structure FnG (P : Program) (w : World) (K : PySem.W.Frag) (mg : Str → Option Value) (base : Heap) (CX : CXT) (k : Nat) (f : Addr) (fd : FuncData) (ps : List Str) (sp : Sp) : Prop where
  num : ∀ xs G R Y, sp xs G R Y → xs.length = ps.length
  go : ∀ (B : Around) (out : List Env) (st : Shared) (G : Hp) (as : Args) (ws : List Value) (xs : List V) (R : VK) (Y : XK), Room k B → B.guards = some [] → Env0 P w K mg base B out st G → BindsTo st fd as (ps.zip ws) → Vals xs ws →
    sp xs G R Y → codeAny (model P w) B (.call (.ref f) as) (CR CX out P w G st R Y) st
theorem FnOk.toG {P : Program} {w : World} {K : PySem.W.Frag} {mg : Str → Option Value} {base : Heap} {CX : CXT} {k : Nat} {f : Addr} {fd : FuncData} {ps : List Str} {sp : Sp} (F : FnOk P w K mg base CX k f fd ps sp) : FnG P w K mg base CX k f fd ps sp :=
  ⟨F.len, fun B out st G as ws xs R Y hr _ => F.run B out st G as ws xs R Y hr⟩
section
variable {P : Program} {w : World} {K : PySem.W.Frag} {mg : Str → Option Value} {base : Heap}
/-- the rule for a def, told of its body with the guards known -/
theorem Fun.okG {x qual : Str} {st : Stmt} {f : Addr} {fd : FuncData} {N ps : List Str} {k : Nat} {sp : Sp} (F : Fun K x qual st f fd) (S : FnScope N ps (defScope st)) (len : ∀ vs H Q E, sp vs H Q E → vs.length = ps.length)
    (body : ∀ (cdv : Value) (A : Around) (outer : List Env) (s : Shared) (H : Hp) (vs : List V) (Q : VK) (E : XK), Room k (A.deeper (envOfC qual (defScope st) s.heap.objs.size f cdv)) → A.guards = some [] → sp vs H Q E →
      ∃ t, PSs (cxOf CX0 P w K mg base N qual (defScope st) f cdv A outer s H E).nox (defBody st) t ∧ t { nx := fun _ H' => Q .non H', rt := Q } (start N vs) H) : FnG P w K mg base CX0 (k + 1) f fd ps sp := by
  obtain ⟨oc, od, kV, doc, pm, an, cdv, ct, osl, rfl, rec_, hcode⟩ := F.ex
  refine ⟨len, fun B out st1 G as ws xs R Y hr gd en bnd rel wish => ?_⟩
  have nn := len _ _ _ _ wish
  have inK : K.In st1.heap := en.mod.kin.keeps fun b o z => (en.bs b o z).1
  have room : st1.heap.NoLimit := en.mod.nolimit.keeps fun b o z => (en.bs b o z).1
  refine codeAny_call_function hr.depth (inK _ _ rec_) rfl S.co S.gen rfl (PySem.W.codeRec_of inK hcode) (bnd _ _ _ _ ?_)
  refine wpAny_newFunctionEnv_cells S.kind (fun ⟨n, v⟩ hy => (S.par n (List.of_mem_zip hy).1).imp id fun q => ⟨q, PySem.W.cellsFrom_some _ _ _ (.inl q)⟩) fun env henv st2 inside => ?_
  subst henv
  refine ⟨room.keeps inside.toInCall.keep, codeAny_func ?_⟩
  obtain ⟨t, runs, asked⟩ := body cdv B out st1 G xs R Y (hr.deeper _) gd wish
  have J0 : Inv (cxOf CX0 P w K mg base N qual (defScope st) f cdv B out st1 G Y) [] (start N xs) G st2 := inv_start S hr.hd en nn rel inside
  refine wpAny_mono (runs.nox.run [] st2 (start N xs) G _ J0 asked) (fun way st3 told => ?_) fun _ _ z => z
  cases way with
  | brk =>
    obtain ⟨_, _, _, no⟩ := told
    exact no.elim
  | cont =>
    obtain ⟨_, _, _, no⟩ := told
    exact no.elim
  | next =>
    obtain ⟨σ2, G2, J, z⟩ := told
    exact ⟨V.non, G2, J.os, J.bare, J.base, J.hok, rfl, z⟩
  | ret u =>
    obtain ⟨v, σ2, G2, J, ru, z⟩ := told
    exact ⟨v, G2, J.os, J.bare, J.base, J.hok, ru, z⟩
end
section
variable {X : Cx} {CX : CXT} {k : Nat} {f : Addr} {fd : FuncData} {ps : List Str} {sp : Sp} {x : Str} {p pos : Pos} {e : Expr} {es : List Expr} {t : TA}
theorem run_fnG {pins : List (Addr × Obj)} {σ : L2.St} {H : Hp} {s : Shared} {Q : VK} {us : List Value} {vs : List V} {E : XK} (F : FnG X.prog X.w X.K X.mg X.base CX k f fd ps sp) (gd : X.A.guards = some []) (hr : Room k X.A) (hb : Binds X.K fd ps []) (hx : Passes CX X E)
    (I : Inv X pins σ H s) (r : Vals vs us) (h : sp vs H Q E) : wpAny (model X.prog X.w) X.A (call (.ref f) us) (EP X pins σ Q) X.xe s := by
  have num : (us ++ []).length = ps.length := by rw [List.append_nil, ← r.length]; exact F.num _ _ _ _ h
  refine wpAny_call (codeAny_mono (F.go X.A X.stack s H ⟨us, []⟩ (us ++ []) vs Q E hr gd I.env0 (hb s us I.kIn num) (by rw [List.append_nil]; exact r) h) fun way s' told => ?_)
  rcases way with er | fl
  · exact hx pins σ H s er s' I told
  · cases fl <;> first | exact I.after told | exact told.elim
theorem pe_callG {E : XK} (F : FnG X.prog X.w X.K X.mg X.base CX k f fd ps sp) (gd : X.A.guards = some []) (hr : Room k X.A) (hg : Gl X x) (hm : X.mg x = some (.ref f)) (hk : PySem.W.keepIn X.K (.ref f) = true) (hb : Binds X.K fd ps []) (hx : Passes CX X E)
    (ha : PA X (e :: es) t) (hdb : (x == ("__debug__" : Str)) = false := by decide) (he : starEach (e :: es) X.env = (false, eval e X.env) :: starEach es X.env := by rfl) (hpl : (backTo pos (starEach es X.env)).any (·.1) = false := by rfl) :
    PE X (.Call (.Name x p) (e :: es) [] pos) ((fun σ H Q => t σ H fun vs H1 => sp vs H1 Q E)) := by
  refine ⟨fun pins s σ H Q I h => ?_⟩
  refine wpAny_Call_Name_kw (ld_glob I hg hm ?_ hdb)
  exact PySem.W.callWith_K (h₀ := X.base) I.ok.mod.kin hk (thn (ha.run pos pins s σ H _ I h) fun us s1 ⟨vs, H1, I1, r, q⟩ => ⟨I1.kIn, run_fnG F gd hr hb hx I1 r q⟩) he hpl
/-- repr of data, of an empty dict -/
def rReprD (K : PySem.W.Frag) (xs : List V) (H : Hp) (Q : VK) : Prop := (∃ v d, xs = [v] ∧ Dp K H v d ∧ d.showable = true ∧ d.shown.length ≤ sizeLine ∧ d.depth ≤ 60 ∧ Q (.str d.shown) H) ∨ ∃ a, xs = [.ref a] ∧ H a = some (.dK []) ∧ Q (.str "{}") H
end
end OO

namespace OO
open PySem PySem.Spec PyProof.Rows L2 TL GG
/-- a list, known as the object it is: the law's script -/
def SqE (K : PySem.W.Frag) (H : Hp) (a : Addr) (xs : List V) : Prop := (∃ ob, H a = some (.frz ob (.lst xs))) ∨ ∃ (vs : List Value) (n : Nat), K.lookup a = some { cls := .type "list", data := .seq vs.toArray n } ∧ Vals xs vs ∧ xs.length ≤ sizeLine
/-- script + [..] -/
def rCatE (K : PySem.W.Frag) : R2 := fun x y H Q => ∃ (l b : Addr) (xs zs : List V), x = .ref l ∧ y = .ref b ∧ SqE K H l xs ∧ H b = some (.lst zs) ∧ xs.length + zs.length ≤ sizeLine ∧ ∀ p, H p = none → Q (.ref p) (upd H p (.lst (xs ++ zs)))
theorem op_catE {X : Cx} : OpR X (binaryOp .Add) (rCatE X.K) := by
  intro pins s σ H x y v u Q I rx ry h
  obtain ⟨l, b, xs, zs, rfl, rfl, hE, hB, hz, q⟩ := h
  cases rx
  cases ry
  obtain ⟨its, n, r, e⟩ : ∃ (its : List Value) (n : Nat), Vals xs its ∧ s.heap.get? l = some { cls := .type "list", data := .seq its.toArray n } := by
    rcases hE with ⟨ob, hf⟩ | ⟨vs, n, hk, rv, _⟩
    · obtain ⟨_, _, its, n, rv, here⟩ := (show ObjOk X.prog X.w H s.heap l (.frz ob (.lst xs)) from I.hok l _ hf)
      exact ⟨its, n, rv, here⟩
    · exact ⟨vs, n, rv, I.kIn _ _ hk⟩
  obtain ⟨z2, its2, n2, r2, hl2, e2⟩ := I.lstM hB
  refine PySem.P.add_list e e2 ?_ (by rw [List.size_toArray, List.size_toArray, ← r.length, ← r2.length]; exact hz)
  have both : its.toArray ++ its2.toArray = (its ++ its2).toArray := by simp
  rw [both]
  exact ⟨.ref _, _, I.lnew (t' := s.toks) (r.append r2) (by rw [List.length_append]; exact hz), rfl, q _ I.fresh⟩
/-- what is tracked ahead of the law: its script, where the written part doesn't hold it -/
def H1st (K : PySem.W.Frag) (a : Addr) (vs : List Value) (ns : List Int) : Hp := fun b => if b = a ∧ K.lookup a = none then some (.frz { cls := .type "list", data := .seq vs.toArray } (.lst (ns.map V.int))) else none
theorem h1st_cases (K : PySem.W.Frag) (a : Addr) (vs : List Value) (ns : List Int) (b : Addr) : H1st K a vs ns b = none ∨ (b = a ∧ K.lookup a = none ∧ H1st K a vs ns b = some (.frz { cls := .type "list", data := .seq vs.toArray } (.lst (ns.map V.int)))) := by
  unfold H1st
  by_cases h : b = a ∧ K.lookup a = none
  · exact .inr ⟨h.1, h.2, if_pos h⟩
  · exact .inl (if_neg h)
theorem law_goG {P : Program} {w : World} {K : PySem.W.Frag} {mg mb : Str → Option Value} {k : Nat} {fa a : Addr} {fd : FuncData} {x : Str} {sp : Sp} {st : Shared} {vs : List Value} {ns : List Int}
    (inK : K.In st.heap) (top : st.heap.Ns mainGlobals mg) (blt : st.heap.Ns builtinsNs mb) (boot : ∀ x : Str, x ≠ "__name__" → mb x = bootBuiltins x) (room : st.heap.NoLimit) (quiet : st.gens = #[])
    (here : st.heap.get? a = some { cls := .type "list", data := .seq vs.toArray }) (are : IntsAre vs ns) (len : ns.length ≤ sizeLine) (hr : Room k callerA)
    (F : ∀ base : Heap, K.In base → base.Ns mainGlobals mg → FnG P w K mg base CX0 k fa fd [x] sp) (bnd : ∀ (s : Shared) (u : Value), BindsTo s fd ⟨[u], []⟩ [(x, u)])
    (wish : ∀ H : Hp, SqL K H a (ns.map V.int) → SqE K H a (ns.map V.int) → sp [.ref a] H (fun v _ => v = .bl true) fun _ _ _ => False) :
    codeAny (model P w) callerA (.call (.ref fa) ⟨[.ref a], []⟩) (fun r s' => r = .ok (.ret (.bool true)) ∧ OldK st.heap s'.heap ∧ s'.os = st.os ∧ AllBare s'.gens) st := by
  have rel := vals_ints are
  have size := are.length
  have hS : SqL K (H1st K a vs ns) a (ns.map V.int) := by
    cases q : K.lookup a with
    | none => exact .inl (.inr ⟨{ cls := .type "list", data := .seq vs.toArray }, if_pos ⟨rfl, q⟩⟩)
    | some o =>
      have z := inK a o q
      rw [here] at z
      cases z
      exact .inr ⟨_, vs.toArray, _, q, rfl, rfl, rfl, by rw [List.size_toArray, size]; exact len, by simpa using rel⟩
  have hE : SqE K (H1st K a vs ns) a (ns.map V.int) := by
    cases q : K.lookup a with
    | none => exact .inl ⟨{ cls := .type "list", data := .seq vs.toArray }, if_pos ⟨rfl, q⟩⟩
    | some o =>
      have z := inK a o q
      rw [here] at z
      cases z
      exact .inr ⟨vs, _, q, rel, by rw [List.length_map]; exact len⟩
  have hok : HOk P w (H1st K a vs ns) st.heap := fun b u z => by
    rcases h1st_cases K a vs ns b with n | ⟨rfl, _, y⟩
    · rw [n] at z
      cases z
    · rw [y] at z
      cases z
      exact ⟨here, by rw [List.length_map]; exact len, vs, _, rel, here⟩
  have nsT : ∀ {b : Addr} {m : Str → Option Value}, st.heap.Ns b m → (hidT st.heap (H1st K a vs ns)).Ns b m := fun {b m} ⟨o, es, ep, e, d, r⟩ => ⟨o, es, ep, hidT_get e (by
    rcases h1st_cases K a vs ns b with n | ⟨rfl, _, _⟩
    · exact n
    · rw [here] at e
      cases e
      exact nomatch (show Data.seq vs.toArray _ = Data.dict es ep from d)), d, r⟩
  have inT : K.In (hidT st.heap (H1st K a vs ns)) := fun b o e => hidT_get (inK b o e) (by
    rcases h1st_cases K a vs ns b with n | ⟨rfl, n, _⟩
    · exact n
    · rw [n] at e
      cases e)
  have md : Mod K mg (hidT st.heap (H1st K a vs ns)) := ⟨inT, nsT top, ⟨mb, nsT blt, boot⟩, let ⟨mc, h1, h2⟩ := room; ⟨mc, nsT h1, h2⟩⟩
  have en : Env0 P w K mg (hidT st.heap (H1st K a vs ns)) callerA [] st (H1st K a vs ns) := ⟨rfl, md, fun b o e => of_hidT e, Nat.le_of_eq (hidT_size _ _), trivial, fun b hb => absurd (show b ∈ ([] : List Addr) from hb) (by simp), hok, AllBare.of_eq quiet⟩
  refine codeAny_mono ((F _ inT (nsT top)).go callerA [] st _ ⟨[.ref a], []⟩ [.ref a] [.ref a] _ _ hr rfl en (bnd st (.ref a)) (.cons rfl .nil) (wish _ hS hE)) fun way s' told => ?_
  rcases way with er | fl
  · exact told.elim
  · cases fl with
    | next => exact told.elim
    | brk => exact told.elim
    | cont => exact told.elim
    | ret u =>
      obtain ⟨v, H', os, bare, un, hok', rv, ev⟩ := told
      cases ev
      cases (show u = Value.bool true from rv)
      refine ⟨rfl, OldK.of_keep fun b o e => ?_, os, bare⟩
      rcases h1st_cases K a vs ns b with n | ⟨rfl, _, y⟩
      · exact un.keep b o e n (fun z => nomatch z) (by simp)
      · have z1 := (hok b _ y).1
        rw [e] at z1
        cases z1
        exact (hok' b _ (un.frzs b _ _ y)).1
theorem walk_G {l : PySem.W.OpenLaw} {n k : Nat} {q : Program} {loose : List Str} {XP : (Str → Option Value) → Heap → Prop} {YP : World → Heap → Prop} {d : DefRec} {K : Params → PySem.W.Frag} {sp : World → Sp} {x : Str}
    (hn : l.most = some n) (hn2 : n ≤ sizeLine) (hdf : d.params.defaults = []) (hr : Room k callerA) (hY : ∀ (w : World) (h : Heap), YP w h → (K w.params).In h)
    (F : ∀ (w : World) (mg : Str → Option Value) (fa : Addr) (h : Heap), (K w.params).In h → h.Ns mainGlobals mg → mg d.name = some (.ref fa) →
      ∃ fd : FuncData, (∀ (s : Shared) (u : Value), BindsTo s fd ⟨[u], []⟩ [(x, u)]) ∧ ∀ base : Heap, (K w.params).In base → base.Ns mainGlobals mg → FnG l.prog w (K w.params) mg base CX0 k fa fd [x] (sp w))
    (wish : ∀ (w : World) (H : Hp) (a : Addr) (ns : List Int), ns.length ≤ n → SqL (K w.params) H a (ns.map V.int) → SqE (K w.params) H a (ns.map V.int) → sp w [.ref a] H (fun v _ => v = .bl true) fun _ _ _ => False) :
    PySem.W.WalkO q loose XP YP l.row.toRowW d [] (fun f vs => PySem.call f vs) := by
  refine Att.attach_call hn hdf fun w s₀ st mg mb fa o pm cd doc a vs ns G Y ho hd hcd hmg hobj hints hlen hg => ?_
  obtain ⟨fd, hb, hF⟩ := F w mg fa _ (hY w _ Y) G.T.g hmg
  exact law_goG (hY w _ Y) G.T.g G.T.b G.T.builtins G.T.nolimit hg hobj hints (Nat.le_trans hlen hn2) hr hF hb fun H hS hE => wish w H a ns hlen hS hE
section
variable {X : Cx}
mutual
theorem dp_noDict {K : PySem.W.Frag} {H : Hp} : ∀ (d : PyData) (v : V), Dp K H v d → d.hasDict = false
  | .none, _, _ => by simp only [PyData.hasDict]
  | .bool _, _, _ => by simp only [PyData.hasDict]
  | .int _, _, _ => by simp only [PyData.hasDict]
  | .str _, _, _ => by simp only [PyData.hasDict]
  | .list ds, _, h => by
    cases h with
    | lst _ ha =>
      simp only [PyData.hasDict]
      exact dpAll_noDict ds _ ha
  | .tuple ds, _, h => by
    cases h with
    | tup _ ha =>
      simp only [PyData.hasDict]
      exact dpAll_noDict ds _ ha
  | .dict _, _, h => by cases h
theorem dpAll_noDict {K : PySem.W.Frag} {H : Hp} : ∀ (ds : List PyData) (vs : List V), DpAll K H vs ds → PyData.hasDictAll ds = false
  | [], _, _ => by simp only [PyData.hasDictAll]
  | d :: ds, _, h => by
    cases h with
    | cons h1 h2 => simp only [PyData.hasDictAll, dp_noDict d _ h1, dpAll_noDict ds _ h2, Bool.or_self]
end
/-- repr(x) of data -/
theorem call_reprD (gd : X.A.guards = some []) (hu : X.A.units + 65 < cLine) : CallR X (.builtin "repr") (rReprD X.K) := by
  intro pins s σ H xs us Q I r h
  rcases h with ⟨v, d, rfl, hd, hs, hz, hdp, q⟩ | ⟨a, rfl, hk, q⟩
  · obtain ⟨u, rfl, ru⟩ := vals1 r
    cases hd with
    | non =>
      cases (show u = Value.none from ru)
      exact PySem.P.repr_of_none ⟨.str _, H, I.tok _, ⟨_, rfl⟩, q⟩
    | bl b =>
      cases (show u = Value.bool b from ru)
      refine PySem.P.repr_of_bool ⟨.str _, H, I.tok _, ⟨_, rfl⟩, ?_⟩
      cases b <;> exact q
    | int i =>
      obtain ⟨t, rfl⟩ := ru
      have hi : i.natAbs.log2 < 1920 := by simpa [PyData.showable] using hs
      exact PySem.P.repr_of_int hi ⟨.str _, H, I.tok _, ⟨_, rfl⟩, q⟩
    | str y =>
      obtain ⟨t, rfl⟩ := ru
      exact PySem.P.repr_of_str ⟨.str _, H, I.tok _, ⟨_, rfl⟩, q⟩ hz
    | lst hl ha =>
      cases (show u = Value.ref _ from ru)
      obtain ⟨as, rd⟩ := Dp.reads I _ _ _ (.lst hl ha) rfl
      exact PySem.repr_of_reads' rd hs (PyData.noDict_hsm (dp_noDict _ _ (.lst hl ha))) gd (by omega) (fun _ _ z => z) (fun h' u tk hk => ⟨.str _, H, I.kept (t' := tk) hk, ⟨_, rfl⟩, q⟩) hz
    | tup hl ha =>
      cases (show u = Value.ref _ from ru)
      obtain ⟨as, rd⟩ := Dp.reads I _ _ _ (.tup hl ha) rfl
      exact PySem.repr_of_reads' rd hs (PyData.noDict_hsm (dp_noDict _ _ (.tup hl ha))) gd (by omega) (fun _ _ z => z) (fun h' u tk hk => ⟨.str _, H, I.kept (t' := tk) hk, ⟨_, rfl⟩, q⟩) hz
  · obtain ⟨u, rfl, ru⟩ := vals1 r
    cases (show u = Value.ref a from ru)
    obtain ⟨_, hne, vs, kv, o, es, ep, ho, ex, hd, _, pr, _⟩ := dk_of I.hok hk
    cases kv
    have he : es.toList = [] := by cases hes : es.toList with
      | nil => rfl
      | cons _ _ =>
        rw [hes] at pr
        cases pr
    have rd : Reads s.heap (.ref a) (.dict []) [a] := Reads.dict (as := []) (bs := []) (kvs := []) ho ex.1 hd (by rw [he]; exact .nil) (by rw [he]; exact .nil)
    exact PySem.repr_of_reads' rd rfl (fun _ hm => by
      rcases List.mem_cons.mp hm with e | e
      · rw [← e] at hne
        exact absurd (beq_self_eq_true _) (by rw [hne]; exact Bool.false_ne_true)
      · exact nomatch e) gd (by show X.A.units + (PyData.depth (.dict []) + 1) < cLine; have : PyData.depth (.dict []) ≤ 2 := (by decide +kernel); omega) (fun _ _ z => z) (fun h' u tk hk => ⟨.str _, H, I.kept (t' := tk) hk, ⟨_, rfl⟩, q⟩) (by decide +kernel)
end
end OO

/-! Operators of a program's own objects: ==, !=, in, not in, [] by their own methods. -/
namespace PySem.W
open PySem PySem.Calls PyProof.Rows Builtin
section
variable {prog : Program} {w : World} {A : Around} {E : Value → Shared → Prop} {s : Shared} {K : Frag} {x C f : Addr} {ox : Obj} {od : Option Obj} {b tb : Value}
/-- a built-in method of the class, bound where it is there -/
theorem boundB {M : Model} {name : Str} {id : String} {args : List Value} {Q : Option Value → Shared → Prop} (X : K.In s.heap) (I : InstAt s.heap x ox C od) (there : findIn K (.ref C) name = some (some (.builtin id))) (bnd : ∀ self, bindSpecial (.builtin id) self = pure (.builtin id, [self]))
    (z : wpAny M A (call (.builtin id) (.ref x :: args)) (fun v => Q (some v)) E s) : wpAny M A (callSpecialIfBound? (.ref x) name args) Q E s := by
  have lk : Looks M s.heap (bindSpecial (.builtin id) (.ref x)) (.builtin id, [.ref x]) := .of_pure (bnd _)
  simp only [callSpecialIfBound?, bindSpecialIfBound?]
  refine wpAny_holding (wpAny_bind (wpAny_bind (wpAny_bind (I.type.here ((looks_findIn X there).here ?_)))))
  refine wpAny_bind (wpAny_askSetting (wpAny_ite ?_))
  have rest : wpAny M A (call (.builtin id) ([.ref x] ++ args) >>= fun v => pure (some v)) Q E s := wpAny_bind (wpAny_mono z (fun v s' y => wpAny_pure y) fun _ _ y => y)
  split
  · exact wpAny_bind (lk.here (wpAny_pure (by exact rest)))
  · exact wpAny_tryCatch (wpAny_bind (lk.here (wpAny_pure (by exact rest))))
/-- != by the own __eq__, where the class has no __ne__ -/
theorem ne_own {Q : Value → Shared → Prop} (hu : A.units + 1 < cLine) (X : K.In s.heap) (I : InstAt s.heap x ox C od) (hb : Looks (model prog w) s.heap (typeOf b) tb) (hn : notFirst K C tb = true) (no : findIn K (.ref C) "__ne__" = some (some (.builtin "object.__ne__")))
    (ob : mroIn K C (.type "object") = some true) (eq_ : findIn K (.ref C) "__eq__" = some (some (.ref f))) (fn : isFn K (.ref f) = true)
    (z : wpAny (model prog w) A.in1 (call (.ref f) [.ref x, b]) (fun v s' => ∃ c : Bool, v = .bool c ∧ Q (.bool (!c)) s') E s) : wpAny (model prog w) A (richCompare .NotEq (.ref x) b) Q E s := by
  have sub : Looks (model prog w) s.heap (isInstance (.ref x) (.type "object")) true := I.type.andThen (looks_mroIn X ob)
  have one : wpAny (model prog w) A (tryCompare (.ref x) "__ne__" b) (fun r s' => ∃ v, r = some v ∧ Q v s') E s := by
    unfold tryCompare
    refine wpAny_bind (boundB X I no F.cmp_object.ne.bind (wpAny_call (codeAny_call_builtin F.cmp_object.ne.plain F.cmpEntry_ne (check_slot F.cmpKind_ne F.cmpSplit_ne sub (F.cmpArgs_ne _ _) ?_))))
    unfold Builtin.«object.__ne__»
    repeat (first
      | with_reducible refine wpAny_cRoomFor (show A.in1.units < cLine from hu) ?_
      | (refine wpAny_bind (m := callSpecialIfBound? (.ref x) (Str.ofString "__eq__") [b]) (ifBound_K X I eq_ fn (wpAny_mono z (fun r s' hr => by
            obtain ⟨c, rfl, q⟩ := hr
            repeat (first | exact ⟨_, rfl, wpAny_pure ⟨_, rfl, q⟩⟩ | exact wpAny_pure ⟨_, rfl, q⟩ | exact ⟨_, rfl, q⟩ | (refine wpAny_bind (m := truthy (.bool _)) (wpAny_truthy_bool ?_)) | wp_step)) fun _ _ y => y)))
      | wp_step)
  unfold richCompare
  simp only [oneThing_ref]
  refine wpAny_holding (wpAny_bind (wpAny_cRoomFor (Nat.lt_of_succ_lt hu) ?_))
  refine wpAny_bind (I.type.here (wpAny_bind (hb.here ?_)))
  split
  · rename_i q
    have e : subIn K tb (.ref C) = some false := by
      rcases Bool.or_eq_true_iff.mp hn with e | e
      · rw [beq_iff_eq.mp e] at q; simp at q
      · exact beq_iff_eq.mp e
    refine wpAny_bind ((looks_subIn X e).here ?_)
    simp only [Bool.false_eq_true, if_false]
    refine wpAny_bind (wpAny_mono one (fun r s' y => ?_) fun _ _ y => y)
    obtain ⟨v, rfl, q2⟩ := y
    exact wpAny_pure q2
  · refine wpAny_bind (wpAny_pure ?_)
    simp only [Bool.false_eq_true, if_false]
    refine wpAny_bind (wpAny_mono one (fun r s' y => ?_) fun _ _ y => y)
    obtain ⟨v, rfl, q2⟩ := y
    exact wpAny_pure q2
end
end PySem.W
namespace OO
open PySem PySem.Spec PyProof.Rows L2 TL GG
section
variable {X : Cx} {k : Nat} {g C : Addr} {sp : Sp} {pins : List (Addr × Obj)} {σ : L2.St} {H : Hp} {s : Shared} {y : V} {u t : Value}
theorem looksY (I : Inv X pins σ H s) (r : RelV y u) (ty : TyX X.K H y t) {M : Model} : PySem.W.Looks M s.heap (typeOf u) t := by
  obtain ⟨P, z, p, _⟩ := kit_of I r ty
  exact z.ty M s.heap I.kIn p
/-- x == y, x != y, x an instance of the class at C, by its __eq__ -/
def rCmpO (K : PySem.W.Frag) (C : Addr) (sp : Sp) (neg : Bool) : R2 := fun x y H Q => ∃ (a dx : Addr) (fs : List (Str × V)) (t : Value), x = .ref a ∧ H a = some (.ins C dx fs) ∧ TyX K H y t ∧ PySem.W.notFirst K C t = true ∧
  sp [.ref a, y] H (fun v H' => ∃ b : Bool, v = .bl b ∧ Q (.bl (if neg = true then !b else b)) H') E0
theorem op_eqO (F : FnR X.prog X.w X.K X.mg X.base CX0 k g sp) (hr : Room k X.A) (hs : PySem.W.findIn X.K (.ref C) "__eq__" = some (some (.ref g))) (hf : PySem.W.isFn X.K (.ref g) = true) : OpR X (compareOp .Eq) (rCmpO X.K C sp false) := by
  intro pins s σ H x y v u Q I rx ry h
  obtain ⟨a, dx, fs, t, rfl, ha, ty, nf, h⟩ := h
  cases (show v = Value.ref a from rx)
  obtain ⟨mA, O, _⟩ := ins_get I.hok ha
  obtain ⟨od, J, _⟩ := O.look
  obtain ⟨m, fr⟩ := I.fr
  show wpAny _ _ (richCompare .Eq (.ref a) u) _ _ _
  refine PySem.W.cmp_K (op := .Eq) (Nat.lt_of_le_of_lt (Nat.le_add_right _ _) hr.units) fr I.ok.mod.kin J (looksY I ry ty) nf hs hf (wpAny_call (codeAny_mono (F X.A X.stack s H [.ref a, u] [.ref a, y] _ E0 hr I.env0 (.cons rfl (.cons ry .nil)) h) fun way s' told => ?_))
  rcases way with er | fl
  · exact told.elim
  · cases fl with
    | next => exact told.elim
    | brk => exact told.elim
    | cont => exact told.elim
    | ret u2 =>
      obtain ⟨v2, H2, I2, r2, b, rfl, q⟩ := I.after told
      cases (show u2 = Value.bool b from r2)
      exact ⟨.bl b, H2, I2, rfl, q⟩
theorem op_neO (F : FnR X.prog X.w X.K X.mg X.base CX0 k g sp) (hr : Room (k + 1) X.A) (no : PySem.W.findIn X.K (.ref C) "__ne__" = some (some (.builtin "object.__ne__"))) (ob : PySem.W.mroIn X.K C (.type "object") = some true)
    (hs : PySem.W.findIn X.K (.ref C) "__eq__" = some (some (.ref g))) (hf : PySem.W.isFn X.K (.ref g) = true) : OpR X (compareOp .NotEq) (rCmpO X.K C sp true) := by
  intro pins s σ H x y v u Q I rx ry h
  obtain ⟨a, dx, fs, t, rfl, ha, ty, nf, h⟩ := h
  cases (show v = Value.ref a from rx)
  obtain ⟨mA, O, _⟩ := ins_get I.hok ha
  obtain ⟨od, J, _⟩ := O.look
  show wpAny _ _ (richCompare .NotEq (.ref a) u) _ _ _
  refine PySem.W.ne_own (Nat.lt_of_le_of_lt (Nat.add_le_add_left (by decide : 1 ≤ 64) _) hr.units) I.kIn J (looksY I ry ty) nf no ob hs hf (wpAny_call (codeAny_mono (F X.A.in1 X.stack s H [.ref a, u] [.ref a, y] _ E0 hr.in1 I.env0.in1 (.cons rfl (.cons ry .nil)) h) fun way s' told => ?_))
  rcases way with er | fl
  · exact told.elim
  · cases fl with
    | next => exact told.elim
    | brk => exact told.elim
    | cont => exact told.elim
    | ret u2 =>
      obtain ⟨v2, H2, I2, r2, b, rfl, q⟩ := I.after told
      cases (show u2 = Value.bool b from r2)
      exact ⟨b, rfl, .bl (!b), H2, I2, rfl, q⟩
/-- x in y, x not in y, y an instance of the class at C, by its __contains__ -/
def rInO (C : Addr) (sp : Sp) (neg : Bool) : R2 := fun x y H Q => ∃ (a dx : Addr) (fs : List (Str × V)), y = .ref a ∧ H a = some (.ins C dx fs) ∧ sp [.ref a, x] H (fun v H' => ∃ b : Bool, v = .bl b ∧ Q (.bl (if neg = true then !b else b)) H') E0
theorem op_inO (F : FnR X.prog X.w X.K X.mg X.base CX0 k g sp) (hr : Room k X.A) (hs : PySem.W.findIn X.K (.ref C) "__contains__" = some (some (.ref g))) (hf : PySem.W.isFn X.K (.ref g) = true) : OpR X (compareOp .In) (rInO C sp false) := by
  intro pins s σ H x y v u Q I rx ry h
  obtain ⟨a, dx, fs, rfl, ha, h⟩ := h
  cases (show u = Value.ref a from ry)
  obtain ⟨mA, O, _⟩ := ins_get I.hok ha
  obtain ⟨od, J, _⟩ := O.look
  obtain ⟨m, fr⟩ := I.fr
  refine PySem.W.in_K fr I.ok.mod.kin J hs hf (wpAny_call (codeAny_mono (F X.A X.stack s H [.ref a, v] [.ref a, x] _ E0 hr I.env0 (.cons rfl (.cons rx .nil)) h) fun way s' told => ?_))
  rcases way with er | fl
  · exact told.elim
  · cases fl with
    | next => exact told.elim
    | brk => exact told.elim
    | cont => exact told.elim
    | ret u2 =>
      obtain ⟨v2, H2, I2, r2, b, rfl, q⟩ := I.after told
      cases (show u2 = Value.bool b from r2)
      exact wpAny_truthy_bool ⟨.bl b, H2, I2, rfl, q⟩
theorem op_notInO (F : FnR X.prog X.w X.K X.mg X.base CX0 k g sp) (hr : Room k X.A) (hs : PySem.W.findIn X.K (.ref C) "__contains__" = some (some (.ref g))) (hf : PySem.W.isFn X.K (.ref g) = true) : OpR X (compareOp .NotIn) (rInO C sp true) := by
  intro pins s σ H x y v u Q I rx ry h
  obtain ⟨a, dx, fs, rfl, ha, h⟩ := h
  cases (show u = Value.ref a from ry)
  obtain ⟨mA, O, _⟩ := ins_get I.hok ha
  obtain ⟨od, J, _⟩ := O.look
  obtain ⟨m, fr⟩ := I.fr
  refine PySem.W.notIn_K fr I.ok.mod.kin J hs hf (wpAny_call (codeAny_mono (F X.A X.stack s H [.ref a, v] [.ref a, x] _ E0 hr I.env0 (.cons rfl (.cons rx .nil)) h) fun way s' told => ?_))
  rcases way with er | fl
  · exact told.elim
  · cases fl with
    | next => exact told.elim
    | brk => exact told.elim
    | cont => exact told.elim
    | ret u2 =>
      obtain ⟨v2, H2, I2, r2, b, rfl, q⟩ := I.after told
      cases (show u2 = Value.bool b from r2)
      exact wpAny_truthy_bool ⟨.bl (!b), H2, I2, rfl, q⟩
/-- x[i], x an instance of the class at C, by its __getitem__ -/
def tIxO (C : Addr) (sp : Sp) (E : L2.St → XK) (ta tb : TE) : TE := fun σ H Q => ta σ H fun x H1 => tb σ H1 fun y H2 => ∃ (a dx : Addr) (fs : List (Str × V)), x = .ref a ∧ H2 a = some (.ins C dx fs) ∧ sp [.ref a, y] H2 Q (E σ)
theorem pe_ixO {CX : CXT} {E : L2.St → XK} {a b : Expr} {ta tb : TE} {pos : Pos} (F : FnR X.prog X.w X.K X.mg X.base CX k g sp) (hr : Room (k + 1) X.A) (hx : ∀ σ, PassesAt CX X σ (E σ)) (ha : PE X a ta) (hb : PE X b tb) (hs : PySem.W.findIn X.K (.ref C) "__getitem__" = some (some (.ref g)))
    (hk : PySem.W.fnIn X.K g = true) (hf : PySem.W.isFn X.K (.ref g) = true) (hsl : ∀ v i : Value, subscripted b true v i = runValue (.builtin "lifetime.subscript" ⟨[v, i], []⟩) := by intro _ _; rfl) : PE X (.Subscript a b pos) (tIxO C sp E ta tb) := by
  refine ⟨fun pins s σ H Q I h => ?_⟩
  refine Subscript_ (binT ha hb I (R := fun x y H2 => ∃ (a dx : Addr) (fs : List (Str × V)), x = .ref a ∧ H2 a = some (.ins C dx fs) ∧ sp [.ref a, y] H2 Q (E σ)) h fun v u s2 x y H2 I2 rx ry q => ?_)
  obtain ⟨p, dx, fs, rfl, hp, q⟩ := q
  cases (show v = Value.ref p from rx)
  obtain ⟨mA, O, _⟩ := ins_get I2.hok hp
  obtain ⟨od, J, _⟩ := O.look
  obtain ⟨m, fr⟩ := I2.fr
  refine PySem.W.sub_K fr I2.ok.mod.kin J hs hk hf (wpAny_call (codeAny_mono (F X.A.in1 X.stack s2 H2 [.ref p, u] [.ref p, y] _ (E σ) hr.in1 I2.env0.in1 (.cons rfl (.cons ry .nil)) q) fun way s' told => ?_)) (hsl _ _)
  rcases way with er | fl
  · exact hx σ pins H2 s2 er s' I2 told
  · cases fl <;> first | exact I2.after told | exact told.elim
end
end OO

/-! Own exception classes called by keywords: BaseException.__new__ takes them, the own __init__ gets them. -/
namespace PySem
namespace HandSPX
open Builtin Builtin.ObjectAttr
section
variable {M : Model} {A : Around} {E : Value → Shared → Prop} {h : Heap} {g : Array GenState} {d : Drawn} {t : Nat} {os : OsState}
variable {nm q : Str} {C N : Addr} {bs bm bmB : List Value} {hdct : Bool} {sn : List Str} {sub : List Value} {ab : Bool} {col : Option Bool} {dd : Option Addr} {k0 k1 k2 k3 k5 : Option Value} {B newId initId : String}
theorem check_newK (F : ExcBaseFacts B newId initId bmB) (same : ∀ X : String, bm.contains (.type X) = bmB.contains (.type X)) {kw : List (Str × Value)} {Q : Unit → Shared → Prop}
    (cls : h.get? C = some (excClassObj nm q C N bs bm hdct sn sub ab col dd k0 k1 k2 k3 k5 newId)) (z : Q () ⟨h, g, d, t, os⟩) : wpAny M A (checkBuiltinCall newId ⟨[.ref C], kw⟩) Q E ⟨h, g, d, t, os⟩ := by
  have under : (Value.ref C :: bm).contains (.type B) = true := by rw [List.contains_cons, same, F.hasB, Bool.or_true]
  have ns := F.noStar
  simp only [checkBuiltinCall, F.newKind, F.newSplit, F.newRow]
  repeat (first | refine wpAny_loadPart_at cls ?_ | (refine wpAny_isSubtype_exc cls ?_; rw [under]) | refine wpAny_staticBase_exc cls ?_ | refine wpAny_madeBy_exc cls ?_ | simp only [bne_self_eq_false, Bool.false_eq_true, if_false] | wp_step)
  exact z
end
section
variable {prog : Program} {w : World} {A : Around} {E : Value → Shared → Prop} {R : Result → Shared → Prop} {h : Heap} {g : Array GenState} {d : Drawn} {t : Nat} {os : OsState}
variable {nm q : Str} {C N : Addr} {bs bm bmB : List Value} {hdct : Bool} {sn : List Str} {sub : List Value} {ab : Bool} {col : Option Bool} {dd : Option Addr} {k0 k1 k2 k3 k5 : Option Value} {B newId initId : String}
theorem newK (F : ExcBaseFacts B newId initId bmB) (same : ∀ X : String, bm.contains (.type X) = bmB.contains (.type X)) {kw : List (Str × Value)}
    (cls : h.get? C = some (excClassObj nm q C N bs bm hdct sn sub ab col dd k0 k1 k2 k3 k5 newId))
    (z : R (.ok (.ret (.ref (h.objs.size + 1)))) ⟨(h.push (W.kdv_tup [])).push (excO C h.objs.size), g, d, t, os⟩) : codeAny (model prog w) A (.builtin newId ⟨[.ref C], kw⟩) R ⟨h, g, d, t, os⟩ := by
  have fin_ := F.ends
  have inB : (Value.ref C :: bm).contains (.type B) = true := by rw [List.contains_cons, same, F.hasB, Bool.or_true]
  have notA : (Value.ref C :: bm).contains (.type "AttributeError") = false := by rw [List.contains_cons, same, F.noAttr]; rfl
  have notN : (Value.ref C :: bm).contains (.type "NameError") = false := by rw [List.contains_cons, same, F.noName]; rfl
  have size0 : ([] : List Value).length ≤ sizeLine := Nat.zero_le _
  refine codeAny_builtinAt F.entry ?_
  unfold Builtin.«BaseException.__new__»
  refine wpAt_bind ?_
  show wpAt _ _ _ (stack >>= _) _ _ _
  refine wpAt_bind (wpAt_stack fun p below => wpAt_of_wpAny ?_)
  wp_walk
  refine wpAt_of_wpAny ?_
  rw [F.owner]
  repeat (first | with_reducible refine wpAny_madeHere_exc F.canon cls ?_ | with_reducible refine wpAny_loadPart_at cls ?_ | (with_reducible refine wpAny_isSubtype_exc cls ?_; first | rw [inB] | rw [notA] | rw [notN]) | wp_step)
  show R _ _
  rw [Heap.size_push]
  exact z
theorem type_callK (F : ExcBaseFacts B newId initId bmB) (same : ∀ X : String, bm.contains (.type X) = bmB.contains (.type X)) {kw : List (Str × Value)} {fI : Addr} {Q : Fin → Shared → Prop}
    (cls : h.get? C = some (excClassObj nm q C N bs bm hdct sn sub ab col dd k0 k1 k2 k3 k5 newId))
    (ini : W.Looks (model prog w) h (typeLookup (.ref C) "__init__") (some (.ref fI))) (bnd : ∀ self, W.Looks (model prog w) h (bindSpecial (.ref fI) self) (.ref fI, [self]))
    (z : codeAny (model prog w) A (.call (.ref fI) ⟨[.ref (h.objs.size + 1)], kw⟩)
      (fun r s' => match r with | .ok (.ret v) => v = .none ∧ Q (.done (.ret (.ref (h.objs.size + 1)))) s' | .ok _ => False | .error e => E e s') ⟨(h.push (W.kdv_tup [])).push (excO C h.objs.size), g, d, t, os⟩) :
    wpAny (model prog w) A (Builtin.«type.__call__» ⟨[.ref C], kw⟩) Q E ⟨h, g, d, t, os⟩ := by
  repeat (first | with_reducible refine wpAny_loadPart_at cls ?_ | with_reducible refine wpAny_madeBy_exc cls ?_ | wp_step)
  refine codeAny_call_builtin_code (Code.quiet_builtin _ F.quiet) (check_newK F same cls ?_)
  refine newK F same cls ?_
  show wpAny _ _ _ _ _ _
  have keep : ∀ b o, h.get? b = some o → ((h.push (W.kdv_tup [])).push (excO C h.objs.size)).get? b = some o := fun b o e => Heap.get?_push_of_some _ (Heap.get?_push_of_some _ e)
  have cls1 := keep _ _ cls
  have made : ((h.push (W.kdv_tup [])).push (excO C h.objs.size)).get? (h.objs.size + 1) = some (excO C h.objs.size) := by heap_get
  have self : (Value.ref C :: bm).contains (.ref C) = true := by simp
  have ini1 := ini.keeps keep
  have bnd1 := (bnd (.ref (h.objs.size + 1))).keeps keep
  unfold isInstance
  repeat (first | with_reducible refine wpAny_loadPart_at made ?_ | (with_reducible refine wpAny_isSubtype_exc cls1 ?_; rw [self]) | wp_step)
  show wpAny _ _ (typeLookup (.ref C) _) _ _ _
  refine ini1.at ?_
  refine wpAny_holding (wpAny_bind (bnd1.at ?_))
  refine wpAny_bind (wpAny_call (codeAny_mono z fun r s' y => ?_))
  rcases r with e | (v | _ | _ | _) <;> first | exact y | exact y.elim | skip
  obtain ⟨rfl, y⟩ := y
  first
    | exact wpAny_pure (wpAny_pure y)
    | (wp_walk; exact y)
theorem instTy {M : Model} (cls : h.get? C = some (excClassObj nm q C N bs bm hdct sn sub ab col dd k0 k1 k2 k3 k5 newId)) : W.Looks M h (isInstance (.ref C) (.type "type")) true := by
  have ty : W.Looks M h (typeOf (.ref C)) (.type "type") := (W.Looks.ld cls).andThen .now
  exact ty.andThen (.of_pure tc_sub)
theorem call_K (F : ExcBaseFacts B newId initId bmB) (same : ∀ X : String, bm.contains (.type X) = bmB.contains (.type X)) {kw : List (Str × Value)} {fI : Addr}
    (cls : h.get? C = some (excClassObj nm q C N bs bm hdct sn sub ab col dd k0 k1 k2 k3 k5 newId))
    (ini : W.Looks (model prog w) h (typeLookup (.ref C) "__init__") (some (.ref fI))) (bnd : ∀ self, W.Looks (model prog w) h (bindSpecial (.ref fI) self) (.ref fI, [self]))
    (z : codeAny (model prog w) (A.under (.builtin "type.__call__" ⟨[.ref C], kw⟩)) (.call (.ref fI) ⟨[.ref (h.objs.size + 1)], kw⟩) (W.InitBack (h.objs.size + 1) R) ⟨(h.push (W.kdv_tup [])).push (excO C h.objs.size), g, d, t, os⟩) :
    codeAny (model prog w) A (.call (.ref C) ⟨[], kw⟩) R ⟨h, g, d, t, os⟩ := by
  have look := tc_lookup
  have bind := tc_bind (.ref C)
  have ty : (⟨h, g, d, t, os⟩ : Shared).TypeIs (.ref C) "type" := ⟨_, cls, rfl⟩
  refine codeAny_of_tree ?_
  show wpAny _ _ (callAny (.ref C) _) _ _ _
  repeat (any_goals (first | assumption | with_reducible refine wpAny_loadPart_at cls ?_ | wp_step))
  refine ⟨rfl, ?_⟩
  refine codeAny_call_builtin_at (Code.quiet_builtin _ (by decide +kernel)) entry_typeCall (W.check_slot tc_kind tc_split ?_ (W.tc_args _ [] kw) ?_)
  · exact instTy cls
  · refine type_callK F same cls ini bnd ?_
    refine codeAny_mono z fun r s' y => ?_
    rcases r with e | (v | _ | _ | _) <;> exact y
end
end HandSPX
end PySem

/-! Exceptions of a program's own classes as values: over any base of the library's, called by place or by name, their fields read, isinstance of them. -/
namespace PySem
namespace HandSPX
open Builtin Builtin.ObjectAttr
section
variable {prog : Program} {w : World} {A : Around} {E : Value → Shared → Prop} {R : Result → Shared → Prop} {hp : Heap} {g : Array GenState} {d : Drawn} {t : Nat} {os : OsState}
/-- the first store into an exception that has no dict: told of the classes above by what they let pass -/
theorem store_first {K : W.Frag} {name : Str} {tk : Tok} {v : Value} {x C : Addr} {fv : Array Value} {cd : ClassData} (X : K.In hp) (here : hp.get? x = some { cls := .ref C, data := .fields fv }) (dat : W.clsIn K C = some cd)
    (full : cd.mro.isEmpty = false) (top : cd.mro.contains (.type "object") = true) (lets : refuseLoop (.ref x) "__setattr__" cd.mro = pure ()) (dic : cd.hasDict = true) (no : W.findIn K (.ref C) name = some none)
    (z : ∀ h' tk' dx, (∀ b o, b ≠ x → hp.get? b = some o → h'.get? b = some o) → hp.objs.size ≤ dx → dx ≠ x → h'.get? x = some { cls := .ref C, dict := some dx, data := .fields fv } →
      h'.Ns1 dx (fun y => if y = name then some v else none) → R (.ok (.ret .none)) ⟨h', g, d, tk', os⟩) :
    codeAny (model prog w) A (.call (.builtin "object.__setattr__") ⟨[.ref x, .str name tk, v], []⟩) R ⟨hp, g, d, t, os⟩ := by
  have inst : W.InstAt hp x { cls := .ref C, data := .fields fv } C none := ⟨here, rfl, rfl, trivial⟩
  have facts := F.store_object
  have apart : x ≠ hp.objs.size := Nat.ne_of_lt (Heap.lt_size here)
  have is_ : W.Looks (model prog w) hp (isInstance (.ref x) (.type "object")) true := inst.type.andThen (W.looks_mroIn X (by unfold W.mroIn; rw [dat, Option.bind_some, if_neg (by rw [full]; decide), top]))
  refine codeAny_call_builtin facts.slot.plain facts.entry (@W.check_slot (model prog w) _ _ ⟨hp, g, d, t, os⟩ "object.__setattr__" "object" "__setattr__" (.ref x) [.str name tk, v] [] _ facts.kind facts.split is_ (facts.args (.ref x) (.str name tk) v) ?_)
  have chain : W.Looks (model prog w) hp (mroOf (.ref C)) cd.mro := (W.looks_clsIn X dat).andThen .now
  have taker : W.Looks (model prog w) hp (storeTaker? none) none := .now
  have data : W.Looks (model prog w) hp (classData C) cd := W.looks_clsIn X dat
  rw [W.osa_eq, refuse_eq]
  refine wpAny_bind (wpAny_bind (inst.type.at (wpAny_bind (chain.at ?_))))
  rw [lets]
  refine wpAny_pure (wpAny_bind (inst.type.at (wpAny_bind ((W.looks_findIn X no).at (wpAny_bind (taker.at ?_))))))
  show wpAny _ _ (storeInOwnDict (.ref x) (.ref C) (.str name tk) name v false) _ _ _
  obtain ⟨nm, bs, mro, ns, qn, hd, sn, sb, ab, col, del⟩ := cd
  dsimp only at dic
  subst dic
  unfold storeInOwnDict ownDictForStores
  repeat (first | with_reducible refine store_in_new ?_ ?_ | with_reducible refine wpAny_loadPart_at here ?_ | with_reducible refine data.at ?_ | wp_step)
  · exact ⟨_, #[], _, (Heap.get?_update_ne _ _ _ _ apart.symm).trans (Heap.get?_push_at rfl rfl), rfl, fun e he => absurd he (by simp), fun _ => rfl⟩
  · intro h' tk' hn' hs
    have now_ : (hp.push { cls := .type "dict", data := .dict #[] }).get? x = some { cls := .ref C, data := .fields fv } := Heap.get?_push_of_some _ here
    exact z h' tk' hp.objs.size (fun b o hb ho => (hs.2 b (Nat.ne_of_lt (Heap.lt_size ho))).trans ((Heap.get?_update_ne _ _ _ _ hb).trans (Heap.get?_push_of_some _ ho))) (Nat.le_refl _) apart.symm
      ((hs.2 x apart).trans (Heap.get?_update_self _ now_ rfl)) hn'
end
end HandSPX
end PySem

namespace OO
open PySem PySem.Spec PyProof.Rows L2 TL GG
/-- what is known of an exception class C of one's own, over a base of the library's -/
structure ExB (K : PySem.W.Frag) (mg : Str → Option Value) (nm : Str) (C fI : Addr) : Prop where
  g : mg nm = some (.ref C)
  cls : ∃ (nn q : Str) (N : Addr) (bs bm bmB : List Value) (sn : List Str) (sub : List Value) (ab : Bool) (col : Option Bool) (dd : Option Addr) (k0 k1 k2 k3 k5 : Option Value) (newId B initId : String),
    K.lookup C = some (excClassObj nn q C N bs bm true sn sub ab col dd k0 k1 k2 k3 k5 newId) ∧ PySem.W.excTail bmB bm = true ∧ ExcBaseFacts B newId initId bmB ∧ (∀ self, refuseLoop self "__setattr__" bmB = pure ()) ∧ bmB.contains (.type "object") = true
  sa : PySem.W.findIn K (.ref C) "__setattr__" = some (some (.builtin "object.__setattr__"))
  ex : PySem.W.subIn K (.ref C) (.type "BaseException") = some true
  kC : PySem.W.keepIn K (.ref C) = true
  ga : PySem.W.findIn K (.ref C) "__getattribute__" = some (some (.builtin "BaseException.__getattribute__"))
  gg : PySem.W.findIn K (.ref C) "__getattr__" = some none
  hd : PySem.W.hasDictIn K C = true
  i : PySem.W.findIn K (.ref C) "__init__" = some (some (.ref fI))
  t : PySem.W.typeIn K (.ref fI) = some (.type "function")
  cl : PySem.W.findIn K (.ref C) "__class__" = some (some (.builtin "object.__class__"))
  mo : PySem.W.mroIn K C (.type "object") = some true
/-- how object.__class__ is bound -/
structure ClsD (K : PySem.W.Frag) : Prop where
  hn : PySem.W.specialIn K (.builtin "object.__class__") "__get__" = some (some (.builtin "getset_descriptor.__get__"))
  tk : PySem.W.takesIn K (.builtin "object.__class__") = some true
section
variable {X : Cx} {nm : Str} {C fI : Addr} {pins : List (Addr × Obj)} {σ : L2.St} {H : Hp} {s : Shared} {a dx : Addr} {f : Str} {y : V} {u : Value} {fs : List (Str × V)} {E : Value → Shared → Prop} {A : Around}
theorem ost_first {Q : Unit → Shared → Prop} (T : ExB X.K X.mg nm C fI) (I : Inv X pins σ H s) (e : H a = some (exo a C none)) (no : PySem.W.findIn X.K (.ref C) f = some none) (ry : RelV y u)
    (z : ∀ dx s', H dx = none → dx ≠ a → Inv X pins σ (upd (upd H dx (exd dx [(f, y)])) a (exo a C (some dx))) s' → Q () s') : wpAny (model X.prog X.w) A (setAttr (.ref a) f u) Q E s := by
  obtain ⟨nn, q, N, bs, bm, bmB, sn, sub, ab, col, dd, k0, k1, k2, k3, k5, newId, B, initId, hC, tail, _, pass, obj⟩ := T.cls
  have dat : PySem.W.clsIn X.K C = some { name := nn, bases := bs, mro := .ref C :: bm, ns := N, qualname := q, hasDict := true, slotNames := sn, subclasses := sub, abstract := ab, collection := col, hasDel := false } := by
    unfold PySem.W.clsIn
    rw [hC] <;> rfl
  obtain ⟨t1, ho⟩ := exo_at I.hok e
  obtain ⟨hp, g, d, t, os⟩ := s
  refine PySem.W.set_plain I.kIn (ox := { cls := .ref C, dict := none, data := .fields #[.ref t1, .none, .none, .none, .bool false, .none] }) (od := none) ⟨ho, rfl, rfl, trivial⟩ T.sa ?_
  refine PySem.HandSPX.store_first I.kIn ho dat rfl (by rw [List.contains_cons, PySem.W.excTail_contains "object" _ tail, obj, Bool.or_true]) (by rw [refuseLoop_ref]; exact PySem.W.excTail_pass _ (pass _) _ tail) rfl no (fun h' tk' dx keep fresh ne now_ names => ?_)
  have nd : H dx = none := I.hok.fresh fresh
  have old : ∀ {b : Addr} {o : Obj}, hp.get? b = some o → b ≠ dx := fun {b o} w => Nat.ne_of_lt (Nat.lt_of_lt_of_le (Heap.lt_size w) fresh)
  have oth : ∀ {b : Addr}, H b = none → b ≠ a := fun {b} n w => by
    rw [w, e] at n
    cases n
  have U : Un X.fs [] H (upd (upd H dx (exd dx [(f, y)])) a (exo a C (some dx))) hp h' := {
    keep := fun b o w n _ _ => keep b o (oth n) w
    slot := fun b o w n _ _ => ⟨o.slots, keep b o (oth n) w⟩
    free := fun b o w n _ => by rw [upd_ne (oth n), upd_ne (old w)]; exact n
    there := fun b o w _ => by
      by_cases hb : b = a
      · exact ⟨_, by rw [hb]; exact now_⟩
      · exact ⟨o, keep b o hb w⟩
    tups := fun b xs w => by rw [upd_ne (at_ne e w exo_tup), upd_ne (ne_of_none w nd)]; exact w
    frzs := fun b o v w => by rw [upd_ne (at_ne e w exo_frz), upd_ne (ne_of_none w nd)]; exact w
    tbls := fun b ps w => ⟨#[], by rw [upd_ne (at_ne e w exo_tbl), upd_ne (ne_of_none w nd), w]; simp⟩ }
  refine z dx _ nd ne (I.un (t' := tk') U fun b o w => ?_)
  by_cases hb : b = a
  · subst hb
    rw [upd_same] at w
    cases w
    exact exo_ok now_
  · rw [upd_ne hb] at w
    by_cases hd : b = dx
    · subst hd
      rw [upd_same] at w
      cases w
      exact exd_ok names (relO_put (fs := []) ry fun _ => True.intro)
    · rw [upd_ne hd] at w
      exact (I.hok b o w).stay (fun c v hc k => keep c v (by
          rcases hc with hc | hc
          · rw [hc]
            exact hb
          · exact at_ne e hc exo_own) k)
        (fun c hc => by rw [upd_ne (at_ne e hc exo_own), upd_ne (ne_of_none hc nd)]; exact hc) (fun c xs hc => by rw [upd_ne (at_ne e hc exo_tup), upd_ne (ne_of_none hc nd)]; exact hc)
/-- self.f = e, the first store into the exception at self -/
def tOstB (C : Addr) (f : Str) (to te : TE) : TS := fun D σ H => te σ H fun y H1 => to σ H1 fun x H2 => ∃ a : Addr, x = .ref a ∧ H2 a = some (exo a C none) ∧ ∀ dx, H2 dx = none → dx ≠ a → D.nx σ (upd (upd H2 dx (exd dx [(f, y)])) a (exo a C (some dx)))
theorem ps_ostB {o e : Expr} {to te : TE} {p' pos : Pos} (T : ExB X.K X.mg nm C fI) (no : PySem.W.findIn X.K (.ref C) f = some none) (ho : PE X o to) (he : PE X e te) (hs : swapsWith e (some (.Attribute o f p')) pos.line X.env = pure false := by rfl) :
    PS X (.Assign [.Attribute o f p'] e pos) (tOstB C f to te) := by
  refine ⟨fun pins s σ H D I h => ?_⟩
  refine plainObj_wpAny_Assign_Attribute (thn (he.run pins s σ H _ I h) fun v s1 ⟨y, H1, I1, r1, q1⟩ => thn (ho.run pins s1 σ H1 _ I1 q1) fun u s2 ⟨x, H2, I2, r2, a, ex, ea, q⟩ => ?_) hs
  subst ex
  obtain rfl : u = Value.ref a := r2
  exact ost_first T I2 ea no r1 fun dx s' n ne J => ⟨σ, _, J, q dx n ne⟩
/-- what a call of the class comes to: the object that its own __init__ got -/
theorem run_mkE {CX : CXT} {k : Nat} {fd : FuncData} {ps ks : List Str} {sp : Sp} {Q : VK} {us ws : List Value} {vs : List V} (T : ExB X.K X.mg nm C fI) (F : FnOk X.prog X.w X.K X.mg X.base CX k fI fd ps sp) (hr : Room (k + 1) X.A)
    (hx : Passes CX X (fun _ _ _ => False)) (I : Inv X pins σ H s) (r : Vals vs (us ++ ws)) (len : us.length ≤ sizeLine) (how : ks = [] ∧ ws = [] ∨ us = [])
    (bnd : ∀ (s : Shared) (self : Value), X.K.In s.heap → BindsTo s fd ⟨self :: us, ks.zip ws⟩ (ps.zip (self :: (us ++ ws))))
    (h : ∀ a, H a = none → sp (.ref a :: vs) (upd H a (exo a C none)) (fun v H2 => v = .non ∧ Q (.ref a) H2) (fun _ _ _ => False)) :
    wpAny (model X.prog X.w) X.A (call (.ref C) us (ks.zip ws)) (EP X pins σ Q) X.xe s := by
  obtain ⟨nn, q, N, bs, bm, bmB, sn, sub, ab, col, dd, k0, k1, k2, k3, k5, newId, B, initId, hC, tail, facts, pass, obj⟩ := T.cls
  obtain ⟨hp, g, dr, tk, os⟩ := s
  have gone : H (hp.objs.size + 1) = none := I.hok.fresh (Nat.le_succ _)
  have keep : ∀ b o, hp.get? b = some o → ((hp.push (PySem.W.kdv_tup us)).push (PySem.HandSPX.excO C hp.objs.size)).get? b = some o := fun b o e => Heap.get?_push_of_some _ (Heap.get?_push_of_some _ e)
  have made : ((hp.push (PySem.W.kdv_tup us)).push (PySem.HandSPX.excO C hp.objs.size)).get? (hp.objs.size + 1) = some (PySem.HandSPX.excO C hp.objs.size) := by heap_get
  have I2 : Inv X pins σ (upd H (hp.objs.size + 1) (exo (hp.objs.size + 1) C none)) ⟨(hp.push (PySem.W.kdv_tup us)).push (PySem.HandSPX.excO C hp.objs.size), g, dr, tk, os⟩ :=
    I.laid (t' := tk) (a := hp.objs.size + 1) (o := exo (hp.objs.size + 1) C none) (h' := (hp.push (PySem.W.kdv_tup us)).push (PySem.HandSPX.excO C hp.objs.size)) keep (Nat.le_succ _) (exo_ok made)
  have r2 : Vals (V.ref (hp.objs.size + 1) :: vs) (Value.ref (hp.objs.size + 1) :: (us ++ ws)) := .cons rfl r
  have body : codeAny (model X.prog X.w) (X.A.under (.builtin "type.__call__" ⟨.ref C :: us, ks.zip ws⟩)) (.call (.ref fI) ⟨.ref (hp.objs.size + 1) :: us, ks.zip ws⟩)
      (PySem.W.InitBack (hp.objs.size + 1) fun rr s' => match rr with | .ok (.ret v) => EP X pins σ Q v s' | .ok _ => False | .error e => X.xe e s') ⟨(hp.push (PySem.W.kdv_tup us)).push (PySem.HandSPX.excO C hp.objs.size), g, dr, tk, os⟩ := by
    refine codeAny_mono (F.run _ X.stack _ _ ⟨Value.ref (hp.objs.size + 1) :: us, ks.zip ws⟩ (Value.ref (hp.objs.size + 1) :: (us ++ ws)) _ _ (fun _ _ _ => False) (hr.make C us (ks.zip ws)) (I2.env0.make C us (ks.zip ws)) (bnd _ _ I2.kIn) r2 (h _ gone)) fun rr s' told => ?_
    rcases rr with er | fl
    · exact hx pins σ _ _ er s' I2 told
    · cases fl with
      | next => exact told.elim
      | brk => exact told.elim
      | cont => exact told.elim
      | ret u =>
        obtain ⟨v, H2, I3, rv, ev, q2⟩ := I2.after told
        subst ev
        exact ⟨rv, V.ref (hp.objs.size + 1), H2, I3, rfl, q2⟩
  rcases how with ⟨rfl, rfl⟩ | rfl
  · exact wpAny_call (PySem.HandSPX.call_own facts (fun Y => PySem.W.excTail_contains Y bm tail) (I.kIn _ _ hC) (PySem.W.looks_findIn I.kIn T.i) (fun self => PySem.W.bind_fn I.kIn self T.t) len body)
  · exact wpAny_call (PySem.HandSPX.call_K facts (fun Y => PySem.W.excTail_contains Y bm tail) (I.kIn _ _ hC) (PySem.W.looks_findIn I.kIn T.i) (fun self => PySem.W.bind_fn I.kIn self T.t) body)
end
end OO

namespace OO
open PySem PySem.Spec PyProof.Rows L2 TL GG
/-- at a: an exception of the class C that holds such fields -/
def ExV (C : Addr) (H : Hp) (a : Addr) (fs : List (Str × V)) : Prop := ∃ dx, H a = some (exo a C (some dx)) ∧ H dx = some (exd dx fs)
theorem ExV.same {C : Addr} {H H' : Hp} {a : Addr} {fs : List (Str × V)} (h : ExV C H a fs) (s : Same H H') : ExV C H' a fs := by
  obtain ⟨dx, h1, h2⟩ := h
  exact ⟨dx, s _ _ h1, s _ _ h2⟩
/-- __init__(self, x, y) that stores both -/
def spExI2 (S : Addr) (f1 f2 : Str) : Sp := fun vs H Q _ => ∃ (a : Addr) (v1 v2 : V), vs = [.ref a, v1, v2] ∧ H a = some (exo a S none) ∧ ∀ dx, H dx = none → dx ≠ a → Q .non (upd (upd (upd H dx (exd dx [(f1, v1)])) a (exo a S (some dx))) dx (exd dx [(f2, v2), (f1, v1)]))
theorem mk1 {S : Addr} {f : Str} {v : V} {H : Hp} {Q : Addr → Hp → Prop} {E : XK} (q : ∀ a H', Same H H' → ExV S H' a [(f, v)] → Q a H') :
    ∀ a, H a = none → spExI S f (.ref a :: [v]) (upd H a (exo a S none)) (fun v' H2 => v' = .non ∧ Q a H2) E := fun a ha => by
  refine ⟨a, v, rfl, upd_same, fun dx hdx ne => ⟨rfl, q a _ (fun b o e => ?_) ⟨dx, upd_same, by rw [upd_ne ne]; exact upd_same⟩⟩⟩
  have h1 : b ≠ a := ne_of_none e ha
  have h2 : b ≠ dx := ne_of_none e (by rw [upd_ne ne] at hdx; exact hdx)
  rw [upd_ne h1, upd_ne h2, upd_ne h1]
  exact e
theorem mk2 {S : Addr} {f1 f2 : Str} {v1 v2 : V} {H : Hp} {Q : Addr → Hp → Prop} {E : XK} (q : ∀ a H', Same H H' → ExV S H' a [(f2, v2), (f1, v1)] → Q a H') :
    ∀ a, H a = none → spExI2 S f1 f2 (.ref a :: [v1, v2]) (upd H a (exo a S none)) (fun v' H2 => v' = .non ∧ Q a H2) E := fun a ha => by
  refine ⟨a, v1, v2, rfl, upd_same, fun dx hdx ne => ⟨rfl, q a _ (fun b o e => ?_) ⟨dx, by rw [upd_ne ne.symm]; exact upd_same, upd_same⟩⟩⟩
  have h1 : b ≠ a := ne_of_none e ha
  have h2 : b ≠ dx := ne_of_none e (by rw [upd_ne ne] at hdx; exact hdx)
  rw [upd_ne h2, upd_ne h1, upd_ne h2, upd_ne h1]
  exact e
/-- C(e, ..) as a value -/
def tMkE (C : Addr) (sp : Sp) (t : TA) : TE := fun σ H Q => t σ H fun vs H1 => vs.length ≤ 1000 ∧ ∀ a, H1 a = none → sp (.ref a :: vs) (upd H1 a (exo a C none)) (fun v H2 => v = .non ∧ Q (.ref a) H2) (fun _ _ _ => False)
section
variable {X : Cx} {nm : Str} {C fI : Addr} {CX : CXT} {k : Nat} {fd : FuncData} {ps ks : List Str} {sp : Sp} {x : Str} {e : Expr} {es : List Expr} {kws : List Keyword} {t : TA} {p pos : Pos}
theorem pe_mkE (T : ExB X.K X.mg x C fI) (F : FnOk X.prog X.w X.K X.mg X.base CX k fI fd ps sp) (hr : Room (k + 1) X.A) (hb : Binds X.K fd ps []) (hx : Passes CX X (fun _ _ _ => False)) (hg : Gl X x) (ha : PA X (e :: es) t)
    (hdb : (x == ("__debug__" : Str)) = false := by decide) (he : starEach (e :: es) X.env = (false, eval e X.env) :: starEach es X.env := by rfl) (hpl : (backTo pos (starEach es X.env)).any (·.1) = false := by rfl) :
    PE X (.Call (.Name x p) (e :: es) [] pos) (tMkE C sp t) := by
  refine ⟨fun pins s σ H Q I h => ?_⟩
  refine wpAny_Call_Name_kw (ld_glob I hg T.g ?_ hdb)
  refine PySem.W.callWith_K (h₀ := X.base) I.ok.mod.kin T.kC (thn (ha.run pos pins s σ H _ I h) fun us s1 ⟨vs, H1, I1, r, hz, q⟩ => ⟨I1.kIn, ?_⟩) he hpl
  have len := r.length
  have e0 : H1 (s1.heap.objs.size) = none := I1.hok.fresh (Nat.le_refl _)
  refine run_mkE (ks := []) (ws := []) T F hr hx I1 (by rw [List.append_nil]; exact r) (Nat.le_of_lt (small1000 (by rw [List.nil_append]; omega))) (.inl ⟨rfl, rfl⟩) (fun s' self hk => ?_) q
  have l2 : ((self :: us) ++ []).length = ps.length := by
    have z := F.len _ _ _ _ (q _ e0)
    rw [List.length_cons] at z
    rw [List.append_nil, List.length_cons, ← len]
    exact z
  have z := hb s' (self :: us) hk l2
  rw [List.append_nil] at z ⊢
  exact z
/-- C(k = e, ..) as a value -/
theorem pe_mkEk (T : ExB X.K X.mg x C fI) (F : FnOk X.prog X.w X.K X.mg X.base CX k fI fd ps sp) (hr : Room (k + 1) X.A) (bnd : ∀ (s : Shared) (self : Value) (ws : List Value), X.K.In s.heap → ws.length = ks.length → BindsTo s fd ⟨[self], ks.zip ws⟩ (ps.zip (self :: ws)))
    (hx : Passes CX X (fun _ _ _ => False)) (hg : Gl X x) (hkw : PK X kws t) (hn : ps.length = ks.length + 1) (hall : (backToKw pos (keywordEach kws X.env)).all (·.1.isSome) = true := by rfl) (hks : (backToKw pos (keywordEach kws X.env)).filterMap (·.1) = ks := by rfl)
    (hdb : (x == ("__debug__" : Str)) = false := by decide) (hpl : ((backTo pos (starEach [] X.env)).any (·.1) || (backToKw pos (keywordEach kws X.env)).any (·.1.isNone)) = false := by rfl) :
    PE X (.Call (.Name x p) [] kws pos) (tMkE C sp t) := by
  refine ⟨fun pins s σ H Q I h => ?_⟩
  refine wpAny_Call_Name_kw (ld_glob I hg T.g ?_ hdb)
  refine PySem.W.callWith_KW0 (h₀ := X.base) I.ok.mod.kin T.kC hall (thn (hkw.run pos pins s σ H _ I h) fun ws s1 ⟨vs, H1, I1, r, hz, q⟩ => ⟨I1.kIn, ?_⟩) hpl
  rw [hks]
  have e0 : H1 (s1.heap.objs.size) = none := I1.hok.fresh (Nat.le_refl _)
  have len := r.length
  have z := F.len _ _ _ _ (q _ e0)
  rw [List.length_cons] at z
  exact run_mkE (us := []) (ws := ws) T F hr hx I1 (by rw [List.nil_append]; exact r) (Nat.zero_le _) (.inr rfl) (fun s' self hk => by rw [List.nil_append]; exact bnd s' self ws hk (by omega)) q
/-- e.n of an exception -/
def tGetE (C : Addr) (n : Str) (te : TE) : TE := fun σ H Q => te σ H fun x H1 => ∃ (a : Addr) (fs : List (Str × V)) (v : V), x = .ref a ∧ ExV C H1 a fs ∧ fs.lookup n = some v ∧ Q v H1
theorem inst_of {pins : List (Addr × Obj)} {σ : L2.St} {H : Hp} {s : Shared} {a : Addr} {fs : List (Str × V)} (I : Inv X pins σ H s) (h : ExV C H a fs) : ∃ (ox od : Obj) (mA : Str → Option Value), PySem.W.InstAt s.heap a ox C (some od) ∧ (∀ name, PySem.W.lookIn name od = some (mA name)) ∧ ∀ f, RelO (fs.lookup f) (mA f) := by
  obtain ⟨dx, h1, h2⟩ := h
  obtain ⟨t1, ho⟩ := exo_at I.hok h1
  obtain ⟨mA, hns, hr⟩ := exd_at I.hok h2
  obtain ⟨od, hod, hl⟩ := lookIn_ns hns
  exact ⟨_, od, mA, ⟨ho, rfl, rfl, hod⟩, hl, hr⟩
theorem pe_getE {n : Str} {te : TE} (T : ExB X.K X.mg nm C fI) (no : PySem.W.findIn X.K (.ref C) n = some none) (he : PE X e te) (hb : attributeBase e n X.env (eval e X.env) = eval e X.env := by rfl) : PE X (.Attribute e n pos) (tGetE C n te) := by
  refine ⟨fun pins s σ H Q I h => ?_⟩
  refine attr_of hb (thn (he.run pins s σ H _ I h) fun u s1 ⟨y, H1, I1, ry, a, fs, v, ey, ex, l, q⟩ => ?_)
  subst ey
  obtain rfl : u = Value.ref a := ry
  obtain ⟨ox, od, mA, J, hl, hr⟩ := inst_of I1 ex
  obtain ⟨u, hu, ru⟩ := RelO.some_of (v := v) (o := mA n) (by rw [← l]; exact hr n)
  exact HandSPX.exc_get I1.kIn J T.ga T.gg T.ex (PySem.W.findObj_own T.hd no rfl (by rw [hl, hu])) (handed_of ru) ⟨v, H1, I1.tok _, ru, q⟩
/-- isinstance of an exception -/
def rIsV (K : PySem.W.Frag) (mg : Str → Option Value) : List V → Hp → VK → Prop := fun xs H Q => ∃ (a C fI : Addr) (nm : Str) (fs : List (Str × V)) (c : V) (cv : Value) (b : Bool), xs = [.ref a, c] ∧ ExB K mg nm C fI ∧ ExV C H a fs ∧ ClsV c cv ∧ PySem.W.kitOne K (.ref C) cv = some b ∧ Q (.bl b) H
theorem call_isV (D : ClsD X.K) : CallR X (.builtin "isinstance") (rIsV X.K X.mg) := by
  intro pins s σ H xs us Q I r h
  obtain ⟨a, C, fI, nm, fs, c, cv, b, rfl, T, ex, k, e, q⟩ := h
  obtain ⟨u1, u2, rfl, r1, r2⟩ := vals2 r
  cases (show u1 = Value.ref a from r1)
  have e2 := k.eq r2
  subst e2
  obtain ⟨ox, od, mA, J, _, _⟩ := inst_of I ex
  have hcl : (PySem.W.clsIn X.K C).isSome = true := by
    obtain ⟨cd, hc, _⟩ := PySem.W.any_some T.hd
    rw [hc]
    rfl
  exact PySem.W.kia_one (PySem.W.kitx_exc hcl T.ga T.gg T.ex T.cl D.hn D.tk T.mo) I.kIn J e (fun z => nomatch z) fun tk => ⟨.bl b, H, I.kept (t' := tk) fun _ _ z => z, rfl, q⟩
end
/-- the things of the law: data, and a dict of one entry -/
inductive ThD (K : PySem.W.Frag) (H : Hp) : V → PyData → Prop
  | dat {v : V} {d : PyData} : Dp K H v d → ThD K H v d
  | dic {q : Addr} {z : Str} {i : Int} : H q = some (.dK [(.inr z, .int i)]) → ThD K H (.ref q) (.dict [(.str z, .int i)])
section
variable {X : Cx} {pins : List (Addr × Obj)} {σ : L2.St} {H : Hp} {s : Shared}
theorem ThD.reads (I : Inv X pins σ H s) {v : V} {d : PyData} {u : Value} (h : ThD X.K H v d) (r : RelV v u) : ∃ as, Reads s.heap u d as ∧ (d.hasDict = true → sysModules ∉ as) := by
  cases h with
  | dat hd =>
    obtain ⟨as, rd⟩ := Dp.reads I _ _ _ hd r
    exact ⟨as, rd, PyData.noDict_hsm (dp_noDict _ _ hd)⟩
  | @dic q z i hq =>
    cases (show u = Value.ref q from r)
    obtain ⟨_, hne, vs, kv, o, es, ep, ho, ex, hd, _, pr, _⟩ := dk_of I.hok hq
    cases kv with
    | cons kv1 kv2 =>
      cases kv2
      rename_i p0 _
      obtain ⟨k1, k2⟩ := kv1
      obtain ⟨a0, b0⟩ := p0
      cases (show (Sum.inr z : Key) = a0 from k1)
      obtain ⟨tk, hb⟩ := (show ∃ tk, b0 = Value.int i tk from k2)
      subst hb
      generalize hes : es.toList = el at pr
      cases pr with
      | @cons e1 kv1 es1 kvs1 hk hv hr =>
        cases hr
        rcases keyIs_shape (show keyIs (Sum.inr z) e1.key = true from hk) with ⟨i2, t2, h1, _⟩ | ⟨x2, t2, h1, h2⟩
        · exact nomatch h1
        · cases h1
          have rd : Reads s.heap (.ref q) (.dict [(.str z, .int i)]) (q :: ([] ++ []) ++ ([] ++ [])) := Reads.dict (kvs := [(PyData.str z, PyData.int i)]) ho ex.1 hd (by rw [hes]; show ReadsAll _ [e1.key] _ _; rw [h2]; exact .cons (.str _ _) .nil) (by rw [hes]; show ReadsAll _ [e1.val] _ _; rw [hv]; exact .cons (.int _ _) .nil)
          refine ⟨_, rd, fun _ hm => ?_⟩
          rcases List.mem_cons.mp hm with e | e
          · rw [← e] at hne
            exact absurd (beq_self_eq_true _) (by rw [hne]; exact Bool.false_ne_true)
          · exact nomatch e
theorem th_all (I : Inv X pins σ H s) {v : V} {d : PyData} (h : ThD X.K H v d) : ∀ (n : Nat) (us : List Value), Vals (List.replicate n v) us → ∃ as, ReadsAll s.heap us (List.replicate n d) as ∧ (d.hasDict = true → sysModules ∉ as)
  | 0, us, r => by
    cases r
    exact ⟨_, .nil, fun _ => List.not_mem_nil⟩
  | n + 1, us, r => by
    rw [List.replicate_succ] at r
    cases r with
    | cons r1 r2 =>
      obtain ⟨as, ra, ha⟩ := h.reads I r1
      obtain ⟨bs, rb, hb⟩ := th_all I h n _ r2
      rw [List.replicate_succ]
      refine ⟨_, .cons ra rb, fun hd hm => ?_⟩
      rcases List.mem_append.mp hm with e | e
      · exact ha hd e
      · exact hb hd e
theorem showAll_rep (d : PyData) : ∀ n : Nat, PyData.shownAll (List.replicate n d) = List.replicate n d.shown
  | 0 => by simp only [List.replicate_zero, PyData.shownAll]
  | n + 1 => by rw [List.replicate_succ, List.replicate_succ]; simp only [PyData.shownAll, showAll_rep d n]
theorem showable_rep (d : PyData) (h : d.showable = true) : ∀ n : Nat, PyData.showableAll (List.replicate n d) = true
  | 0 => by simp only [List.replicate_zero, PyData.showableAll]
  | n + 1 => by rw [List.replicate_succ]; simp only [PyData.showableAll, h, showable_rep d h n, Bool.and_self]
theorem hasDict_rep (d : PyData) : ∀ n : Nat, PyData.hasDictAll (List.replicate n d) = true → d.hasDict = true
  | 0, h => by simp [PyData.hasDictAll] at h
  | n + 1, h => by
    rw [List.replicate_succ] at h
    simp only [PyData.hasDictAll, Bool.or_eq_true] at h
    rcases h with h | h
    · exact h
    · exact hasDict_rep d n h
theorem depth_rep (d : PyData) : ∀ n : Nat, PyData.depthAll (List.replicate n d) ≤ d.depth
  | 0 => by simp only [List.replicate_zero, PyData.depthAll]; exact Nat.zero_le _
  | n + 1 => by
    have := depth_rep d n
    rw [List.replicate_succ]
    simp only [PyData.depthAll]
    omega
/-- repr of a list in which one thing stands n + 1 times -/
def rReprR (K : PySem.W.Frag) (xs : List V) (H : Hp) (Q : VK) : Prop := ∃ (p : Addr) (n : Nat) (v : V) (d : PyData), xs = [.ref p] ∧ H p = some (.lst (List.replicate (n + 1) v)) ∧ ThD K H v d ∧ d.showable = true ∧
  (listText (List.replicate (n + 1) d.shown)).length ≤ sizeLine ∧ d.depth ≤ 50 ∧ Q (.str (listText (List.replicate (n + 1) d.shown))) H
theorem call_reprR (gd : X.A.guards = some []) (hu : X.A.units + 65 < cLine) : CallR X (.builtin "repr") (rReprR X.K) := by
  intro pins s σ H xs us Q I r h
  obtain ⟨p, n, v, d, rfl, hp, th, hs, hz, hd, q⟩ := h
  obtain ⟨u, rfl, ru⟩ := vals1 r
  cases (show u = Value.ref p from ru)
  obtain ⟨hl, vs, c, rv, ho⟩ := (show ObjOk X.prog X.w H s.heap p (.lst (List.replicate (n + 1) v)) from I.hok p _ hp)
  obtain ⟨as, ra, no⟩ := th_all I th (n + 1) vs rv
  have rl : Reads s.heap (.ref p) (.list (List.replicate (n + 1) d)) (p :: as) := Reads.list ho rfl rfl (by simpa using ra)
  have hda := depth_rep d (n + 1)
  obtain ⟨bs, hb, hk⟩ := ReprAllK.of_readsAll (prog := X.prog) (w := X.w) ra (showable_rep d hs _) (fun hx => no (hasDict_rep d _ hx)) (fun t ht => Nat.le_trans (listText_mem_le ht) (by rw [showAll_rep]; exact hz))
  have hna : p ∉ bs := not_mem_of_deeper rl (by simp only [PyData.depth]; omega) hb
  rw [showAll_rep] at hk
  cases vs with
  | nil =>
    rw [List.replicate_succ] at rv
    cases rv
  | cons x l =>
    refine call_repr_slot (by omega) ⟨_, ho, rfl⟩ F.slot_list_repr.toG ?_
    exact call_list_reprK ho rfl rfl hna (by simpa using hk.length_eq) (fun i y e => hk.item i y (by simpa using e)) (show X.A.in1.guards = some [] from gd) (fun b _ => Clear.nil b) (by show X.A.units + 1 + (PyData.depthAll (List.replicate (n + 1) d) + 1) < cLine; omega) (fun _ _ z => z)
      (fun h' u tk keep => ⟨_, _, rfl, .str _, H, I.kept (t' := tk) keep, ⟨_, rfl⟩, q⟩) hz
end
end OO

/-! Three parameters ahead of a star; C(a, .., *y); raise of an own class over any base; list.index of texts. -/
namespace OO
open PySem PySem.Spec PyProof.Rows L2 TL GG
theorem bind_star3 {B : List Value → Sem (List (Str × Value))} {p1 p2 p3 pv : Str} (h0 : ∀ a b c, B [a, b, c] = (newTuple [] >>= fun t => pure [(p1, a), (p2, b), (p3, c), (pv, t)])) (h1 : ∀ a b c r rs, B (a :: b :: c :: r :: rs) = (newTuple (r :: rs) >>= fun t => pure [(p1, a), (p2, b), (p3, c), (pv, t)])) :
    ∀ us rest : List Value, us.length = [p1, p2, p3].length → B (us ++ rest) = (newTuple rest >>= fun t => pure ([p1, p2, p3].zip us ++ [(pv, t)]))
  | [a, b, c], [], _ => h0 a b c
  | [a, b, c], r :: rs, _ => h1 a b c r rs
section
variable {P : Program} {w : World} {K : PySem.W.Frag} {mg : Str → Option Value} {base : Heap}
theorem Fun.star3 {CX : CXT} {x ql : Str} {st : Stmt} {f : Addr} {fd : FuncData} {N : List Str} {p1 p2 p3 pv : Str} {k : Nat} {sp : Sp} (F : Fun K x ql st f fd) (S : FnScope N [p1, p2, p3, pv] (defScope st)) (up : StX.CXUp CX)
    (h0 : ∀ (b c d : Value) (e : Option Addr) (g h u v y : Value), bindArgs (PySem.W.fnOf x ql (defArgs st) (defBody st) (defScope st) .none b c d e g h) ⟨[u, v, y], []⟩ = (newTuple [] >>= fun t => pure [(p1, u), (p2, v), (p3, y), (pv, t)]))
    (h1 : ∀ (b c d : Value) (e : Option Addr) (g h u v y r : Value) (rs : List Value), bindArgs (PySem.W.fnOf x ql (defArgs st) (defBody st) (defScope st) .none b c d e g h) ⟨u :: v :: y :: r :: rs, []⟩ = (newTuple (r :: rs) >>= fun t => pure [(p1, u), (p2, v), (p3, y), (pv, t)]))
    (body : ∀ (cd : Value) (A : Around) (outer : List Env) (s : Shared) (H : Hp) (vs : List V) (Q : VK) (E : XK), Room k (A.deeper (envOfC ql (defScope st) s.heap.objs.size f cd)) → sp vs H Q E →
      ∃ t, PSs (cxOf CX P w K mg base N ql (defScope st) f cd A outer s H E) (defBody st) t ∧ t { nx := fun _ H' => Q .non H', rt := Q } (start N vs) H) :
    FnR P w K mg base CX (k + 1) f (spStar 3 sp) := by
  obtain ⟨oc, od, b, c, d, e, g, h, osl, rfl, lk, hcd⟩ := F.ex
  exact star_raw (qs := [p1, p2, p3]) lk hcd S up (bind_star3 (B := fun us => bindArgs (PySem.W.fnOf x ql (defArgs st) (defBody st) (defScope st) .none b c d e g h) ⟨us, []⟩) (h0 b c d e g h) (h1 b c d e g h)) (body g)
end
section
variable {X : Cx} {CX : CXT} {k : Nat} {f C : Addr} {sp : Sp} {E : L2.St → XK} {x : Str} {e : Expr} {es : List Expr} {t : TA} {q pos : Pos}
/-- C(e, .., *y) -/
theorem pe_makeRSt (M : Mk X.K C f) (F : FnR X.prog X.w X.K X.mg X.base CX k f sp) (hr : Room (k + 1) X.A) (hg : Gl X x) (hm : X.mg x = some (.ref C)) (hx : ∀ σ, PassesAt CX X σ (E σ)) (ha : PA X (e :: es) t) (hdb : (x == ("__debug__" : Str)) = false := by decide)
    (he : starEach (e :: es) X.env = (false, eval e X.env) :: starEach es X.env := by rfl) (hst : (backTo pos (starEach es X.env)).any (·.1) = true := by rfl) : PE X (.Call (.Name x q) (e :: es) [] pos) (tMakeRS C sp E t) := by
  refine ⟨fun pins s σ H Q I h => ?_⟩
  refine wpAny_Call_Name_kw (ld_glob I hg hm ?_ hdb)
  refine PySem.W.callWith_S2 (h₀ := X.base) I.ok.mod.kin M.kp (thn (ha.run pos pins s σ H _ I h) fun us s1 ⟨vs, H1, I1, r, q⟩ => ⟨I1.kIn, ?_⟩) he hst
  exact run_makeRS M F hr (hx σ) I1 r q
end
section
variable {X : Cx} {e : Expr} {es : List Expr} {ta : TA} {p pos : Pos}
/-- raise C(e, ..), C an own class over a base of the library's -/
theorem pmk_exb {CX : CXT} {x : Str} {C fI : Addr} {k : Nat} {fd : FuncData} {ps : List Str} {sp : Sp} (T : ExB X.K X.mg x C fI) (tyC : PySem.W.typeIn X.K (.ref C) = some (.type "type"))
    (F1 : FnOk X.prog X.w X.K X.mg X.base CX k fI fd ps sp) (hr : Room (k + 1) X.A) (hb : Binds X.K fd ps []) (hx : Passes CX X (fun _ _ _ => False)) (hg : Gl X x) (ha : PA X (e :: es) ta)
    (hdb : (x == ("__debug__" : Str)) = false := by decide) (he : starEach (e :: es) X.env = (false, eval e X.env) :: starEach es X.env := by rfl) (hpl : (backTo pos (starEach es X.env)).any (·.1) = false := by rfl) :
    PMk X (.Call (.Name x p) (e :: es) [] pos) (tMkO C sp [] ta) := by
  intro pins s σ H Q I h
  obtain ⟨nm, q, N, bs, bm, bmB, sn, sub, ab, col, dd, k0, k1, k2, k3, k5, newId, B, initId, hC, tail, facts, pass, obj⟩ := T.cls
  refine wpAny_Call_Name_kw (ld_glob I hg T.g ?_ hdb)
  refine PySem.W.callWith_K (h₀ := X.base) I.ok.mod.kin T.kC (thn (ha.run pos pins s σ H _ I h) fun us s1 ⟨vs, H1, I1, r1, hz, q1⟩ => ⟨I1.kIn, ?_⟩) he hpl
  show wpAny _ _ (call (.ref C) us) _ _ _
  obtain ⟨hp, g, dr, tk, os⟩ := s1
  have hsz : hp.objs.size ≤ hp.objs.size + 1 := Nat.le_succ _
  have hn : H1 (hp.objs.size + 1) = none := I1.hok.fresh hsz
  have hq := q1 (hp.objs.size + 1) hn
  rw [List.append_nil] at hq
  have kk : ∀ b o, hp.get? b = some o → ((hp.push (PySem.W.kdv_tup us)).push (PySem.HandSPX.excO C hp.objs.size)).get? b = some o := fun b o e => Heap.get?_push_of_some _ (Heap.get?_push_of_some _ e)
  have hget : ((hp.push (PySem.W.kdv_tup us)).push (PySem.HandSPX.excO C hp.objs.size)).get? (hp.objs.size + 1) = some (PySem.HandSPX.excO C hp.objs.size) := by heap_get
  have I2 : Inv X pins σ (upd H1 (hp.objs.size + 1) (exo (hp.objs.size + 1) C none)) ⟨(hp.push (PySem.W.kdv_tup us)).push (PySem.HandSPX.excO C hp.objs.size), g, dr, tk, os⟩ :=
    I1.laid (t' := tk) (a := hp.objs.size + 1) (o := exo (hp.objs.size + 1) C none) (h' := (hp.push (PySem.W.kdv_tup us)).push (PySem.HandSPX.excO C hp.objs.size)) kk hsz (exo_ok hget)
  have r2 : Vals (V.ref (hp.objs.size + 1) :: vs) (Value.ref (hp.objs.size + 1) :: us) := .cons rfl r1
  have hl : (Value.ref (hp.objs.size + 1) :: us ++ []).length = ps.length := by
    have e := r2.length
    rw [F1.len _ _ _ _ hq] at e
    rw [List.append_nil]
    exact e.symm
  have hus : us.length ≤ sizeLine := by
    rw [← Paired.length r1, sizeLine_eq]
    omega
  have hbb := hb ⟨(hp.push (PySem.W.kdv_tup us)).push (PySem.HandSPX.excO C hp.objs.size), g, dr, tk, os⟩ (Value.ref (hp.objs.size + 1) :: us) I2.kIn hl
  rw [List.append_nil] at hbb
  refine wpAny_call (PySem.HandSPX.call_own facts (fun Y => PySem.W.excTail_contains Y bm tail) (I1.kIn _ _ hC) (PySem.W.looks_findIn I1.kIn T.i) (fun self => PySem.W.bind_fn I1.kIn self T.t) hus
    (codeAny_mono (F1.run _ X.stack _ _ ⟨Value.ref (hp.objs.size + 1) :: us, []⟩ (Value.ref (hp.objs.size + 1) :: us) _ _ (fun _ _ _ => False) (hr.make C us []) (I2.env0.make C us []) hbb r2 hq) fun r s' hq' => ?_))
  cases r with
  | error er => exact hx pins σ _ _ er s' I2 hq'
  | ok fl =>
    cases fl with
    | ret u =>
      obtain ⟨v, H2, os2, bare2, un2, hok2, rv, ev, d, fs, ea, ed, hd1, q2⟩ := hq'
      subst ev
      obtain ⟨h2, g2, d2, t2, os'⟩ := s'
      exact ⟨rv, mk_end (raises_own T.ex tyC) I1 hsz kk un2 hok2 os2 bare2 ea ed hd1 q2⟩
    | next => exact False.elim hq'
    | brk => exact False.elim hq'
    | cont => exact False.elim hq'
end
section
variable {X : Cx}
/-- l.index(x), texts -/
def rIdxS (K : PySem.W.Frag) : V → List V → Hp → VK → Prop := fun x xs H Q => ∃ (p : Addr) (ys : List Str) (z : Str), x = .ref p ∧ xs = [.str z] ∧ SqL K H p (ys.map V.str) ∧ z ∈ ys ∧ Q (.int (ys.idxOf z : Nat)) H
theorem mt_lidxS : MtR X "list.index" (rIdxS X.K) := by
  intro pins s σ H x xs v us Q I rx rs h
  obtain ⟨p, ys, z, rfl, rfl, hq, hz, q⟩ := h
  cases rx
  obtain ⟨u, rfl, t, rfl⟩ := vals1 rs
  obtain ⟨its, r, pl, hl⟩ := I.list hq
  rw [List.length_map] at hl
  exact PySem.SeqAt.list_index_strs (vs := its) pl.isList (strsAre_of r) hl hz ⟨.int (ys.idxOf z : Nat), H, I.tok _, ⟨_, rfl⟩, q⟩
/-- t.index(x), texts -/
def rIdxT (K : PySem.W.Frag) : V → List V → Hp → VK → Prop := fun x xs H Q => ∃ (p : Addr) (ys : List Str) (z : Str), x = .ref p ∧ xs = [.str z] ∧ SqT K H p (ys.map V.str) ∧ z ∈ ys ∧ Q (.int (ys.idxOf z : Nat)) H
theorem mt_tidxS : MtR X "tuple.index" (rIdxT X.K) := by
  intro pins s σ H x xs v us Q I rx rs h
  obtain ⟨p, ys, z, rfl, rfl, hq, hz, q⟩ := h
  refine mt_tup_index pins s σ H _ _ v us Q I rx rs ⟨p, ys, z, ys.idxOf z, rfl, rfl, hq, ?_, fun m hm e => ?_, q⟩
  · have h1 : ys.idxOf z < ys.length := List.idxOf_lt_length_iff.mpr hz
    rw [List.getElem?_eq_getElem h1]
    exact congrArg some (List.getElem_idxOf h1)
  · have h1 := List.not_of_lt_findIdx (p := (· == z)) (xs := ys) (i := m) hm
    obtain ⟨h2, h3⟩ := List.getElem?_eq_some_iff.mp e
    rw [h3] at h1
    simp at h1
end
/-- a statement that is never come to -/
theorem ps_no {X : Cx} {s : Stmt} : PS X s (fun _ _ _ => False) := ⟨fun _ _ _ _ _ _ h => h.elim⟩
end OO

/-! Plain books by their pulls: pure facts. -/
namespace PB
open PySem PySem.Spec PyProof.Rows L2 TL GG OO
abbrev wSix : List Str := ["out", "mark", "wait", "empty", "down", "let"]
abbrev wPulls : List Str := ["out", "mark", "wait", "empty", "down", "let", "lock", "unlock"]
abbrev zLock : Str := "lock"
abbrev zUnl : Str := "unlock"
abbrev zOut : Str := "out"
abbrev zEmp : Str := "empty"
abbrev zLet : Str := "let"
/-- pulls that may stand so -/
def PW (ws : List Str) : Prop := ws.Nodup ∧ (∀ w ∈ ws, w ∈ wPulls) ∧ ∀ i : Nat, ws[i]? = some zUnl → zLock ∈ ws.take i
theorem idx_some {ws : List Str} {z : Str} (h : z ∈ ws) : ws[ws.idxOf z]? = some z := by
  have h1 : ws.idxOf z < ws.length := List.idxOf_lt_length_iff.mpr h
  rw [List.getElem?_eq_getElem h1]
  exact congrArg some (List.getElem_idxOf h1)
theorem idx_le {ws : List Str} {z : Str} {i : Nat} (h : ws[i]? = some z) : ws.idxOf z ≤ i := by
  by_cases hn : ws.idxOf z ≤ i
  · exact hn
  · have h1 := List.not_of_lt_findIdx (p := (· == z)) (xs := ws) (i := i) (by unfold List.idxOf at hn; omega)
    obtain ⟨h2, h3⟩ := List.getElem?_eq_some_iff.mp h
    rw [h3] at h1
    simp at h1
theorem idx_len (ws : List Str) (z : Str) : ws.idxOf z ≤ ws.length := List.idxOf_le_length
theorem idx_mem {ws : List Str} {z : Str} : z ∈ ws ↔ ws.idxOf z < ws.length := List.idxOf_lt_length_iff.symm
theorem mem_take {ws : List Str} {z : Str} {m : Nat} (hm : m ≤ ws.length) : z ∈ ws.take m ↔ ws.idxOf z < m := by
  constructor
  · intro h
    obtain ⟨i, hi⟩ := List.getElem?_of_mem h
    have hlt : i < m := by
      have := (List.getElem?_eq_some_iff.mp hi).1
      rw [List.length_take] at this
      omega
    rw [List.getElem?_take, if_pos hlt] at hi
    have := idx_le hi
    omega
  · intro h
    have h1 := idx_some (idx_mem.mpr (by omega : ws.idxOf z < ws.length))
    refine List.mem_of_getElem? (i := ws.idxOf z) ?_
    rw [List.getElem?_take, if_pos h]
    exact h1
theorem idx_eq {ws : List Str} {z : Str} {i : Nat} (hn : ws.Nodup) (h : ws[i]? = some z) : i = ws.idxOf z := by
  have h1 := idx_some (List.mem_of_getElem? h)
  obtain ⟨a, b⟩ := List.getElem?_eq_some_iff.mp h
  obtain ⟨c, d⟩ := List.getElem?_eq_some_iff.mp h1
  exact (List.getElem_inj hn).mp (b.trans d.symm)
theorem PW.lu {ws : List Str} (h : PW ws) (hu : ws.idxOf zUnl < ws.length) : ws.idxOf zLock < ws.idxOf zUnl := by
  have := h.2.2 _ (idx_some (idx_mem.mpr hu))
  exact (mem_take (Nat.le_of_lt hu)).mp this
theorem PW.len {ws : List Str} (h : PW ws) : ws.length ≤ 8 := by
  exact List.Nodup.length_le_of_subset h.1 (l₂ := wPulls) fun w hw => h.2.1 w hw
/-! ### gaps -/
def gapsOf (ws : List Str) : List (Nat × Nat) := (0, ws.idxOf zLock) :: (if zUnl ∈ ws then [(ws.idxOf zUnl + 1, ws.length)] else [])
def lockedAt (ws : List Str) (m : Nat) : Bool := decide (zLock ∈ ws.take m) && !decide (zUnl ∈ ws.take m)
def rowsAt (ws : List Str) (k : Nat) : List (Nat × Nat) :=
  if k = 0 then [] else if k - 1 ≤ ws.idxOf zLock then [(0, k - 1)] else if k - 1 ≤ ws.idxOf zUnl then [(0, ws.idxOf zLock)] else [(0, ws.idxOf zLock), (ws.idxOf zUnl + 1, k - 1)]
theorem rowsAt_end {ws : List Str} (h : PW ws) : rowsAt ws (ws.length + 1) = gapsOf ws := by
  unfold rowsAt gapsOf
  have h1 := idx_len ws zLock
  have h2 := idx_len ws zUnl
  rw [if_neg (by omega), Nat.add_sub_cancel]
  by_cases hu : zUnl ∈ ws
  · have h3 := idx_mem.mp hu
    have h4 := h.lu h3
    rw [if_neg (by omega), if_neg (by omega), if_pos hu]
  · have h3 : ¬ ws.idxOf zUnl < ws.length := fun z => hu (idx_mem.mpr z)
    rw [if_neg hu]
    by_cases hl : ws.length ≤ ws.idxOf zLock
    · rw [if_pos hl]
      have : ws.length = ws.idxOf zLock := by omega
      rw [this]
    · rw [if_neg hl, if_pos (by omega)]
theorem locked_iff {ws : List Str} {m : Nat} (hm : m ≤ ws.length) : lockedAt ws m = true ↔ ws.idxOf zLock < m ∧ m ≤ ws.idxOf zUnl := by
  unfold lockedAt
  rw [Bool.and_eq_true, decide_eq_true_iff, Bool.not_eq_true', decide_eq_false_iff_not, mem_take hm, mem_take hm]
  omega
/-- what one turn does -/
inductive TurnAt (ws : List Str) (k : Nat) : Prop
  | same : lockedAt ws k = true → rowsAt ws (k + 1) = rowsAt ws k → TurnAt ws k
  | more (a b : Nat) (r : List (Nat × Nat)) : lockedAt ws k = false → 0 < k → rowsAt ws k = r ++ [(a, b)] → b + 1 = k → ws[k - 1]? ≠ some zUnl → rowsAt ws (k + 1) = r ++ [(a, k)] → TurnAt ws k
  | new : lockedAt ws k = false → (k = 0 ∨ (0 < k ∧ ∃ r a b, rowsAt ws k = r ++ [(a, b)] ∧ b + 1 ≠ k)) → rowsAt ws (k + 1) = rowsAt ws k ++ [(k, k)] → TurnAt ws k
theorem rA {ws : List Str} {j : Nat} (h : j ≤ ws.idxOf zLock) : rowsAt ws (j + 1) = [(0, j)] := by
  show (if j + 1 = 0 then [] else if j + 1 - 1 ≤ ws.idxOf zLock then [(0, j + 1 - 1)] else _) = _
  rw [if_neg (Nat.succ_ne_zero j), Nat.add_sub_cancel, if_pos h]
theorem rB {ws : List Str} {j : Nat} (h : ws.idxOf zLock < j) (k : j ≤ ws.idxOf zUnl) : rowsAt ws (j + 1) = [(0, ws.idxOf zLock)] := by
  show (if j + 1 = 0 then [] else if j + 1 - 1 ≤ ws.idxOf zLock then [(0, j + 1 - 1)] else if j + 1 - 1 ≤ ws.idxOf zUnl then _ else _) = _
  rw [if_neg (Nat.succ_ne_zero j), Nat.add_sub_cancel, if_neg (Nat.not_le.mpr h), if_pos k]
theorem rC {ws : List Str} {j : Nat} (h : ws.idxOf zLock < j) (k : ws.idxOf zUnl < j) : rowsAt ws (j + 1) = [(0, ws.idxOf zLock), (ws.idxOf zUnl + 1, j)] := by
  show (if j + 1 = 0 then [] else if j + 1 - 1 ≤ ws.idxOf zLock then [(0, j + 1 - 1)] else if j + 1 - 1 ≤ ws.idxOf zUnl then _ else [(0, ws.idxOf zLock), (ws.idxOf zUnl + 1, j + 1 - 1)]) = _
  rw [if_neg (Nat.succ_ne_zero j), Nat.add_sub_cancel, if_neg (Nat.not_le.mpr h), if_neg (Nat.not_le.mpr k)]
theorem turn {ws : List Str} (h : PW ws) {k : Nat} (hk : k ≤ ws.length) : TurnAt ws k := by
  have hl := locked_iff hk
  have h1 := idx_len ws zLock
  have h2 := idx_len ws zUnl
  have hlu := h.lu
  by_cases c1 : ws.idxOf zLock < k ∧ k ≤ ws.idxOf zUnl
  · refine .same (hl.mpr c1) ?_
    obtain ⟨j, rfl⟩ : ∃ j, k = j + 1 := ⟨k - 1, by omega⟩
    rw [rB (j := j + 1) c1.1 c1.2]
    by_cases c2 : j ≤ ws.idxOf zLock
    · rw [rA c2]
      have : j = ws.idxOf zLock := by omega
      rw [this]
    · rw [rB (by omega) (by omega)]
  · have hf : lockedAt ws k = false := by
      cases hc : lockedAt ws k with
      | false => rfl
      | true => exact absurd (hl.mp hc) c1
    have hun : ∀ j : Nat, ws[j]? = some zUnl → j = ws.idxOf zUnl := fun j hj => idx_eq h.1 hj
    cases k with
    | zero => exact .new hf (.inl rfl) (by rw [rA (Nat.zero_le _)]; rfl)
    | succ j =>
      by_cases c2 : j + 1 ≤ ws.idxOf zLock
      · refine .more 0 j [] hf (Nat.succ_pos j) (by rw [rA (by omega)]; rfl) rfl (fun z => ?_) (by rw [rA c2]; rfl)
        have := hun _ z
        rw [Nat.add_sub_cancel] at this
        omega
      · have c3 : ws.idxOf zUnl < j + 1 := by omega
        have c4 := hlu (by omega)
        by_cases c5 : j = ws.idxOf zUnl
        · refine .new hf (.inr ⟨Nat.succ_pos j, [], 0, ws.idxOf zLock, by rw [rB (by omega) (by omega)]; rfl, by omega⟩) ?_
          rw [rC (by omega) (by omega), rB (by omega) (by omega), c5]
          rfl
        · refine .more (ws.idxOf zUnl + 1) j [(0, ws.idxOf zLock)] hf (Nat.succ_pos j) (by rw [rC (by omega) (by omega)]; rfl) rfl (fun z => ?_) (by rw [rC (by omega) (by omega)]; rfl)
          have := hun _ z
          rw [Nat.add_sub_cancel] at this
          omega
theorem rows_len (ws : List Str) (k : Nat) : (rowsAt ws k).length ≤ 2 := by
  unfold rowsAt
  split
  · exact Nat.zero_le _
  · split
    · exact Nat.le_succ 1
    · split
      · exact Nat.le_succ 1
      · exact Nat.le_refl 2
/-! ### openings -/
def startsOf (o : Str) (ws : List Str) : List Nat :=
  if o = "locked" then ((gapsOf ws).filter fun g => decide (g.1 ≤ ws.idxOf zOut) && decide (ws.idxOf zEmp + 1 ≤ g.2)).map fun g => max g.1 (ws.idxOf zEmp + 1) else [ws.idxOf zEmp + 1]
def leastOf (o : Str) (ws : List Str) : Option Nat := ((startsOf o ws).filter fun n => decide (n ≤ ws.idxOf zLet)).head?
def opsOf (o : Str) (ws : List Str) : List (Nat × Nat) := (0, ws.idxOf zEmp) :: (if zEmp ∈ ws then ((leastOf o ws).toList.map fun n => (n, ws.length)) else [])
def candAt (o : Str) (ws : List Str) (m : Nat) : Bool :=
  decide (zEmp ∈ ws.take m) && !decide (zLet ∈ ws.take m) && (!decide (o = "locked") || (gapsOf ws).any fun g => decide (g.1 ≤ m) && decide (m ≤ g.2) && !decide (zOut ∈ ws.take g.1))
theorem head_filter1 {p : Nat → Bool} {x : Nat} : ([x].filter p).head? = if p x = true then some x else none := by
  cases h : p x <;> simp [List.filter, h]
theorem least_find {o : Str} {ws : List Str} (h : PW ws) (he : zEmp ∈ ws) : (List.range (ws.length + 1)).find? (candAt o ws) = leastOf o ws := by
  have h1 := idx_mem.mp he
  have hl := idx_len ws zLock
  have hu := idx_len ws zUnl
  have hx := idx_len ws zOut
  have ht := idx_len ws zLet
  have hlu := h.lu
  have cand : ∀ m, m ≤ ws.length → (candAt o ws m = true ↔ ws.idxOf zEmp < m ∧ m ≤ ws.idxOf zLet ∧ (o = "locked" → m ≤ ws.idxOf zLock ∨ (ws.idxOf zUnl < m ∧ ws.idxOf zUnl + 1 ≤ ws.idxOf zOut))) := by
    intro m hm
    unfold candAt gapsOf
    rw [Bool.and_eq_true, Bool.and_eq_true, decide_eq_true_iff, Bool.not_eq_true', decide_eq_false_iff_not, mem_take hm, mem_take hm, Bool.or_eq_true, Bool.not_eq_true', decide_eq_false_iff_not, List.any_cons, Bool.or_eq_true, Bool.and_eq_true, Bool.and_eq_true, decide_eq_true_iff, decide_eq_true_iff, Bool.not_eq_true', decide_eq_false_iff_not]
    rw [mem_take (Nat.zero_le _)]
    by_cases hun : zUnl ∈ ws
    · have h3 := idx_mem.mp hun
      rw [if_pos hun, List.any_cons, List.any_nil, Bool.or_false, Bool.and_eq_true, Bool.and_eq_true, decide_eq_true_iff, decide_eq_true_iff, Bool.not_eq_true', decide_eq_false_iff_not, mem_take (by show ws.idxOf zUnl + 1 ≤ ws.length; omega)]
      by_cases ho : o = "locked"
      · simp only [ho, true_implies, not_true_eq_false, false_or]
        omega
      · simp only [ho, false_implies, not_false_eq_true, true_or, and_true]
        omega
    · have h3 : ¬ ws.idxOf zUnl < ws.length := fun z => hun (idx_mem.mpr z)
      rw [if_neg hun, List.any_nil]
      by_cases ho : o = "locked"
      · simp only [ho, true_implies, not_true_eq_false, false_or, Bool.false_eq_true, or_false]
        omega
      · simp only [ho, false_implies, not_false_eq_true, true_or, and_true]
        omega
  have found : ∀ r, r ≤ ws.length → candAt o ws r = true → (∀ j, j < r → ¬ candAt o ws j = true) → (List.range (ws.length + 1)).find? (candAt o ws) = some r := by
    intro r hr hc hj
    rw [List.find?_range_eq_some]
    exact ⟨hc, List.mem_range.mpr (by omega), fun j hjr => by
      cases hq : candAt o ws j with
      | false => rfl
      | true => exact absurd hq (hj j hjr)⟩
  have absent : (∀ j, j ≤ ws.length → ¬ candAt o ws j = true) → (List.range (ws.length + 1)).find? (candAt o ws) = none := by
    intro hj
    rw [List.find?_eq_none]
    intro j hjm
    exact hj j (by have := List.mem_range.mp hjm; omega)
  unfold leastOf startsOf
  by_cases ho : o = "locked"
  · rw [if_pos ho]
    have cand2 : ∀ m, m ≤ ws.length → (candAt o ws m = true ↔ ws.idxOf zEmp < m ∧ m ≤ ws.idxOf zLet ∧ (m ≤ ws.idxOf zLock ∨ (ws.idxOf zUnl < m ∧ ws.idxOf zUnl + 1 ≤ ws.idxOf zOut))) := fun m hm => by
      rw [cand m hm]
      simp only [ho, true_implies]
    by_cases hun : zUnl ∈ ws
    · have h3 := idx_mem.mp hun
      have h4 := hlu h3
      have eg : gapsOf ws = [(0, ws.idxOf zLock), (ws.idxOf zUnl + 1, ws.length)] := by unfold gapsOf; rw [if_pos hun]
      rw [eg]
      by_cases a1 : ws.idxOf zEmp + 1 ≤ ws.idxOf zLock
      · have e1 : (decide ((0, ws.idxOf zLock).1 ≤ ws.idxOf zOut) && decide (ws.idxOf zEmp + 1 ≤ (0, ws.idxOf zLock).2)) = true := by simp [a1]
        rw [List.filter_cons, if_pos e1, List.map_cons]
        have m1 : max (0, ws.idxOf zLock).1 (ws.idxOf zEmp + 1) = ws.idxOf zEmp + 1 := by simp
        rw [m1]
        by_cases a2 : ws.idxOf zEmp + 1 ≤ ws.idxOf zLet
        · rw [List.filter_cons, if_pos (decide_eq_true a2)]
          refine found _ (by omega) ((cand2 _ (by omega)).mpr ⟨by omega, a2, .inl a1⟩) fun j hj hc => ?_
          have := (cand2 j (by omega)).mp hc
          omega
        · have e3 : ∀ (l : List Nat), (∀ n ∈ l, ws.idxOf zEmp + 1 ≤ n) → (l.filter fun n => decide (n ≤ ws.idxOf zLet)) = [] := fun l hl2 => List.filter_eq_nil_iff.mpr fun n hn => by
            have := hl2 n hn
            simp; omega
          rw [e3 _ (fun n hn => ?_)]
          · exact absent fun j hj hc => by
              have := (cand2 j hj).mp hc
              omega
          · rcases List.mem_cons.mp hn with rfl | hn
            · exact Nat.le_refl _
            · obtain ⟨g, _, rfl⟩ := List.mem_map.mp hn
              exact Nat.le_max_right _ _
      · have e1 : ¬ (decide ((0, ws.idxOf zLock).1 ≤ ws.idxOf zOut) && decide (ws.idxOf zEmp + 1 ≤ (0, ws.idxOf zLock).2)) = true := by simp; omega
        rw [List.filter_cons, if_neg e1]
        by_cases a3 : ws.idxOf zUnl + 1 ≤ ws.idxOf zOut
        · have e2 : (decide ((ws.idxOf zUnl + 1, ws.length).1 ≤ ws.idxOf zOut) && decide (ws.idxOf zEmp + 1 ≤ (ws.idxOf zUnl + 1, ws.length).2)) = true := by
            rw [Bool.and_eq_true, decide_eq_true_iff, decide_eq_true_iff]
            exact ⟨a3, by show ws.idxOf zEmp + 1 ≤ ws.length; omega⟩
          rw [List.filter_cons, if_pos e2, List.filter_nil, List.map_cons, List.map_nil, head_filter1]
          have m2 : max (ws.idxOf zUnl + 1, ws.length).1 (ws.idxOf zEmp + 1) = max (ws.idxOf zUnl + 1) (ws.idxOf zEmp + 1) := rfl
          rw [m2]
          by_cases a4 : max (ws.idxOf zUnl + 1) (ws.idxOf zEmp + 1) ≤ ws.idxOf zLet
          · rw [if_pos (decide_eq_true a4)]
            refine found _ (by omega) ((cand2 _ (by omega)).mpr ⟨by omega, a4, .inr ⟨by omega, a3⟩⟩) fun j hj hc => ?_
            have := (cand2 j (by omega)).mp hc
            omega
          · rw [if_neg (fun z => a4 (of_decide_eq_true z))]
            exact absent fun j hj hc => by
              have := (cand2 j hj).mp hc
              omega
        · have e2 : ¬ (decide ((ws.idxOf zUnl + 1, ws.length).1 ≤ ws.idxOf zOut) && decide (ws.idxOf zEmp + 1 ≤ (ws.idxOf zUnl + 1, ws.length).2)) = true := by
            rw [Bool.and_eq_true, decide_eq_true_iff, decide_eq_true_iff]
            exact fun z => a3 z.1
          rw [List.filter_cons, if_neg e2]
          exact absent fun j hj hc => by
            have := (cand2 j hj).mp hc
            omega
    · have h3 : ¬ ws.idxOf zUnl < ws.length := fun z => hun (idx_mem.mpr z)
      have eg : gapsOf ws = [(0, ws.idxOf zLock)] := by unfold gapsOf; rw [if_neg hun]
      rw [eg]
      by_cases a1 : ws.idxOf zEmp + 1 ≤ ws.idxOf zLock
      · have e1 : (decide ((0, ws.idxOf zLock).1 ≤ ws.idxOf zOut) && decide (ws.idxOf zEmp + 1 ≤ (0, ws.idxOf zLock).2)) = true := by simp [a1]
        rw [List.filter_cons, if_pos e1, List.filter_nil, List.map_cons, List.map_nil, head_filter1]
        have m1 : max (0, ws.idxOf zLock).1 (ws.idxOf zEmp + 1) = ws.idxOf zEmp + 1 := by simp
        rw [m1]
        by_cases a2 : ws.idxOf zEmp + 1 ≤ ws.idxOf zLet
        · rw [if_pos (decide_eq_true a2)]
          refine found _ (by omega) ((cand2 _ (by omega)).mpr ⟨by omega, a2, .inl a1⟩) fun j hj hc => ?_
          have := (cand2 j (by omega)).mp hc
          omega
        · rw [if_neg (fun z => a2 (of_decide_eq_true z))]
          exact absent fun j hj hc => by
            have := (cand2 j hj).mp hc
            omega
      · have e1 : ¬ (decide ((0, ws.idxOf zLock).1 ≤ ws.idxOf zOut) && decide (ws.idxOf zEmp + 1 ≤ (0, ws.idxOf zLock).2)) = true := by simp; omega
        rw [List.filter_cons, if_neg e1]
        exact absent fun j hj hc => by
          have := (cand2 j hj).mp hc
          omega
  · rw [if_neg ho, head_filter1]
    by_cases a2 : ws.idxOf zEmp + 1 ≤ ws.idxOf zLet
    · rw [if_pos (decide_eq_true a2)]
      refine found _ (by omega) ((cand _ (by omega)).mpr ⟨by omega, a2, fun z => absurd z ho⟩) fun j hj hc => ?_
      have := (cand j (by omega)).mp hc
      omega
    · rw [if_neg (fun z => a2 (of_decide_eq_true z))]
      exact absent fun j hj hc => by
        have := (cand j hj).mp hc
        omega
/-! ### drawn pulls -/
theorem nodup_ins {ws : List Str} {z : Str} (h : ws.Nodup) (hz : z ∉ ws) (n : Nat) : (ws.take n ++ z :: ws.drop n).Nodup := by
  have e : (ws.take n ++ z :: ws.drop n).Perm (z :: ws) := by
    have := List.perm_middle (l₁ := ws.take n) (a := z) (l₂ := ws.drop n)
    rwa [List.take_append_drop] at this
  exact e.symm.nodup (List.nodup_cons.mpr ⟨hz, h⟩)
theorem mem_ins {ws : List Str} {z w : Str} {n : Nat} : w ∈ ws.take n ++ z :: ws.drop n ↔ w = z ∨ w ∈ ws := by
  have e : (ws.take n ++ z :: ws.drop n).Perm (z :: ws) := by
    have := List.perm_middle (l₁ := ws.take n) (a := z) (l₂ := ws.drop n)
    rwa [List.take_append_drop] at this
  rw [e.mem_iff, List.mem_cons]
theorem pw_six {ws : List Str} (h : ws.Nodup) (k : ∀ w ∈ ws, w ∈ wSix) : PW ws := by
  refine ⟨h, fun w hw => ?_, fun i hi => ?_⟩
  · have := k w hw
    exact List.mem_append.mpr (.inl this : w ∈ wSix ∨ w ∈ (["lock", "unlock"] : List Str))
  · exact absurd (k _ (List.mem_of_getElem? hi)) (by decide +kernel)
/-- with a lock, and with an unlock or without -/
theorem pw_lock {ws : List Str} (h : ws.Nodup) (k : ∀ w ∈ ws, w ∈ wSix) {a b : Nat} (hab : a ≤ b) (u : Bool) : PW (ws.take a ++ zLock :: ((ws.drop a).take (b - a) ++ ((if u = true then [zUnl] else []) ++ ws.drop b))) := by
  have hl : zLock ∉ ws := fun z => absurd (k _ z) (by decide +kernel)
  have hu : zUnl ∉ ws := fun z => absurd (k _ z) (by decide +kernel)
  have hsplit : (ws.drop a).take (b - a) ++ ws.drop b = ws.drop a := by
    have : ws.drop b = (ws.drop a).drop (b - a) := by rw [List.drop_drop]; congr 1; omega
    rw [this, List.take_append_drop]
  have six8 : ∀ w ∈ ws, w ∈ wPulls := fun w hw => (pw_six h k).2.1 w hw
  cases u with
  | false =>
    have e : ws.take a ++ zLock :: ((ws.drop a).take (b - a) ++ ((if false = true then [zUnl] else []) ++ ws.drop b)) = ws.take a ++ zLock :: ws.drop a := by
      rw [if_neg (by decide), List.nil_append, hsplit]
    rw [e]
    refine ⟨nodup_ins h hl a, fun w hw => ?_, fun i hi => ?_⟩
    · rcases mem_ins.mp hw with rfl | hw
      · decide +kernel
      · exact six8 w hw
    · rcases mem_ins.mp (List.mem_of_getElem? hi) with hz | hz
      · exact absurd hz (by decide +kernel)
      · exact absurd hz hu
  | true =>
    have ep : (ws.take a ++ zLock :: ((ws.drop a).take (b - a) ++ ((if true = true then [zUnl] else []) ++ ws.drop b))).Perm (zUnl :: (ws.take a ++ zLock :: ws.drop a)) := by
      rw [if_pos rfl, List.singleton_append]
      have e1 : ws.take a ++ zLock :: ((ws.drop a).take (b - a) ++ zUnl :: ws.drop b) = (ws.take a ++ zLock :: (ws.drop a).take (b - a)) ++ zUnl :: ws.drop b := by simp
      have e2 : ws.take a ++ zLock :: ws.drop a = (ws.take a ++ zLock :: (ws.drop a).take (b - a)) ++ ws.drop b := by
        rw [List.append_assoc, List.cons_append, hsplit]
      rw [e1, e2]
      exact List.perm_middle
    have hnd : (zUnl :: (ws.take a ++ zLock :: ws.drop a)).Nodup := List.nodup_cons.mpr ⟨fun z => by
      rcases mem_ins.mp z with hz | hz
      · exact absurd hz (by decide +kernel)
      · exact hu hz, nodup_ins h hl a⟩
    refine ⟨ep.symm.nodup hnd, fun w hw => ?_, fun i hi => ?_⟩
    · rcases List.mem_cons.mp (ep.mem_iff.mp hw) with rfl | hw
      · decide +kernel
      · rcases mem_ins.mp hw with rfl | hw
        · decide +kernel
        · exact six8 w hw
    · have ei := idx_eq (ep.symm.nodup hnd) (z := zLock) (i := (ws.take a).length) (by
        rw [List.getElem?_append_right (Nat.le_refl _), Nat.sub_self]
        rfl)
      by_cases hc : i ≤ (ws.take a).length
      · exfalso
        rcases Nat.lt_or_eq_of_le hc with hc | hc
        · rw [List.getElem?_append_left hc] at hi
          exact hu (List.mem_of_mem_take (List.mem_of_getElem? hi))
        · rw [hc, List.getElem?_append_right (Nat.le_refl _), Nat.sub_self] at hi
          exact absurd (Option.some.inj hi) (by decide +kernel)
      · refine List.mem_of_getElem? (i := (ws.take a).length) ?_
        rw [List.getElem?_take, if_pos (by omega), List.getElem?_append_right (Nat.le_refl _), Nat.sub_self]
        rfl
end PB

/-! Faults of plain books: pure facts. -/
namespace PB
open PySem PySem.Spec PyProof.Rows L2 TL GG OO
abbrev zMark : Str := "mark"
abbrev zWait : Str := "wait"
abbrev zDown : Str := "down"
abbrev wUses : List Str := ["mark", "wait", "empty"]
def behindLet (ws zs : List Str) : Bool := decide (zLet ∈ ws) && zs.any fun z => decide (z ∈ ws) && decide (ws.idxOf zLet < ws.idxOf z)
def tchL (ws : List Str) (op g : Nat × Nat) : Bool := decide (max op.1 g.1 ≤ ws.idxOf zMark) && decide (max (max op.1 g.1) (ws.idxOf zDown + 1) ≤ min g.2 op.2)
def spans (ws : List Str) (op : Nat × Nat) : List (Nat × Nat) := [(op.1, ws.idxOf zWait), (max op.1 (ws.idxOf zWait + 1), ws.length)]
def tchB (a : Str) (ws : List Str) (op sp : Nat × Nat) : Bool := if (decide (a = "in") && decide (ws.idxOf zMark < sp.1)) = true then false else if (decide (a = "ahead") && decide (ws.idxOf zMark < op.1)) = true then false else decide (max sp.1 (ws.idxOf zDown + 1) ≤ min sp.2 op.2)
def tch (o a : Str) (ws : List Str) : Bool := if a = "locked" then (opsOf o ws).any (fun op => (gapsOf ws).any (tchL ws op)) else (opsOf o ws).any fun op => (spans ws op).any (tchB a ws op)
def usedB (o : Str) (ws : List Str) : Bool := decide (zLet ∈ ws) && (decide (o = "bare") || behindLet ws wUses || (decide (o = "locked") && (gapsOf ws).any fun g => decide (g.1 ≤ ws.idxOf zOut) && decide (ws.idxOf zLet + 1 ≤ g.2)))
def emptyL (ws : List Str) : Bool := decide (zEmp ∈ ws) && !decide (ws.idxOf zEmp < ws.idxOf zLock) && (!decide (zUnl ∈ ws) || decide (ws.idxOf zEmp < ws.idxOf zUnl))
def stuckB (o a : Str) (ws : List Str) : Bool := decide (zLock ∈ ws) && ((decide (a = "locked") && emptyL ws) || (!(decide (zUnl ∈ ws) || !(decide (o = "locked") || decide (a = "locked"))) && (!behindLet ws wUses || (!decide (zEmp ∈ ws) || decide ((opsOf o ws).length = 2)))))
abbrev wFlt : List Str := ["touched", "used", "stuck", "kept"]
def shownB (o a : Str) (ws : List Str) (z : Str) : Bool := if z = "touched" then tch o a ws else if z = "used" then usedB o ws else if z = "stuck" then stuckB o a ws else !decide (zLet ∈ ws)
def fltOf (o a : Str) (ws : List Str) : List Str := wFlt.filter (shownB o a ws)
theorem gaps_le {ws : List Str} {g : Nat × Nat} (hg : g ∈ gapsOf ws) : g.2 ≤ ws.length := by
  unfold gapsOf at hg
  rcases List.mem_cons.mp hg with rfl | hg
  · exact idx_len ws zLock
  · split at hg
    · rw [List.mem_singleton.mp hg]
      exact Nat.le_refl _
    · cases hg
theorem ops_le {o : Str} {ws : List Str} {g : Nat × Nat} (hg : g ∈ opsOf o ws) : g.2 ≤ ws.length := by
  unfold opsOf at hg
  rcases List.mem_cons.mp hg with rfl | hg
  · exact idx_len ws zEmp
  · split at hg
    · cases hL : leastOf o ws with
      | none => rw [hL] at hg; cases hg
      | some n =>
        rw [hL] at hg
        have hg : g ∈ [(n, ws.length)] := hg
        rw [List.mem_singleton.mp hg]
        exact Nat.le_refl _
    · cases hg
theorem tch_down {o a : Str} {ws : List Str} (h : tch o a ws = true) : zDown ∈ ws := by
  refine Decidable.byContradiction fun hd => ?_
  have hn : ws.length ≤ ws.idxOf zDown := by
    have := idx_len ws zDown
    have h6 : ¬ ws.idxOf zDown < ws.length := fun y => hd (idx_mem.mpr y)
    omega
  unfold tch at h
  split at h
  · obtain ⟨op, hop, h⟩ := List.any_eq_true.mp h
    obtain ⟨g, hg, h⟩ := List.any_eq_true.mp h
    unfold tchL at h
    have h2 := of_decide_eq_true (Bool.and_eq_true_iff.mp h).2
    have := gaps_le hg
    omega
  · obtain ⟨op, hop, h⟩ := List.any_eq_true.mp h
    obtain ⟨sp, hsp, h⟩ := List.any_eq_true.mp h
    have := ops_le hop
    unfold tchB at h
    split at h
    · cases h
    · split at h
      · cases h
      · have h2 := of_decide_eq_true h
        omega
theorem tch_in {o : Str} {ws : List Str} (h1 : ws.idxOf zMark < ws.idxOf zWait) (h2 : ws.idxOf zWait < ws.idxOf zDown) : tch o "in" ws = false := by
  unfold tch
  rw [if_neg (by decide +kernel), List.any_eq_false]
  intro op hop
  rw [Bool.not_eq_true, List.any_eq_false]
  intro sp hsp
  rw [Bool.not_eq_true]
  unfold tchB
  rw [decide_eq_true (rfl : ("in" : Str) = "in"), Bool.true_and]
  simp only [spans, List.mem_cons, List.not_mem_nil, or_false] at hsp
  rcases hsp with rfl | rfl
  · split
    · rfl
    · rw [if_neg (by rw [decide_eq_false (by decide +kernel : ¬ (("in" : Str) = "ahead")), Bool.false_and]; decide)]
      exact decide_eq_false (by show ¬ max op.1 (ws.idxOf zDown + 1) ≤ min (ws.idxOf zWait) op.2; omega)
  · rw [if_pos (decide_eq_true (by show ws.idxOf zMark < max op.1 (ws.idxOf zWait + 1); omega))]
theorem tch_none {o : Str} {ws : List Str} (h1 : zDown ∈ ws) (h2 : zEmp ∉ ws) : tch o "none" ws = true := by
  have hd := idx_mem.mp h1
  have he : ws.idxOf zEmp = ws.length := by
    have := idx_len ws zEmp
    have h6 : ¬ ws.idxOf zEmp < ws.length := fun y => h2 (idx_mem.mpr y)
    omega
  have hw := idx_len ws zWait
  have ho : opsOf o ws = [(0, ws.length)] := by unfold opsOf; rw [if_neg h2, he]
  have hB : ∀ op sp : Nat × Nat, tchB "none" ws op sp = decide (max sp.1 (ws.idxOf zDown + 1) ≤ min sp.2 op.2) := fun op sp => by
    unfold tchB
    rw [if_neg (by rw [decide_eq_false (by decide +kernel : ¬ (("none" : Str) = "in")), Bool.false_and]; decide), if_neg (by rw [decide_eq_false (by decide +kernel : ¬ (("none" : Str) = "ahead")), Bool.false_and]; decide)]
  unfold tch
  rw [if_neg (by decide +kernel), ho, List.any_cons, List.any_nil, Bool.or_false]
  unfold spans
  rw [List.any_cons, List.any_cons, List.any_nil, Bool.or_false, hB, hB, Bool.or_eq_true, decide_eq_true_iff, decide_eq_true_iff]
  show max 0 (ws.idxOf zDown + 1) ≤ min (ws.idxOf zWait) ws.length ∨ max (max 0 (ws.idxOf zWait + 1)) (ws.idxOf zDown + 1) ≤ min ws.length ws.length
  omega
/-! ### rows with a pull more or less -/
theorem pw_iff {ws : List Str} (h1 : ws.Nodup) (h2 : ∀ w ∈ ws, w ∈ wPulls) (h3 : ∀ p s, ws = p ++ zUnl :: s → zLock ∈ p) : PW ws := by
  refine ⟨h1, h2, fun i hi => h3 _ (ws.drop (i + 1)) ?_⟩
  obtain ⟨h4, h5⟩ := List.getElem?_eq_some_iff.mp hi
  have := (List.take_append_drop i ws).symm
  rw [List.drop_eq_getElem_cons h4, h5] at this
  exact this
theorem pw_split {ws p s : List Str} (h : PW ws) (e : ws = p ++ zUnl :: s) : zLock ∈ p := by
  have := h.2.2 p.length (by rw [e, List.getElem?_append_right (Nat.le_refl _), Nat.sub_self]; rfl)
  rw [e, List.take_append_of_le_length (Nat.le_refl _), List.take_length] at this
  exact this
theorem pw_del {ws : List Str} (h : PW ws) {q : Str → Bool} (hq : q zLock = true) : PW (ws.filter q) := by
  refine pw_iff (h.1.filter _) (fun w hw => h.2.1 w (List.mem_filter.mp hw).1) fun p s e => ?_
  obtain ⟨l1, l2, e1, e2, e3⟩ := List.filter_eq_append_iff.mp e
  obtain ⟨l3, l4, e4, e5, e6, e7⟩ := List.filter_eq_cons_iff.mp e3
  have := pw_split (p := l1 ++ l3) (s := l4) h (by rw [e1, e4, List.append_assoc])
  rcases List.mem_append.mp this with hm | hm
  · rw [← e2]
    exact List.mem_filter.mpr ⟨hm, hq⟩
  · exact absurd hq (e5 _ hm)
theorem pw_ins {ws : List Str} (h : PW ws) {z : Str} (hz : z ∈ wSix) (hn : z ∉ ws) (n : Nat) : PW (ws.take n ++ z :: ws.drop n) := by
  have hzu : z ≠ zUnl := fun e => by
    rw [e] at hz
    exact absurd hz (by decide +kernel)
  refine ⟨nodup_ins h.1 hn n, fun w hw => ?_, fun i hi => ?_⟩
  · rcases mem_ins.mp hw with rfl | hw
    · exact List.mem_append.mpr (.inl hz : w ∈ wSix ∨ w ∈ (["lock", "unlock"] : List Str))
    · exact h.2.1 w hw
  · have eA : ws.take n ++ ws.drop n = ws := List.take_append_drop n ws
    generalize ws.take n = A at hi eA ⊢
    generalize ws.drop n = B at hi eA ⊢
    rcases Nat.lt_trichotomy i A.length with hc | hc | hc
    · rw [List.getElem?_append_left hc] at hi
      have := h.2.2 i (by rw [← eA, List.getElem?_append_left hc]; exact hi)
      rw [← eA, List.take_append_of_le_length (Nat.le_of_lt hc)] at this
      rw [List.take_append_of_le_length (Nat.le_of_lt hc)]
      exact this
    · rw [hc, List.getElem?_append_right (Nat.le_refl _), Nat.sub_self] at hi
      exact absurd (Option.some.inj hi) hzu
    · rw [List.getElem?_append_right (Nat.le_of_lt hc)] at hi
      obtain ⟨k, hk⟩ : ∃ k, i = A.length + (k + 1) := ⟨i - A.length - 1, by omega⟩
      subst hk
      rw [Nat.add_sub_cancel_left, List.getElem?_cons_succ] at hi
      have := h.2.2 (A.length + k) (by rw [← eA, List.getElem?_append_right (Nat.le_add_right _ _), Nat.add_sub_cancel_left]; exact hi)
      rw [← eA, List.take_append, List.take_of_length_le (Nat.le_add_right _ _), Nat.add_sub_cancel_left] at this
      rw [List.take_append, List.take_of_length_le (Nat.le_add_right _ _), Nat.add_sub_cancel_left, List.take_succ_cons, List.mem_append, List.mem_cons]
      rcases List.mem_append.mp this with hm | hm
      · exact .inl hm
      · exact .inr (.inr hm)
end PB

namespace K57
open PySem PySem.Spec PyProof.Rows L2 TL GG OO PB
def topS (i : Nat) : Stmt := PySem.Challenge.pw_pulledout_k57_whole_plain_books_known.main.body.getD i (.Pass ⟨0, 0, 0, 0⟩)
abbrev s_wall : Stmt := topS 0
abbrev s_PullError : Stmt := topS 3
abbrev s_InvalidStep : Stmt := topS 4
abbrev s_InvalidOption : Stmt := topS 5
abbrev s_UnknownName : Stmt := topS 6
abbrev s_Plain : Stmt := topS 12
abbrev s_is_pull : Stmt := topS 13
abbrev s_is_touched : Stmt := topS 14
abbrev s_is_touched_locked : Stmt := topS 15
abbrev s_spans_around_wait : Stmt := topS 16
abbrev s_is_touched_between : Stmt := topS 17
abbrev s_is_used : Stmt := topS 18
abbrev s_is_stuck : Stmt := topS 19
abbrev s_is_empty_locked : Stmt := topS 20
abbrev s_is_pulled_behind_let : Stmt := topS 21
abbrev s_l_numbers : Stmt := topS 23
abbrev s_l_pool : Stmt := topS 24
abbrev s_l_draw : Stmt := topS 25
abbrev s_l_pick : Stmt := topS 26
abbrev s_l_pull_words : Stmt := topS 27
abbrev s_l_kinds : Stmt := topS 28
abbrev s_l_in_order : Stmt := topS 29
abbrev s_l_known_right : Stmt := topS 30
abbrev s_law : Stmt := topS 31
abbrev sPl_init : Stmt := inClass s_Plain 0
abbrev sPl_of : Stmt := inClass s_Plain 1
abbrev sPl_sound : Stmt := inClass s_Plain 2
abbrev sPl_opens : Stmt := inClass s_Plain 3
abbrev sPl_asks : Stmt := inClass s_Plain 4
abbrev sPl_pulls : Stmt := inClass s_Plain 5
abbrev sPl_len : Stmt := inClass s_Plain 6
abbrev sPl_contains : Stmt := inClass s_Plain 7
abbrev sPl_eq : Stmt := inClass s_Plain 8
abbrev sPl_pulled : Stmt := inClass s_Plain 9
abbrev sPl_book : Stmt := inClass s_Plain 10
abbrev sPl_ahead : Stmt := inClass s_Plain 11
abbrev sPl_behind : Stmt := inClass s_Plain 12
abbrev sPl_gaps : Stmt := inClass s_Plain 13
abbrev sPl_openings : Stmt := inClass s_Plain 14
abbrev sPl_faults : Stmt := inClass s_Plain 15
abbrev sPl_starts : Stmt := inClass s_Plain 16
abbrev sUN_init : Stmt := inClass s_UnknownName 0
abbrev sIO_init : Stmt := inClass s_InvalidOption 0
abbrev sIS_init : Stmt := inClass s_InvalidStep 0
/-- built-ins by their names -/
structure Blt (K : PySem.W.Frag) (mg : Str → Option Value) : Prop where
  m_max : mg "max" = none
  m_range : mg "range" = none
  m_len : mg "len" = none
  m_int : mg "int" = none
  m_isinstance : mg "isinstance" = none
  m_str : mg "str" = none
  m_list : mg "list" = none
  m_tuple : mg "tuple" = none
  m_repr : mg "repr" = none
  m_enumerate : mg "enumerate" = none
  m_min : mg "min" = none
  m_bool : mg "bool" = none
  m_any : mg "any" = none
  m_all : mg "all" = none
  m_sorted : mg "sorted" = none
section
variable {P : Program} {w : World} {K : PySem.W.Frag} {mg : Str → Option Value} {base : Heap}
def spNum (K : PySem.W.Frag) : Sp := fun vs H Q _ => ∃ (c s : Int) (a : Addr) (zs : List Int), vs = [.int c, .int s, .ref a] ∧ SqL K H a (zs.map V.int) ∧ (0 ≤ s ∧ s ≤ 100000) ∧ zs.length ≤ 1000 ∧ (∀ z ∈ zs, 0 < z ∧ z < 1000000) ∧
  ∀ (H' : Hp) (p : Addr) (ns : List Int), Same H H' → H p = none → H' p = some (.lst (ns.map V.int)) → ns.length = zs.length → Below zs ns → Q (.ref p) H'
theorem small_mod (x : Int) : (x % 2147483629).natAbs < 2 ^ 64 := by
  have h1 := Int.emod_nonneg x (show (2147483629 : Int) ≠ 0 by decide)
  have h2 := Int.emod_lt_of_pos x (show (0 : Int) < 2147483629 by decide)
  omega
theorem scNum : FnScope ["_law_cell", "_law_salt", "_law_sizes", "_law_whole", "_law_left", "_law_result", "_law_k", "_law_one"] ["_law_cell", "_law_salt", "_law_sizes"] (defScope s_l_numbers) := ⟨rfl, rfl, rfl, by decide +kernel, rfl, by decide +kernel, by decide +kernel⟩
theorem ok_num {f : Addr} {fd : FuncData} (F : Fun K "_law_numbers" "_law_numbers" s_l_numbers f fd) (mm : mg "max" = none) (mr : mg "range" = none) (ml : mg "len" = none) : FnOk P w K mg base CX0 1 f fd ["_law_cell", "_law_salt", "_law_sizes"] (spNum K) := by
  refine F.ok scNum (fun vs H Q E h => ?_) (fun cdv A outer s H vs Q E hr h => ?_)
  · obtain ⟨c, s, a, zs, rfl, _⟩ := h
    rfl
  · obtain ⟨c, sa, a, zs, rfl, hS, ⟨hs0, hs1⟩, hlen, hz, q⟩ := h
    refine ⟨_, (pss_cons (ps_set (i := 3) scNum.nd rfl (.inl rfl) (pe_callB (call_max2 rfl) (by rfl) mm (by decide +kernel) (pa_cons (pv 0) (pa_cons (pe_op op_sub (pe_un un_neg pe_int) (pv 0)) pa_nil)))) 
        (pss_cons (ps_set (i := 4) scNum.nd rfl (.inl rfl) (pv 3)) 
        (pss_cons (ps_set (i := 5) scNum.nd rfl (.inl rfl) (pe_lst pa_nil)) 
        (pss_cons (ps_for PassesOwn.never rfl (pi_range1 rfl mr (pa_cons (pe_callB call_len_seq (by rfl) ml PySem.boot_len (pa_cons (pv 2) pa_nil)) pa_nil)) (pg_name (i := 6) scNum.nd rfl (.inl rfl)) 
          (pss_one (ps_if (PW.pt (pw_and (pt_cmpR op_ge (pv 3) (pe_op op_pow pe_int pe_int) (nomark _)) (pw_and1 (pt_cmpR op_gt (pv 4) pe_int (nomark _))))) 
            (pss_cons (ps_expr (pe_bm PySem.F.plainAttrs_list PySem.F.slot_list_append PySem.F.type_list_append mt_append (pv 5) (pa_cons (pe_op op_mod (pv 4) (pe_ix ix_list (pv 2) (pv 6) (fun _ _ => rfl))) pa_nil))) 
            (pss_one (ps_set (i := 4) scNum.nd rfl (.inl rfl) (pe_op op_fdivN (pv 4) (pe_ix ix_list (pv 2) (pv 6) (fun _ _ => rfl)))))) 
            (pss_cons (ps_set (i := 7) scNum.nd rfl (.inl rfl) (pe_op op_mod (pe_op op_pow (pe_op op_add (pe_op op_add (pe_op op_mod (pv 3) pe_int) (pe_op op_mul pe_int (pv 1))) pe_int) pe_int) pe_int)) 
            (pss_cons (ps_set (i := 7) scNum.nd rfl (.inl rfl) (pe_op op_mod (pe_op op_mul (pe_op op_add (pv 7) (pe_op op_mul pe_int (pe_op op_add (pv 6) pe_int))) (pe_op op_add (pv 6) pe_int)) pe_int)) 
            (pss_cons (ps_set (i := 7) scNum.nd rfl (.inl rfl) (pe_op op_mod (pe_op op_mul (pe_op op_mod (pe_op op_pow (pv 7) pe_int) pe_int) pe_int) pe_int)) 
            (pss_one (ps_expr (pe_bm PySem.F.plainAttrs_list PySem.F.slot_list_append PySem.F.type_list_append mt_append (pv 5) (pa_cons (pe_op op_mod (pe_op op_fdivN (pv 7) pe_int) (pe_ix ix_list (pv 2) (pv 6) (fun _ _ => rfl))) pa_nil)))))))))) 
        (pss_one (ps_ret (pv 5))))))), ?_⟩
    -- whole = max(cell, -1 - cell); left = whole; result = []
    refine ⟨_, rfl, _, rfl, _, rfl, _, _, rfl, rfl, _, _, rfl, _, rfl, ?_⟩
    generalize hwh : (if -1 - c > c then -1 - c else c) = wh
    refine ⟨Nat.zero_le _, fun p hp => ?_⟩
    have s0 : Same H (upd H p (.lst [])) := same_upd hp
    refine ⟨_, rfl, a, zs.map V.int, rfl, .inl (s0.seq hS), _, rfl, by rw [List.length_map]; omega, by rw [List.length_map]; omega, for_range (lo := 0) (fun i σ H' => ∃ (left : Int) (ns : List Int) (y6 y7 : Option V), σ = [some (.int c), some (.int sa), some (.ref a), some (.int wh), some (.int left), some (.ref p), y6, y7] ∧ Same H H' ∧ H' p = some (.lst (ns.map V.int)) ∧ ns.length = i ∧ Below zs ns)
      ⟨wh, [], none, none, rfl, s0, upd_same, rfl, fun i z n _ h => by simp at h⟩ ?_ ?_⟩
    · rintro i σ H' hi ⟨left, ns, y6, y7, rfl, s1, hp1, hn, hb⟩
      have hi2 : i < zs.length := by
        rw [List.length_map] at hi
        omega
      have hzi : zs[i]? = some zs[i] := List.getElem?_eq_getElem hi2
      obtain ⟨hz0, hz1⟩ := hz zs[i] (List.getElem_mem hi2)
      have hat : atI (zs.map V.int) (0 + (i : Int)) = some (.int zs[i]) := by
        rw [Int.zero_add]
        exact atI_nat (by rw [List.getElem?_map, hzi]; rfl)
      have fin : ∀ (r : Int), 0 ≤ r → r < zs[i] → ns.length < sizeLine ∧ Same H (upd H' p (.lst (ns.map V.int ++ [V.int r]))) ∧ (upd H' p (.lst (ns.map V.int ++ [V.int r]))) p = some (.lst ((ns ++ [r]).map V.int)) ∧ (ns ++ [r]).length = i + 1 ∧ Below zs (ns ++ [r]) := fun r h0 h1 =>
        ⟨small1000 (by omega), same_st s1 hp, by rw [upd_same, List.map_append]; rfl, by rw [List.length_append, List.length_singleton, hn], below_snoc hb (by rw [hn]; exact hzi) h0 h1⟩
      refine ⟨_, rfl, _, _, rfl, rfl, ⟨by decide, by decide, by decide⟩, _, _, rfl, rfl, _, rfl, ite2 (fun _ => ⟨_, rfl, _, _, rfl, rfl, _, rfl, ite2 (fun _ => ?thn) (fun _ => ?els1)⟩) (fun _ => iteF ?els2)⟩
      case thn =>
        obtain ⟨f1, f2, f3, f4, f5⟩ := fin (left % zs[i]) (Int.emod_nonneg _ (by omega)) (Int.emod_lt_of_pos _ hz0)
        refine ⟨_, rfl, .inl ⟨rfl, _, .inl (.inl hp1)⟩, _, rfl, _, rfl, _, rfl, a, zs.map V.int, _, _, rfl, rfl, s1.seq hS, hat, _, _, rfl, rfl, hz0, p, _, _, rfl, rfl, hp1, (by rw [List.length_map]; exact f1), ?_⟩
        refine ⟨_, rfl, _, rfl, _, rfl, a, zs.map V.int, _, _, rfl, rfl, f2.seq hS, hat, _, _, rfl, rfl, ⟨by omega, by omega⟩, ?_⟩
        exact ⟨_, _, _, _, rfl, f2, f3, f4, f5⟩
      all_goals
        refine ⟨_, rfl, _, _, rfl, rfl, by show (0 : Int) < 2147483629; decide, _, rfl, _, _, rfl, rfl, .inl ⟨by decide, by decide⟩, _, _, rfl, rfl, _, _, rfl, rfl, _, _, rfl, rfl, ⟨by decide, by decide, ?b1⟩, _, _, rfl, rfl, by show (0 : Int) < 2147483647; decide, ?_⟩
        case b1 =>
          have h1 := Int.emod_nonneg wh (show (2147483629 : Int) ≠ 0 by decide)
          have h2 := Int.emod_lt_of_pos wh (show (0 : Int) < 2147483629 by decide)
          show (wh % 2147483629 + 7919 * sa + 1).natAbs < 2 ^ 64
          omega
        refine ⟨_, rfl, _, rfl, _, _, rfl, rfl, _, _, rfl, rfl, .inl ⟨by decide, by decide⟩, _, _, rfl, rfl, _, rfl, _, _, rfl, rfl, _, _, rfl, rfl, .inr ⟨?b2, ?b3⟩, _, _, rfl, rfl, by show (0 : Int) < 2147483629; decide, ?_⟩
        case b2 =>
          show -(2 ^ 64) < (0 + (i : Int)) + 3
          omega
        case b3 =>
          show (0 + (i : Int)) + 3 < 2 ^ 64
          omega
        refine ⟨_, rfl, _, _, rfl, rfl, ⟨by decide, by decide, small_mod _⟩, _, _, rfl, rfl, by show (0 : Int) < 2147483647; decide, _, _, rfl, rfl, .inr ⟨by decide, by decide⟩, _, _, rfl, rfl, by show (0 : Int) < 2147483629; decide, ?_⟩
        have fe := fun r : Int => fin (r % zs[i]) (Int.emod_nonneg _ (by omega)) (Int.emod_lt_of_pos _ hz0)
        refine ⟨_, rfl, .inl ⟨rfl, _, .inl (.inl hp1)⟩, _, rfl, _, _, rfl, rfl, ⟨by decide, by decide⟩, _, rfl, _, rfl, a, zs.map V.int, _, _, rfl, rfl, s1.seq hS, hat, _, _, rfl, rfl, hz0, p, _, _, rfl, rfl, hp1, (by rw [List.length_map]; exact (fe 0).1), ?_⟩
        exact ⟨_, _, _, _, rfl, (fe _).2.1, (fe _).2.2.1, (fe _).2.2.2.1, (fe _).2.2.2.2⟩
    · rintro σ H' ⟨left, ns, y6, y7, rfl, s1, hp1, hn, hb⟩
      exact ⟨_, rfl, q H' p ns s1 hp hp1 (by rw [hn, List.length_map]; omega) hb⟩
def spPool (K : PySem.W.Frag) : Sp := fun vs H Q _ => ∃ (c sa m : Int), vs = [.int c, .int sa, .int m] ∧ (0 ≤ sa ∧ sa ≤ 100000) ∧ (0 ≤ m ∧ m ≤ 1000) ∧ ∀ R H' p, Same H R → Rest p R H' → Same H H' → Q (.ref p) H'
def spDraw (K : PySem.W.Frag) : Sp := fun vs H Q _ => ∃ (p : Addr) (m : Int) (R : Hp), vs = [.ref p, .int m] ∧ 0 < m ∧ Rest p R H ∧ ∀ r H', 0 ≤ r → r < m → Go p R H R H' → Q (.int r) H'
def spPick (K : PySem.W.Frag) : Sp := fun vs H Q _ => ∃ (p a : Addr) (R : Hp) (xs : List V), vs = [.ref p, .ref a] ∧ SqL K R a xs ∧ 0 < xs.length ∧ Rest p R H ∧ ∀ x H', x ∈ xs → Go p R H R H' → Q x H'
theorem sc_l_pool : FnScope ["_law_cell", "_law_salt", "_law_many"] ["_law_cell", "_law_salt", "_law_many"] (defScope s_l_pool) := ⟨rfl, rfl, rfl, by decide +kernel, rfl, by decide +kernel, by decide +kernel⟩
theorem ok_l_pool {f : Addr} {fd : FuncData} (F : Fun K "_law_pool" "_law_pool" s_l_pool f fd) (T : Blt K mg) {f1 : Addr} {fd1 : FuncData} (F_l_numbers : Fun K "_law_numbers" "_law_numbers" s_l_numbers f1 fd1) (b_l_numbers : Binds K fd1 ["_law_cell", "_law_salt", "_law_sizes"] []) (g_l_numbers : mg "_law_numbers" = some (.ref f1)) (G_l_numbers : FnOk P w K mg base CX0 1 f1 fd1 ["_law_cell", "_law_salt", "_law_sizes"] (spNum K)) : FnOk P w K mg base CX0 2 f fd ["_law_cell", "_law_salt", "_law_many"] (spPool K) := by
  refine F.ok sc_l_pool (fun vs H Q E h => ?_) (fun cdv A outer s H vs Q E hr h => ?_)
  · obtain ⟨c, sa, m, rfl, _⟩ := h
    rfl
  · obtain ⟨c, sa, m, rfl, hsa, ⟨hm0, hm1⟩, q⟩ := h
    refine ⟨_, (pss_one (ps_ret (pe_lst (pa_cons (pe_call G_l_numbers hr (by rfl) g_l_numbers F_l_numbers.kp b_l_numbers .nil pass0 (pa_cons (pv 0) (pa_cons (pv 1) (pa_cons (pe_op op_rep (pe_lst (pa_cons pe_int pa_nil)) (pv 2)) pa_nil)))) (pa_cons pe_int pa_nil))))), ?_⟩
    have em : (m.toNat : Int) = m := by omega
    refine ⟨_, rfl, _, rfl, (by show 1 ≤ sizeLine; decide), fun l hl => ⟨_, rfl, l, m, [V.int 420], rfl, rfl, upd_same, by omega, by omega, ?z1, fun r hr => ?_⟩⟩
    case z1 =>
      show 1 * m.toNat ≤ sizeLine
      exact Nat.le_of_lt (small1000 (by omega))
    have el : (List.replicate m.toNat [V.int 420]).flatten = (List.replicate m.toNat (420 : Int)).map V.int := by
      generalize m.toNat = j
      induction j with
      | zero => rfl
      | succ j ih =>
        rw [List.replicate_succ, List.replicate_succ, List.flatten_cons, ih]
        rfl
    have s1 : Same H (upd (upd H l (.lst [V.int 420])) r (.lst (List.replicate m.toNat [V.int 420]).flatten)) := (same_upd hl).trans (same_upd hr)
    refine ⟨c, sa, r, List.replicate m.toNat 420, rfl, .inl (.inl (by rw [upd_same, el])), hsa, by rw [List.length_replicate]; omega, (fun z hz => by rw [(List.mem_replicate.mp hz).2]; decide), fun H3 d ds s9 hdn ed hdl hb => ?_⟩
    refine ⟨(by show 2 ≤ sizeLine; decide), fun p hp => ?_⟩
    have s3 : Same H H3 := s1.trans s9
    have hHd : H d = none := s1.free hdn
    have hpd : d ≠ p := fun e => by
      rw [e, hp] at ed
      cases ed
    refine q (upd H d (.lst (ds.map V.int))) _ p (same_upd hHd) ⟨fun b x e => ?_, ?_, d, ds, 0, upd_same, upd_same, by decide⟩ (s3.trans (same_upd hp))
    · by_cases h : b = d
      · rw [h, upd_same] at e
        rw [h, upd_ne hpd, ed, e]
      · rw [upd_ne h] at e
        exact (s3.trans (same_upd hp)) b x e
    · rw [upd_ne hpd.symm]
      exact s3.free hp
theorem sc_l_draw : FnScope ["_law_pool_here", "_law_many", "_law_at"] ["_law_pool_here", "_law_many"] (defScope s_l_draw) := ⟨rfl, rfl, rfl, by decide +kernel, rfl, by decide +kernel, by decide +kernel⟩
theorem ok_l_draw {f : Addr} {fd : FuncData} (F : Fun K "_law_draw" "_law_draw" s_l_draw f fd) (T : Blt K mg) : FnOk P w K mg base CX0 1 f fd ["_law_pool_here", "_law_many"] (spDraw K) := by
  refine F.ok sc_l_draw (fun vs H Q E h => ?_) (fun cdv A outer s H vs Q E hr h => ?_)
  · obtain ⟨p, m, R, rfl, _⟩ := h
    rfl
  · obtain ⟨p, m, R, rfl, hm, k, q⟩ := h
    refine ⟨_, (pss_cons (ps_set (i := 2) sc_l_draw.nd rfl (.inl rfl) (pe_ix ix_list (pv 0) pe_int (fun _ _ => rfl))) 
        (pss_cons (ps_asg (pe_op op_add (pv 2) pe_int) (pg_sub (pv 0) pe_int set_list)) 
        (pss_one (ps_ret (pe_ifExp (pt_cmpR op_lt (pv 2) (pe_callB call_len_seq (by rfl) T.m_len PySem.boot_len (pa_cons (pe_ix ix_list (pv 0) pe_int (fun _ _ => rfl)) pa_nil)) (nomark _)) (pe_op op_mod (pe_callTy call_int1 (by rfl) T.m_int (by decide +kernel) (pa_cons (pe_ix ix_seq (pe_ix ix_list (pv 0) pe_int (fun _ _ => rfl)) (pv 2) (fun _ _ => rfl)) pa_nil)) (pv 1)) pe_int))))), ?_⟩
    obtain ⟨s0, hRp, d, ns, n, hp, hd, hn⟩ := id k
    have hdp : d ≠ p := fun e => by
      rw [e, hRp] at hd
      cases hd
    have g : Go p R H R (upd H p (.lst [.ref d, .int (n + 1)])) := ⟨Same.refl _, ⟨same_st s0 hRp, hRp, d, ns, n + 1, upd_same, hd, by omega⟩, fun b hb o e => by rw [upd_ne hb]; exact e, fun _ _ _ h => h⟩
    have hd' : SqL K (upd H p (.lst [.ref d, .int (n + 1)])) d (ns.map V.int) := .inl (.inl (g.rest.1 _ _ hd))
    refine ⟨_, rfl, p, _, _, _, rfl, rfl, .inl (.inl hp), rfl, ?_⟩
    refine ⟨_, rfl, _, _, rfl, rfl, _, rfl, p, _, _, 1, rfl, rfl, hp, rfl, ?_⟩
    refine ⟨_, rfl, _, rfl, p, _, _, _, rfl, rfl, .inl (.inl upd_same), rfl, d, _, rfl, .inl hd', _, _, rfl, rfl, _, rfl, ite2 (fun h1 => ?_) (fun h1 => ?_)⟩
    · have h1 : n < ((ns.map V.int).length : Int) := of_decide_eq_true h1
      rw [List.length_map] at h1
      have hi : n.toNat < ns.length := by omega
      obtain ⟨v, hat, hv⟩ := at_int (xs := ns.map V.int) hn (by rw [List.length_map]; exact hi)
      obtain ⟨u, _, rfl⟩ := List.mem_map.mp hv
      refine ⟨_, rfl, p, _, _, _, rfl, rfl, .inl (.inl upd_same), rfl, _, rfl, .inl ⟨d, _, _, _, rfl, rfl, hd', hat, .inl ⟨_, rfl, _, rfl, _, _, rfl, rfl, hm, ?_⟩⟩⟩
      exact q _ _ (Int.emod_nonneg _ (by omega)) (Int.emod_lt_of_pos _ hm) g
    · exact q 0 _ (by decide) hm g
theorem sc_l_pick : FnScope ["_law_pool_here", "_law_some"] ["_law_pool_here", "_law_some"] (defScope s_l_pick) := ⟨rfl, rfl, rfl, by decide +kernel, rfl, by decide +kernel, by decide +kernel⟩
theorem ok_l_pick {f : Addr} {fd : FuncData} (F : Fun K "_law_pick" "_law_pick" s_l_pick f fd) (T : Blt K mg) {f1 : Addr} {fd1 : FuncData} (F_l_draw : Fun K "_law_draw" "_law_draw" s_l_draw f1 fd1) (b_l_draw : Binds K fd1 ["_law_pool_here", "_law_many"] []) (g_l_draw : mg "_law_draw" = some (.ref f1)) (G_l_draw : FnOk P w K mg base CX0 1 f1 fd1 ["_law_pool_here", "_law_many"] (spDraw K)) : FnOk P w K mg base CX0 2 f fd ["_law_pool_here", "_law_some"] (spPick K) := by
  refine F.ok sc_l_pick (fun vs H Q E h => ?_) (fun cdv A outer s H vs Q E hr h => ?_)
  · obtain ⟨p, a, R, xs, rfl, _⟩ := h
    rfl
  · obtain ⟨p, a, R, xs, rfl, hxs, hpos, k, q⟩ := h
    refine ⟨_, (pss_one (ps_ret (pe_ix ix_list (pv 1) (pe_call G_l_draw hr (by rfl) g_l_draw F_l_draw.kp b_l_draw .nil pass0 (pa_cons (pv 0) (pa_cons (pe_callB call_len_seq (by rfl) T.m_len PySem.boot_len (pa_cons (pv 1) pa_nil)) pa_nil))) (fun _ _ => rfl)))), ?_⟩
    refine ⟨_, rfl, _, rfl, _, rfl, a, xs, rfl, .inl (Same.seq k.1 hxs), p, _, R, rfl, by omega, k, fun r H' h0 h1 g => ?_⟩
    have hi : r.toNat < xs.length := by omega
    obtain ⟨v, hat, hv⟩ := at_int h0 hi
    exact ⟨a, xs, r, v, rfl, rfl, Same.seq g.rest.1 hxs, hat, q _ H' hv g⟩
end
/-- a constant dict with such keys -/
structure Dc (K : PySem.W.Frag) (w : World) (d : Addr) (ws : List Str) : Prop where
  kd : ∃ es n, KDict K w d es n
  no : ∀ z, z ∉ ws → PySem.W.nsIn K d z = some none
  yes : ∀ z, z ∈ ws → ∃ v, PySem.W.nsIn K d z = some (some v)
abbrev wOps : List Str := ["bare", "tried", "locked"]
abbrev wAsks : List Str := ["in", "ahead", "none", "locked"]
structure Txt (K : PySem.W.Frag) (w : World) (mg : Str → Option Value) (dO dA dS : Addr) : Prop extends Blt K mg where
  c_OPENS : mg "_OPENS" = some (.ref dO)
  c_ASKS : mg "_ASKS" = some (.ref dA)
  c_STEPS : mg "_STEPS" = some (.ref dS)
  k_OPENS : Dc K w dO wOps
  k_ASKS : Dc K w dA wAsks
  k_STEPS : Dc K w dS wPulls
theorem room65 {k : Nat} {A : Around} (r : Room k A) : A.units + 65 < cLine := by
  have := r.un
  omega
theorem bf {b : Bool} (h : ¬ b = true) : b = false := by
  cases b
  · rfl
  · exact absurd rfl h
theorem iteB {b c : Bool} {A B : Prop} (e : b = c) (h : if c = true then A else B) : if b = true then A else B := by
  rw [e]
  exact h
theorem inV_strs (z : Str) : ∀ ws : List Str, inV (.str z) (ws.map V.str) = decide (z ∈ ws)
  | [] => rfl
  | b :: bs => by
    have h := inV_strs z bs
    unfold inV at h ⊢
    rw [List.map_cons, List.any_cons, h, Bool.eq_iff_iff, Bool.or_eq_true, decide_eq_true_iff, decide_eq_true_iff, List.mem_cons]
    have : eqV (.str b) (.str z) = true ↔ z = b := by
      show decide (b = z) = true ↔ _
      rw [decide_eq_true_iff]
      exact ⟨fun z => z.symm, fun z => z.symm⟩
    rw [this]
theorem cutV_take {xs : List V} {n : Nat} (h : n ≤ xs.length) : cutV xs none (some (n : Int)) = xs.take n := cutG_lo xs (Int.natCast_nonneg n) (by omega)
theorem cutS_take {ws : List Str} {n : Nat} (h : n ≤ ws.length) : cutV (ws.map V.str) none (some (n : Int)) = (ws.take n).map V.str := by
  rw [cutV_take (by rw [List.length_map]; exact h), List.map_take]
theorem slA0 {K : PySem.W.Frag} {H : Hp} {a : Addr} {xs : List V} {lo hi : Option Int} {Q : VK} (hs : SqT K H a xs) (hq : ∀ H' b, Same H H' → SqT K H' b (cutV xs lo hi) → Q (.ref b) H') : rSlA K (.ref a) lo hi H Q :=
  ⟨a, xs, rfl, hs, fun ⟨h1, h2⟩ => hq H a (Same.refl H) (by unfold cutV; rw [h1, h2]; simpa using hs), fun _ p hp => hq _ p (same_upd hp) (.inl (.inl upd_same))⟩
def iN (b : Nat) : V := .int (Int.ofNat b)
/-! ### the object -/
def plF (o a : Str) (p : Addr) : List (Str × V) := putF "_pulls" (.ref p) (putF "_asks" (.str a) (putF "_opens" (.str o) []))
theorem n_pa : ¬ (("_pulls" : Str) = "_asks") := by decide +kernel
theorem n_po : ¬ (("_pulls" : Str) = "_opens") := by decide +kernel
theorem n_ao : ¬ (("_asks" : Str) = "_opens") := by decide +kernel
theorem n_ap : ¬ (("_asks" : Str) = "_pulls") := by decide +kernel
theorem n_oa : ¬ (("_opens" : Str) = "_asks") := by decide +kernel
theorem n_op : ¬ (("_opens" : Str) = "_pulls") := by decide +kernel
theorem plF_p (o a : Str) (p : Addr) : (plF o a p).lookup ("_pulls" : Str) = some (.ref p) := by
  unfold plF
  rw [lookup_putF, if_pos rfl]
theorem plF_a (o a : Str) (p : Addr) : (plF o a p).lookup ("_asks" : Str) = some (.str a) := by
  unfold plF
  rw [lookup_putF, if_neg n_ap, lookup_putF, if_pos rfl]
theorem plF_o (o a : Str) (p : Addr) : (plF o a p).lookup ("_opens" : Str) = some (.str o) := by
  unfold plF
  rw [lookup_putF, if_neg n_op, lookup_putF, if_neg n_oa, lookup_putF, if_pos rfl]
theorem plF_no (o a : Str) (p : Addr) {m : Str} (h1 : ¬ m = "_pulls") (h2 : ¬ m = "_asks") (h3 : ¬ m = "_opens") : (plF o a p).lookup m = none := by
  unfold plF
  rw [lookup_putF, if_neg h1, lookup_putF, if_neg h2, lookup_putF, if_neg h3]
  rfl
/-- a plain book with such parts -/
def PlainAt (C : Addr) (H : Hp) (r : Addr) (o a : Str) (ws : List Str) : Prop := ∃ (dx p : Addr) (ob : Obj), H r = some (.ins C dx (plF o a p)) ∧ H p = some (.frz ob (.tup (ws.map V.str))) ∧ ob.cls = .type "tuple" ∧ ob.dict = none
theorem PlainAt.same {C : Addr} {H H' : Hp} {r : Addr} {o a : Str} {ws : List Str} (h : PlainAt C H r o a ws) (s : Same H H') : PlainAt C H' r o a ws := by
  obtain ⟨dx, p, ob, h1, h2, h3⟩ := h
  exact ⟨dx, p, ob, s _ _ h1, s _ _ h2, h3⟩
structure ClT (K : PySem.W.Frag) (mg : Str → Option Value) (C : Addr) : Prop where
  mgC : mg "Plain" = some (.ref C)
  cl : Cls K C
  nO : NoAttr K C "_opens"
  nA : NoAttr K C "_asks"
  nP : NoAttr K C "_pulls"
def isPullD (d : PyData) : Bool := match d with
  | .str z => decide (z ∈ wPulls)
  | _ => false
def prD (p : Nat × Nat) : PyData := .tuple [.int (Int.ofNat p.1), .int (Int.ofNat p.2)]
def prsD (ps : List (Nat × Nat)) : PyData := .list (ps.map prD)
end K57

namespace K57
open PySem PySem.Spec PyProof.Rows StX L2 TL GG OO PB
section
variable {P : Program} {w : World} {K : PySem.W.Frag} {mg : Str → Option Value} {base : Heap} {dO dA dS : Addr} {C : Addr}
theorem keep_same {x : Addr} {H H' : Hp} (k : Keep x H H') {H0 : Hp} (s : Same H0 H) (n : H0 x = none) : Same H0 H' := fun b o e => k b (ne_of_none e n) o (s b o e)
def spIsPull (K : PySem.W.Frag) : Sp := fun vs H Q _ => ∃ (x : V) (d : PyData), vs = [x] ∧ Val K H x d ∧ Q (.bl (isPullD d)) H
theorem sc_is_pull : FnScope ["value"] ["value"] (defScope s_is_pull) := ⟨rfl, rfl, rfl, by decide +kernel, rfl, by decide +kernel, by decide +kernel⟩
theorem ok_is_pull {f : Addr} {fd : FuncData} (F : Fun K "_is_pull" "_is_pull" s_is_pull f fd) (T : Txt K w mg dO dA dS) : FnOk P w K mg base CX0 1 f fd ["value"] (spIsPull K) := by
  refine F.ok sc_is_pull (fun vs H Q E h => ?_) (fun cdv A outer s H vs Q E hr h => ?_)
  · obtain ⟨x, d, rfl, _⟩ := h
    rfl
  · obtain ⟨x, d, rfl, hv, q⟩ := h
    obtain ⟨es, n, D⟩ := T.k_STEPS.kd
    refine ⟨_, (pss_one (ps_ret (pe_and (pe_callB call_isi (by rfl) T.m_isinstance (by decide +kernel) (pa_cons (pv 0) (pa_cons (pe_bltn (v := .ty "str") (u := .type "str") (by rfl) T.m_str (by decide +kernel) rfl) pa_nil))) (pe_one (pe_cmpR (op_in_kd D) (pv 0) (pe_glob (v := .ref dS) rfl T.c_STEPS rfl) (by rfl)))))), ?_⟩
    refine ⟨_, rfl, _, _, _, _, _, rfl, .ty "str", hv.ty, isi_str d, _, rfl, ite2 (fun hd => ?_) (fun hd => ?_)⟩
    · obtain ⟨z, rfl⟩ : ∃ z, d = .str z := by cases d <;> first | exact ⟨_, rfl⟩ | cases hd
      obtain ⟨rfl, hz, _⟩ := hv.str
      by_cases hm : z ∈ wPulls
      · obtain ⟨v, e⟩ := T.k_STEPS.yes z hm
        refine ⟨_, rfl, z, _, rfl, rfl, e, ?_⟩
        have e2 : isPullD (.str z) = true := decide_eq_true hm
        rw [e2] at q
        exact q
      · refine ⟨_, rfl, z, _, rfl, rfl, T.k_STEPS.no z hm, ?_⟩
        have e2 : isPullD (.str z) = false := decide_eq_false hm
        rw [e2] at q
        exact q
    · have e : isPullD d = false := by cases d <;> first | rfl | exact absurd rfl hd
      rw [e] at q
      exact q
theorem dp_pull {H : Hp} {z : Str} (h : z ∈ wPulls) : Val K H (.str z) (.str z) := by
  simp only [List.mem_cons, List.not_mem_nil, or_false] at h
  rcases h with rfl | rfl | rfl | rfl | rfl | rfl | rfl | rfl <;> exact .inl ⟨.str _, by constructor <;> decide +kernel⟩
/-! ### made -/
def spPlI (C : Addr) : Sp := fun vs H Q _ => ∃ (x p dx : Addr) (o a : Str) (ws : List Str) (ob : Obj), vs = [.ref x, .str o, .str a, .ref p] ∧ H x = some (.ins C dx []) ∧ H p = some (.frz ob (.tup (ws.map V.str))) ∧ o ∈ wOps ∧ a ∈ wAsks ∧ PW ws ∧
  ∀ (H' : Hp) (dx' : Addr), Keep x H H' → H' x = some (.ins C dx' (plF o a p)) → Q .non H'
theorem spl_init : FnScope ["self", "opens", "asks", "pulls", "index", "word"] ["self", "opens", "asks", "pulls"] (defScope sPl_init) := ⟨rfl, rfl, rfl, by decide +kernel, rfl, by decide +kernel, by decide +kernel⟩
theorem ok_pl_init {f : Addr} {fd : FuncData} (F : Fun K "__init__" "Plain.__init__" sPl_init f fd) (T : Txt K w mg dO dA dS) (CT : ClT K mg C) {f1 : Addr} {fd1 : FuncData} (F_is_pull : Fun K "_is_pull" "_is_pull" s_is_pull f1 fd1) (b_is_pull : Binds K fd1 ["value"] []) (g_is_pull : mg "_is_pull" = some (.ref f1)) (G_is_pull : FnOk P w K mg base CX0 1 f1 fd1 ["value"] (spIsPull K)) : FnR P w K mg base (L2.CX P w) 3 f (spStar 3 (spPlI C)) := by
  refine Fun.star3 (p1 := "self") (p2 := "opens") (p3 := "asks") (pv := "pulls") F spl_init StX.cxUp (fun _ _ _ _ _ _ _ _ _ => rfl) (fun _ _ _ _ _ _ _ _ _ _ _ => rfl) (fun cdv A outer s H vs Q E hr h => ?_)
  obtain ⟨x, p, dx, o, a, ws, ob, rfl, hx, hp, ho, ha, hw, q⟩ := h
  obtain ⟨es1, n1, D1⟩ := T.k_OPENS.kd
  obtain ⟨es2, n2, D2⟩ := T.k_ASKS.kd
  obtain ⟨v1, e1⟩ := T.k_OPENS.yes o ho
  obtain ⟨v2, e2⟩ := T.k_ASKS.yes a ha
  have hr1 : Room 1 _ := hr.mono (by decide)
  refine ⟨_, (pss_cons (ps_if (PW.pt (pw_or (pt_not (pt_val (pe_callB call_isi (by rfl) T.m_isinstance (by decide +kernel) (pa_cons (pv 1) (pa_cons (pe_bltn (v := .ty "str") (u := .type "str") (by rfl) T.m_str (by decide +kernel) rfl) pa_nil))))) (pw_or1 (pt_cmpR (op_notIn_kd D1) (pv 1) (pe_glob (v := .ref dO) rfl T.c_OPENS rfl) (by rfl))))) (pss_one ps_no) pss_nil)
    (pss_cons (ps_if (PW.pt (pw_or (pt_not (pt_val (pe_callB call_isi (by rfl) T.m_isinstance (by decide +kernel) (pa_cons (pv 2) (pa_cons (pe_bltn (v := .ty "str") (u := .type "str") (by rfl) T.m_str (by decide +kernel) rfl) pa_nil))))) (pw_or1 (pt_cmpR (op_notIn_kd D2) (pv 2) (pe_glob (v := .ref dA) rfl T.c_ASKS rfl) (by rfl))))) (pss_one ps_no) pss_nil)
    (pss_cons (ps_for (passes_of rfl) rfl (pi_enumT (by rfl) T.m_enumerate (pa_cons (pv 3) pa_nil)) (pg_tup rfl (pgs_cons (pg_name (i := 4) spl_init.nd rfl (.inl rfl)) (pgs_cons (pg_name (i := 5) spl_init.nd rfl (.inl rfl)) pgs_nil)))
      (pss_cons (ps_if (PW.pt (pw_or (pt_not (pt_val (pe_call G_is_pull hr1 (by rfl) g_is_pull F_is_pull.kp b_is_pull .nil pass0 (pa_cons (pv 5) pa_nil)))) (pw_or1 (pt_cmpR op_in_seq (pv 5) (pe_slice sl_tupA (pv 3) po_none (po_some (pv 4))) (by rfl))))) (pss_one ps_no) pss_nil)
      (pss_one (ps_if (PW.pt (pw_and (pt_cmpR op_eq (pv 5) pe_str (nomark _)) (pw_and1 (pt_cmpR op_notIn_seq pe_str (pe_slice sl_tupA (pv 3) po_none (po_some (pv 4))) (by rfl))))) (pss_one ps_no) pss_nil))))
    (pss_cons (ps_fld (pv 0) (pv 1) rfl)
    (pss_cons (ps_fld (pv 0) (pv 2) rfl)
    (pss_one (ps_fld (pv 0) (pv 3) rfl))))))), ?_⟩
  have hps : SqT K H p (ws.map V.str) := .inl (.inr ⟨ob, hp⟩)
  have hstr : ∀ (z : Str) (H1 : Hp), TyX K H1 (.str z) (.type (tyName (.str z))) := fun z H1 => dp_ty (.str z)
  refine ⟨_, rfl, _, _, _, _, _, rfl, .ty "str", hstr o _, isi_str (.str o), _, rfl, iteF ⟨_, rfl, o, _, rfl, rfl, e1, _, rfl, iteF ?_⟩⟩
  refine ⟨_, rfl, _, _, _, _, _, rfl, .ty "str", hstr a _, isi_str (.str a), _, rfl, iteF ⟨_, rfl, a, _, rfl, rfl, e2, _, rfl, iteF ?_⟩⟩
  refine ⟨_, rfl, p, _, rfl, hps, for_it walk_enumT (fun i σ H' => Same H H' ∧ ∃ y4 y5 : Option V, σ = [some (.ref x), some (.str o), some (.str a), some (.ref p), y4, y5]) ⟨Same.refl H, _, _, rfl⟩ (fun i σ H' _ h => Same.seqT h.1 hps) ?_ ?_⟩
  · rintro i xw σ H1 H1' hi ⟨s1, y4, y5, rfl⟩ ⟨t, u, v, rfl, ht, rfl, hu, hv⟩
    have eu : u = .int (i : Nat) := (Option.some.inj hu).symm
    subst eu
    have hv : (ws.map V.str)[i]? = some v := hv
    rw [List.getElem?_map] at hv
    obtain ⟨z, hz, rfl⟩ := Option.map_eq_some_iff.mp hv
    have hil : i < ws.length := (List.getElem?_eq_some_iff.mp hz).1
    have hzm := hw.2.1 z (List.mem_of_getElem? hz)
    have s2 : Same H (upd H1 t (.tup [.int (i : Nat), .str z])) := s1.trans (same_upd ht)
    have hps2 := Same.seqT s2 hps
    have hni : z ∉ ws.take i := fun hm => by
      have h1 := (mem_take (Nat.le_of_lt hil)).mp hm
      have h2 := idx_eq hw.1 hz
      omega
    refine ⟨t, _, rfl, .inl (.inl upd_same), rfl, _, _, rfl, _, _, rfl, ?_⟩
    refine ⟨rfl, _, rfl, _, .str z, rfl, dp_pull hzm, _, rfl, ?_⟩
    refine iteB (c := false) (by show (!decide (z ∈ wPulls)) = false; rw [decide_eq_true hzm]; rfl) (iteF ?_)
    refine ⟨_, rfl, _, rfl, _, rfl, _, rfl, slA0 hps2 fun H2 b s3 hb => ?_⟩
    rw [cutS_take (Nat.le_of_lt hil)] at hb
    refine ⟨b, _, rfl, .inr hb, rfl, flat_words _, _, rfl, iteB (c := false) (by show inV (.str z) _ = false; rw [inV_strs, decide_eq_false hni]) (iteF ?_)⟩
    refine ⟨_, rfl, rfl, _, rfl, ite2 (fun hu => ?_) (fun hu => ?_)⟩
    · have hu : z = zUnl := V.str.inj (of_decide_eq_true hu)
      subst hu
      have hlk := hw.2.2 i hz
      refine ⟨_, rfl, _, rfl, _, rfl, slA0 (Same.seqT s3 hps2) fun H3 b3 s4 hb3 => ?_⟩
      rw [cutS_take (Nat.le_of_lt hil)] at hb3
      refine ⟨b3, _, rfl, .inr hb3, rfl, flat_words _, _, rfl, iteB (c := false) (by show (!inV (.str zLock) _) = false; rw [inV_strs, decide_eq_true hlk]; rfl) (iteF ?_)⟩
      exact ⟨(s2.trans s3).trans s4, _, _, rfl⟩
    · exact ⟨s2.trans s3, _, _, rfl⟩
  · rintro σ H1 ⟨s1, y4, y5, rfl⟩
    have hx1 := s1 _ _ hx
    refine ⟨_, rfl, _, rfl, x, C, dx, [], rfl, hx1, CT.cl, CT.nO, (by show 0 < 1000; decide), ?_⟩
    refine ⟨_, rfl, _, rfl, x, C, dx, _, rfl, upd_same, CT.cl, CT.nA, (by show 1 < 1000; decide), ?_⟩
    refine ⟨_, rfl, _, rfl, x, C, dx, _, rfl, upd_same, CT.cl, CT.nP, (by show 2 < 1000; decide), ?_⟩
    refine q _ dx (fun b hb o2 e => ?_) upd_same
    rw [upd_ne hb, upd_ne hb, upd_ne hb]
    exact s1 b o2 e
end
end K57

namespace K57
open PySem PySem.Spec PyProof.Rows StX L2 TL GG OO PB
section
variable {P : Program} {w : World} {K : PySem.W.Frag} {mg : Str → Option Value} {base : Heap} {dO dA dS : Addr} {C : Addr}
/-! ### of -/
def spPlOf (K : PySem.W.Frag) (C : Addr) : Sp := fun vs H Q _ => ∃ (l : Addr) (o a : Str) (ws : List Str), vs = [.str o, .str a, .ref l] ∧ (SqT K H l (ws.map V.str) ∨ SqL K H l (ws.map V.str)) ∧ o ∈ wOps ∧ a ∈ wAsks ∧ PW ws ∧ ∀ (H' : Hp) (r : Addr), Same H H' → H r = none → PlainAt C H' r o a ws → Q (.ref r) H'
theorem size8 {ws : List Str} (h : PW ws) : (ws.map V.str).length ≤ sizeLine := by
  rw [List.length_map]
  exact Nat.le_of_lt (small1000 (Nat.le_trans h.len (by decide)))
theorem sc_pl_of : FnScope ["opens", "asks", "pulls"] ["opens", "asks", "pulls"] (defScope sPl_of) := ⟨rfl, rfl, rfl, by decide +kernel, rfl, by decide +kernel, by decide +kernel⟩
theorem ok_pl_of {f : Addr} {fd : FuncData} (F : Fun K "of" "Plain.of" sPl_of f fd) (CT : ClT K mg C) {fI : Addr} (M : Mk K C fI) (GI : FnR P w K mg base (L2.CX P w) 3 fI (spStar 3 (spPlI C))) : FnOk P w K mg base CX0 5 f fd ["opens", "asks", "pulls"] (spPlOf K C) := by
  refine F.ok sc_pl_of (fun vs H Q E h => ?_) (fun cdv A outer s H vs Q E hr h => ?_)
  · obtain ⟨l, o, a, ws, rfl, _⟩ := h
    rfl
  · obtain ⟨l, o, a, ws, rfl, hl, ho, ha, hw, q⟩ := h
    refine ⟨_, pss_one (ps_ret (pe_makeRSt (E := fun _ => E0) M GI hr rfl CT.mgC (pat passL) (pa_cons (pv 0) (pa_cons (pv 1) (pa_star (pv 2) pa_nil))))), ?_⟩
    refine ⟨_, rfl, _, rfl, _, rfl, l, _, rfl, hl, fun x dx hx hdx hne => ?_⟩
    show spStar 3 _ (V.ref x :: V.str o :: V.str a :: (ws.map V.str ++ [])) _ _ _
    rw [List.append_nil]
    refine ⟨[.ref x, .str o, .str a], ws.map V.str, rfl, rfl, size8 hw, fun p ob hp hcl hob => ?_⟩
    have s2 : Same H (upd (upd (upd H dx (.own x)) x (.ins C dx [])) p (.frz ob (.tup (ws.map V.str)))) := ((same_upd hdx).trans (same_upd (by rw [upd_ne hne.symm]; exact hx))).trans (same_upd hp)
    have hxp : x ≠ p := ne_of_none upd_same hp
    refine ⟨x, p, dx, o, a, ws, ob, rfl, by rw [upd_ne hxp]; exact upd_same, upd_same, ho, ha, hw, fun H' dx' k hx' => ⟨rfl, ?_⟩⟩
    exact q H' x (keep_same k s2 hx) hx ⟨dx', p, ob, hx', k p hxp.symm _ upd_same, hcl, hob⟩
/-! ### the error -/
theorem sc_un_init : FnScope ["self", "name"] ["self", "name"] (defScope sUN_init) := ⟨rfl, rfl, rfl, by decide +kernel, rfl, by decide +kernel, by decide +kernel⟩
theorem ok_un_init {f : Addr} {fd : FuncData} (F : Fun K "__init__" "UnknownName.__init__" sUN_init f fd) {U fU : Addr} (TU : ExB K mg "UnknownName" U fU) (no : PySem.W.findIn K (.ref U) "name" = some none) : FnOk P w K mg base CX0 1 f fd ["self", "name"] (spExI U "name") := by
  refine F.ok sc_un_init (fun vs H Q E h => ?_) (fun cdv A outer s H vs Q E hr h => ?_)
  · obtain ⟨a, v, rfl, _⟩ := h
    rfl
  · obtain ⟨a, v, rfl, ha, q⟩ := h
    refine ⟨_, pss_one (ps_ostB TU no (pv 0) (pv 1)), ?_⟩
    exact ⟨_, rfl, _, rfl, a, rfl, ha, fun dx h1 h2 => q dx h1 h2⟩
/-! ### ahead, behind -/
def spAh (K : PySem.W.Frag) (C U : Addr) (n : Nat) : Sp := fun vs H Q E => ∃ (r : Addr) (x : V) (o a : Str) (ws : List Str), vs = [.ref r, x] ∧ PlainAt C H r o a ws ∧ ((∃ z, x = .str z ∧ z ∈ wPulls ∧ Q (iN (ws.idxOf z + n)) H) ∨
  (∃ d, Val K H x d ∧ isPullD d = false ∧ ∀ (dd : Addr) (H' : Hp), H dd = none → Same H H' → H' dd = some (.xd [("name", x)]) → E (.ref U) (some dd) H'))
theorem sc_pl_ahead : FnScope ["self", "word"] ["self", "word"] (defScope sPl_ahead) := ⟨rfl, rfl, rfl, by decide +kernel, rfl, by decide +kernel, by decide +kernel⟩
theorem ok_pl_ahead {f : Addr} {fd : FuncData} (F : Fun K "ahead" "Plain.ahead" sPl_ahead f fd) (T : Txt K w mg dO dA dS) (CT : ClT K mg C) {f1 : Addr} {fd1 : FuncData} (F_is_pull : Fun K "_is_pull" "_is_pull" s_is_pull f1 fd1) (b_is_pull : Binds K fd1 ["value"] []) (g_is_pull : mg "_is_pull" = some (.ref f1)) (G_is_pull : FnOk P w K mg base CX0 1 f1 fd1 ["value"] (spIsPull K)) {U fU : Addr} (TU : ExB K mg "UnknownName" U fU) (tU : PySem.W.typeIn K (.ref U) = some (.type "type")) {fdU : FuncData} (bU : Binds K fdU ["self", "name"] []) (GU : FnOk P w K mg base CX0 1 fU fdU ["self", "name"] (spExI U "name")) : FnOk P w K mg base (L2.CX P w) 3 f fd ["self", "word"] (spAh K C U 0) := by
  refine F.okX sc_pl_ahead (fun vs H Q E h => ?_) (fun cdv A outer s H vs Q E hr h => ?_)
  · obtain ⟨r, x, o, a, ws, rfl, _⟩ := h
    rfl
  · obtain ⟨r, x, o, a, ws, rfl, ⟨dx, p, ob, h1, h2, h3, h4⟩, h⟩ := h
    have hr1 : Room 1 _ := hr.mono (by decide)
    refine ⟨_, (pss_cons (ps_if (pt_not (pt_val (pe_call G_is_pull hr1 (by rfl) g_is_pull F_is_pull.kp b_is_pull .nil pass0 (pa_cons (pv 1) pa_nil)))) (pss_one (ps_raise rfl (takes_of rfl rfl rfl rfl) (pmk_exb TU tU GU hr bU pass0 rfl (pa_cons (pv 1) pa_nil)))) pss_nil)
      (pss_one (ps_ret (pe_ifExp (pt_cmpR op_in_seq (pv 1) (pe_fld (pv 0) rfl) (by rfl)) (pe_tupM PySem.F.slot_tuple_index PySem.F.type_tuple_index mt_tidxS (pe_fld (pv 0) rfl) (pa_cons (pv 1) pa_nil)) (pe_callB call_len_seq (by rfl) T.m_len PySem.boot_len (pa_cons (pe_fld (pv 0) rfl) pa_nil)))))), ?_⟩
    have hq : SqT K H p (ws.map V.str) := .inl (.inr ⟨ob, h2⟩)
    rcases h with ⟨z, rfl, hz, q⟩ | ⟨d, hv, hd, q⟩
    · refine ⟨_, rfl, _, .str z, rfl, dp_pull hz, _, rfl, iteB (c := false) (by show (!decide (z ∈ wPulls)) = false; rw [decide_eq_true hz]; rfl) (iteF ?_)⟩
      refine ⟨_, rfl, _, rfl, r, C, dx, _, _, rfl, h1, CT.cl, CT.nP, plF_p o a p, p, _, rfl, .inr hq, rfl, flat_words _, _, rfl, ?_⟩
      have hi := inV_strs z ws
      by_cases hm : z ∈ ws
      · refine iteB (c := true) (by show inV (.str z) _ = true; rw [hi, decide_eq_true hm]) (iteT ?_)
        refine ⟨_, rfl, r, C, dx, _, _, rfl, h1, CT.cl, CT.nP, plF_p o a p, p, ob, _, rfl, h2, h3, h4, _, rfl, p, ws, z, rfl, rfl, hq, hm, ?_⟩
        exact q
      · refine iteB (c := false) (by show inV (.str z) _ = false; rw [hi, decide_eq_false hm]) (iteF ?_)
        refine ⟨_, rfl, r, C, dx, _, _, rfl, h1, CT.cl, CT.nP, plF_p o a p, p, _, rfl, .inr hq, ?_⟩
        have e : ws.idxOf z = ws.length := by
          have h5 := idx_len ws z
          have h6 : ¬ ws.idxOf z < ws.length := fun y => hm (idx_mem.mpr y)
          omega
        rw [e] at q
        rw [List.length_map]
        exact q
    · refine ⟨_, rfl, _, d, rfl, hv, _, rfl, iteB (c := true) (by show (!isPullD d) = true; rw [hd]; rfl) (iteT ?_)⟩
      exact ⟨_, rfl, mko fun dd H' h5 h6 h7 => q dd H' h5 h6 h7⟩
theorem sc_pl_behind : FnScope ["self", "word"] ["self", "word"] (defScope sPl_behind) := ⟨rfl, rfl, rfl, by decide +kernel, rfl, by decide +kernel, by decide +kernel⟩
theorem ok_pl_behind {f : Addr} {fd : FuncData} (F : Fun K "behind" "Plain.behind" sPl_behind f fd) (CT : ClT K mg C) {U : Addr} {f_ahead : Addr} {fd_ahead : FuncData} (M_ahead : Meth K C "ahead" f_ahead) (b_ahead : Binds K fd_ahead ["self", "word"] []) (G_ahead : FnOk P w K mg base (L2.CX P w) 3 f_ahead fd_ahead ["self", "word"] (spAh K C U 0)) : FnOk P w K mg base (L2.CX P w) 4 f fd ["self", "word"] (spAh K C U 1) := by
  refine F.okX sc_pl_behind (fun vs H Q E h => ?_) (fun cdv A outer s H vs Q E hr h => ?_)
  · obtain ⟨r, x, o, a, ws, rfl, _⟩ := h
    rfl
  · obtain ⟨r, x, o, a, ws, rfl, hp, h⟩ := h
    obtain ⟨dx, p, ob, h1, _⟩ := id hp
    refine ⟨_, pss_one (ps_ret (pe_op op_add (pe_meth (E := E) (pv 0) CT.cl M_ahead G_ahead hr b_ahead .nil (passX (takes_of rfl rfl rfl rfl)) (pa_cons (pv 1) pa_nil)) pe_int)), ?_⟩
    refine ⟨_, rfl, r, dx, _, rfl, h1, plF_no o a p (by decide +kernel) (by decide +kernel) (by decide +kernel), _, rfl, r, x, o, a, ws, rfl, hp, ?_⟩
    rcases h with ⟨z, rfl, hz, q⟩ | ⟨d, hv, hd, q⟩
    · exact .inl ⟨z, rfl, hz, _, _, rfl, rfl, q⟩
    · exact .inr ⟨d, hv, hd, q⟩
/-! ### gaps -/
def LP (K : PySem.W.Frag) (H : Hp) (l : Addr) (ps : List (Nat × Nat)) : Prop := ∃ vs : List V, H l = some (.lst vs) ∧ DpAll K H vs (ps.map prD)
theorem LP.same {H H' : Hp} {l : Addr} {ps : List (Nat × Nat)} (h : LP K H l ps) (s : Same H H') : LP K H' l ps := by
  obtain ⟨vs, h1, h2⟩ := h
  exact ⟨vs, s _ _ h1, dpAll_same s _ _ h2⟩
def spPs (K : PySem.W.Frag) (C : Addr) (g : Str → List Str → List (Nat × Nat)) : Sp := fun vs H Q _ => ∃ (r : Addr) (o a : Str) (ws : List Str), vs = [.ref r] ∧ PlainAt C H r o a ws ∧ PW ws ∧ ∀ (H' : Hp) (l : Addr), Same H H' → H l = none → LP K H' l (g o ws) → Q (.ref l) H'
theorem dp_pr {H : Hp} {t : Addr} {a b : Nat} (h : SqT K H t [iN a, iN b]) : Dp K H (.ref t) (prD (a, b)) := .tup h (.cons (.int _) (.cons (.int _) .nil))
theorem sc_pl_gaps : FnScope ["self", "unlocked"] ["self"] (defScope sPl_gaps) := ⟨rfl, rfl, rfl, by decide +kernel, rfl, by decide +kernel, by decide +kernel⟩
theorem ok_pl_gaps {f : Addr} {fd : FuncData} (F : Fun K "gaps" "Plain.gaps" sPl_gaps f fd) (T : Txt K w mg dO dA dS) (CT : ClT K mg C) {U : Addr} {f_ahead : Addr} {fd_ahead : FuncData} (M_ahead : Meth K C "ahead" f_ahead) (b_ahead : Binds K fd_ahead ["self", "word"] []) (G_ahead : FnOk P w K mg base (L2.CX P w) 3 f_ahead fd_ahead ["self", "word"] (spAh K C U 0)) {f_behind : Addr} {fd_behind : FuncData} (M_behind : Meth K C "behind" f_behind) (b_behind : Binds K fd_behind ["self", "word"] []) (G_behind : FnOk P w K mg base (L2.CX P w) 4 f_behind fd_behind ["self", "word"] (spAh K C U 1)) : FnOk P w K mg base CX0 5 f fd ["self"] (spPs K C fun _ ws => gapsOf ws) := by
  refine F.ok sc_pl_gaps (fun vs H Q E h => ?_) (fun cdv A outer s H vs Q E hr h => ?_)
  · obtain ⟨r, o, a, ws, rfl, _⟩ := h
    rfl
  · obtain ⟨r, o, a, ws, rfl, hpl, hw, q⟩ := h
    obtain ⟨dx, p, ob, h1, h2, h3⟩ := id hpl
    have hr2 : Room 3 _ := hr.mono (by decide)
    have hr3 : Room 4 _ := hr.mono (by decide)
    have no1 : (plF o a p).lookup ("behind" : Str) = none := plF_no o a p (by decide +kernel) (by decide +kernel) (by decide +kernel)
    have no2 : (plF o a p).lookup ("ahead" : Str) = none := plF_no o a p (by decide +kernel) (by decide +kernel) (by decide +kernel)
    refine ⟨_, (pss_cons (ps_set (i := 1) sc_pl_gaps.nd rfl (.inl rfl) (pe_ifExp (pt_cmpR op_in_seq pe_str (pe_fld (pv 0) rfl) (by rfl)) (pe_lst (pa_cons (pe_tup (pa_cons (pe_meth (E := E0) (pv 0) CT.cl M_behind G_behind hr3 b_behind .nil passL (pa_cons pe_str pa_nil)) (pa_cons (pe_callB call_len_seq (by rfl) T.m_len PySem.boot_len (pa_cons (pe_fld (pv 0) rfl) pa_nil)) pa_nil))) pa_nil)) (pe_lst pa_nil)))
      (pss_one (ps_ret (pe_lst (pa_cons (pe_tup (pa_cons pe_int (pa_cons (pe_meth (E := E0) (pv 0) CT.cl M_ahead G_ahead hr2 b_ahead .nil passL (pa_cons pe_str pa_nil)) pa_nil))) (pa_star (pv 1) pa_nil)))))), ?_⟩
    have hq : SqT K H p (ws.map V.str) := .inl (.inr ⟨ob, h2⟩)
    have hi := inV_strs zUnl ws
    refine ⟨_, rfl, r, C, dx, _, _, rfl, h1, CT.cl, CT.nP, plF_p o a p, p, _, rfl, .inr hq, rfl, flat_words _, _, rfl, ?_⟩
    by_cases hm : zUnl ∈ ws
    · refine iteB (c := true) (by show inV (.str zUnl) _ = true; rw [hi, decide_eq_true hm]) (iteT ?_)
      refine ⟨_, rfl, r, dx, _, rfl, h1, no1, r, _, o, a, ws, rfl, hpl, .inl ⟨zUnl, rfl, by decide +kernel, ?_⟩⟩
      refine ⟨_, rfl, r, C, dx, _, _, rfl, h1, CT.cl, CT.nP, plF_p o a p, p, _, rfl, .inr hq, (by show 2 ≤ sizeLine; decide), fun t ht => ⟨(by show 1 ≤ sizeLine; decide), fun l1 hl1 => ?_⟩⟩
      rw [List.length_map] at hl1 ⊢
      have s1 := (same_upd (o := .tup [iN (ws.idxOf zUnl + 1), V.int (ws.length : Nat)]) ht).trans (same_upd (o := .lst [V.ref t]) hl1)
      have et := (same_upd (o := .lst [V.ref t]) hl1) _ _ (upd_same (H := H) (a := t) (o := .tup [iN (ws.idxOf zUnl + 1), V.int (ws.length : Nat)]))
      have el1 := upd_same (H := upd H t (.tup [iN (ws.idxOf zUnl + 1), V.int (ws.length : Nat)])) (a := l1) (o := .lst [V.ref t])
      generalize upd (upd H t (.tup [iN (ws.idxOf zUnl + 1), V.int (ws.length : Nat)])) l1 (.lst [V.ref t]) = H1 at s1 et el1 ⊢
      refine ⟨_, rfl, r, dx, _, rfl, s1 _ _ h1, no2, r, _, o, a, ws, rfl, hpl.same s1, .inl ⟨zLock, rfl, by decide +kernel, (by show 2 ≤ sizeLine; decide), fun t2 ht2 => ⟨_, rfl, l1, _, rfl, .inr (.inl (.inl ((same_upd ht2) _ _ el1))), (by show 2 ≤ sizeLine; decide), fun l2 hl2 => ?_⟩⟩⟩
      have s2 := same_upd (o := .tup [iN 0, iN (ws.idxOf zLock + 0)]) ht2
      have e2 : upd _ t2 (.tup [iN 0, iN (ws.idxOf zLock + 0)]) t2 = some (HO.tup [iN 0, iN (ws.idxOf zLock + 0)]) := upd_same (H := H1) (a := t2)
      refine q _ l2 ((s1.trans s2).trans (same_upd hl2)) (s1.free (s2.free hl2)) ⟨_, upd_same, ?_⟩
      show DpAll K _ _ ((gapsOf ws).map prD)
      unfold gapsOf
      rw [if_pos hm]
      have s3 := same_upd (o := .lst [V.ref t2, V.ref t]) hl2
      exact .cons (dp_pr (.inl (.inl (s3 _ _ e2)))) (.cons (dp_pr (.inl (.inl ((s2.trans s3) _ _ et)))) .nil)
    · refine iteB (c := false) (by show inV (.str zUnl) _ = false; rw [hi, decide_eq_false hm]) (iteF ?_)
      refine ⟨Nat.zero_le _, fun l1 hl1 => ?_⟩
      have s1 := same_upd (o := .lst []) hl1
      have el1 := upd_same (H := H) (a := l1) (o := .lst [])
      generalize upd H l1 (.lst []) = H1 at s1 el1 ⊢
      refine ⟨_, rfl, r, dx, _, rfl, s1 _ _ h1, no2, r, _, o, a, ws, rfl, hpl.same s1, .inl ⟨zLock, rfl, by decide +kernel, (by show 2 ≤ sizeLine; decide), fun t2 ht2 => ⟨_, rfl, l1, _, rfl, .inr (.inl (.inl ((same_upd ht2) _ _ el1))), (by show 1 ≤ sizeLine; decide), fun l2 hl2 => ?_⟩⟩⟩
      have s2 := same_upd (o := .tup [iN 0, iN (ws.idxOf zLock + 0)]) ht2
      have e2 : upd _ t2 (.tup [iN 0, iN (ws.idxOf zLock + 0)]) t2 = some (HO.tup [iN 0, iN (ws.idxOf zLock + 0)]) := upd_same (H := H1) (a := t2)
      refine q _ l2 ((s1.trans s2).trans (same_upd hl2)) (s1.free (s2.free hl2)) ⟨_, upd_same, ?_⟩
      show DpAll K _ _ ((gapsOf ws).map prD)
      unfold gapsOf
      rw [if_neg hm]
      have s3 := same_upd (o := .lst [V.ref t2]) hl2
      exact .cons (dp_pr (.inl (.inl (s3 _ _ e2)))) .nil
end
end K57

namespace K57
open PySem PySem.Spec PyProof.Rows StX L2 TL GG OO PB
section
variable {P : Program} {w : World} {K : PySem.W.Frag} {mg : Str → Option Value} {base : Heap} {dO dA dS : Addr} {C : Addr}
theorem pr_at {H : Hp} {vs : List V} {ps : List (Nat × Nat)} (h : DpAll K H vs (ps.map prD)) {i : Nat} {v : V} (hv : vs[i]? = some v) : ∃ (g : Nat × Nat) (t : Addr), ps[i]? = some g ∧ v = .ref t ∧ SqT K H t [iN g.1, iN g.2] := by
  obtain ⟨d, hd, hdp⟩ := dpAll_get h hv
  rw [List.getElem?_map] at hd
  obtain ⟨g, hg, rfl⟩ := Option.map_eq_some_iff.mp hd
  unfold prD at hdp
  cases hdp with
  | tup hs ha =>
    cases ha with
    | cons p1 ha =>
      cases ha with
      | cons p2 ha =>
        cases ha
        cases p1
        cases p2
        exact ⟨g, _, hg, rfl, hs⟩
theorem fm_snoc {α β : Type} {es : List α} {i : Nat} {e : α} (h : es[i]? = some e) (g : α → Bool) (f : α → β) : ((es.take (i + 1)).filter g).map f = ((es.take i).filter g).map f ++ (if g e = true then [f e] else []) := by
  rw [List.take_add_one, h, List.filter_append, List.map_append]
  show _ ++ ([e].filter g).map f = _
  cases hg : g e
  · rw [List.filter_cons_of_neg (by rw [hg]; decide)]
    rfl
  · rw [List.filter_cons_of_pos hg]
    rfl
theorem gaps_len (ws : List Str) : (gapsOf ws).length ≤ 2 := by
  unfold gapsOf
  split
  · exact Nat.le_refl 2
  · exact Nat.le_succ 1
theorem pe_lenfld {X : Cx} {o : Expr} {f : Str} {ap p pos : Pos} {ta : TE} (ho : PE X o ta) (hb : attributeBase o f X.env (eval o X.env) = eval o X.env) (hg : Gl X "len") (hm : X.mg "len" = none) : PE X (.Call (.Name "len" p) [.Attribute o f ap] [] pos) (tCB (fun xs H Q => ∃ p ys, xs = [.ref p] ∧ (SqL X.K H p ys ∨ SqT X.K H p ys) ∧ Q (.int ys.length) H) (tCons (tFld X.K ta f) tNil)) :=
  pe_callB call_len_seq hg hm PySem.boot_len (pa_cons (pe_fld ho hb) pa_nil)
theorem max_iN (i j : Nat) : V.int (if (Int.ofNat j) > (Int.ofNat i) then (Int.ofNat j) else (Int.ofNat i)) = iN (max i j) := by
  unfold iN
  congr 1
  by_cases h : i < j
  · rw [if_pos (show Int.ofNat j > Int.ofNat i from Int.ofNat_lt.mpr h), Nat.max_eq_right (Nat.le_of_lt h)]
  · rw [if_neg (show ¬ Int.ofNat j > Int.ofNat i from fun z => h (Int.ofNat_lt.mp z)), Nat.max_eq_left (Nat.le_of_not_lt h)]
theorem le_dec {i j : Nat} : decide ((Int.ofNat i) ≤ (Int.ofNat j)) = decide (i ≤ j) := by
  rw [Bool.eq_iff_iff, decide_eq_true_iff, decide_eq_true_iff]
  exact Int.ofNat_le
theorem cut1_take (xs : List V) : cutV xs none (some 1) = xs.take 1 := by
  cases xs with
  | nil => rfl
  | cons x r => exact cutG_lo (x :: r) (by decide) (by rw [List.length_cons]; omega)
theorem starts_len (o : Str) (ws : List Str) : (startsOf o ws).length ≤ 2 := by
  unfold startsOf
  split
  · rw [List.length_map]
    exact Nat.le_trans (List.length_filter_le _ _) (gaps_len ws)
  · exact Nat.le_succ 1
def spSt (K : PySem.W.Frag) (C : Addr) : Sp := fun vs H Q _ => ∃ (r : Addr) (o a : Str) (ws : List Str), vs = [.ref r] ∧ PlainAt C H r o a ws ∧ PW ws ∧ ∀ (H' : Hp) (l : Addr), Same H H' → H l = none → H' l = some (.lst ((startsOf o ws).map iN)) → Q (.ref l) H'
theorem sc_pl_starts : FnScope ["self", "behind_empty", "first", "last"] ["self"] (defScope sPl_starts) := ⟨rfl, rfl, rfl, by decide +kernel, rfl, by decide +kernel, by decide +kernel⟩
theorem ok_pl_starts {f : Addr} {fd : FuncData} (F : Fun K "_starts_behind_empty" "Plain._starts_behind_empty" sPl_starts f fd) (T : Txt K w mg dO dA dS) (CT : ClT K mg C) {U : Addr} {f_ahead : Addr} {fd_ahead : FuncData} (M_ahead : Meth K C "ahead" f_ahead) (b_ahead : Binds K fd_ahead ["self", "word"] []) (G_ahead : FnOk P w K mg base (L2.CX P w) 3 f_ahead fd_ahead ["self", "word"] (spAh K C U 0)) {f_behind : Addr} {fd_behind : FuncData} (M_behind : Meth K C "behind" f_behind) (b_behind : Binds K fd_behind ["self", "word"] []) (G_behind : FnOk P w K mg base (L2.CX P w) 4 f_behind fd_behind ["self", "word"] (spAh K C U 1)) {f_gaps : Addr} {fd_gaps : FuncData} (M_gaps : Meth K C "gaps" f_gaps) (b_gaps : Binds K fd_gaps ["self"] []) (G_gaps : FnOk P w K mg base CX0 5 f_gaps fd_gaps ["self"] (spPs K C fun _ ws => gapsOf ws)) : FnOk P w K mg base CX0 6 f fd ["self"] (spSt K C) := by
  refine F.ok sc_pl_starts (fun vs H Q E h => ?_) (fun cdv A outer s H vs Q E hr h => ?_)
  · obtain ⟨r, o, a, ws, rfl, _⟩ := h
    rfl
  · obtain ⟨r, o, a, ws, rfl, hpl, hw, q⟩ := h
    obtain ⟨dx, p, ob, h1, h2, h3⟩ := id hpl
    have hr3 : Room 3 _ := hr.mono (by decide)
    have hr4 : Room 4 _ := hr.mono (by decide)
    have no1 : (plF o a p).lookup ("behind" : Str) = none := plF_no o a p (by decide +kernel) (by decide +kernel) (by decide +kernel)
    have no2 : (plF o a p).lookup ("gaps" : Str) = none := plF_no o a p (by decide +kernel) (by decide +kernel) (by decide +kernel)
    have no3 : (plF o a p).lookup ("ahead" : Str) = none := plF_no o a p (by decide +kernel) (by decide +kernel) (by decide +kernel)
    refine ⟨_, (pss_cons (ps_set (i := 1) sc_pl_starts.nd rfl (.inr rfl) (pe_meth (E := E0) (pv 0) CT.cl M_behind G_behind hr4 b_behind .nil passL (pa_cons pe_str pa_nil)))
      (pss_cons (ps_if (pt_cmpR op_ne (pe_fld (pv 0) rfl) pe_str (nomark _)) (pss_one (ps_ret (pe_lst (pa_cons (pv 1) pa_nil)))) pss_nil)
      (pss_one (ps_ret (pe_lc (own := [("first", 2), ("last", 3)]) (g := gTup K 2 (gCons (gName 2) (gCons (gName 3) gNil))) rfl sc_pl_starts.nd (pi_list (pe_meth0 (E := E0) (pv 0) CT.cl M_gaps G_gaps hr b_gaps .nil pass0)) (blkOk_by (N := ["self", "behind_empty", "first", "last"]) (sc := defScope sPl_starts) (by decide +kernel)) (fun _ _ _ _ _ => pg_tup rfl (pgs_cons (pg_name (i := 2) sc_pl_starts.nd rfl (.inl rfl)) (pgs_cons (pg_name (i := 3) sc_pl_starts.nd rfl (.inl rfl)) pgs_nil))) (fun _ _ _ _ _ => (pts_one (PW.pt (pw_and (pt_cmpR op_le (pv 2) (pe_meth (E := E0) (pv 0) CT.cl M_ahead G_ahead hr3 b_ahead .nil passL (pa_cons pe_str pa_nil)) (nomark _)) (pw_and1 (pt_cmpR op_le (pv 1) (pv 3) (nomark _))))))) (fun _ _ _ _ _ => (pe_callB (call_max2 rfl) (by rfl) T.m_max (by decide +kernel) (pa_cons (pv 2) (pa_cons (pv 1) pa_nil))))))))), ?_⟩
    refine ⟨_, rfl, r, dx, _, rfl, h1, no1, r, _, o, a, ws, rfl, hpl, .inl ⟨zEmp, rfl, by decide +kernel, ?_⟩⟩
    refine ⟨_, rfl, r, C, dx, _, _, rfl, h1, CT.cl, CT.nO, plF_o o a p, rfl, _, rfl, ite2 (fun ho => ?_) (fun ho => ?_)⟩
    · have ho : ¬ o = "locked" := fun z => by
        rw [z] at ho
        exact absurd ho (by decide +kernel)
      refine ⟨_, rfl, (by show 1 ≤ sizeLine; decide), fun l hl => q _ l (same_upd hl) hl ?_⟩
      have e : startsOf o ws = [ws.idxOf zEmp + 1] := by unfold startsOf; rw [if_neg ho]
      rw [e]
      exact upd_same
    · have ho : o = "locked" := by
        refine Decidable.byContradiction fun z => ho ?_
        show (!decide (V.str o = V.str "locked")) = true
        rw [decide_eq_false fun y => z (V.str.inj y)]
        rfl
      refine ⟨_, rfl, r, dx, _, rfl, h1, no2, r, o, a, ws, rfl, hpl, hw, fun H1 l1 s1 hl1 ⟨vs, e1, hd1⟩ => ⟨l1, rfl, ⟨_, .inl (.inl e1)⟩, fun D hD => lc_it (walk_list (xs := vs)) (fun j H' => Same H1 H' ∧ H' D = some (.lst ((((gapsOf ws).take j).filter fun g => decide (g.1 ≤ ws.idxOf zOut) && decide (ws.idxOf zEmp + 1 ≤ g.2)).map fun g => iN (max g.1 (ws.idxOf zEmp + 1))))) ⟨same_upd hD, upd_same⟩ (fun j H' _ h => .inl (.inl (h.1 _ _ e1))) ?_ ?_⟩⟩
      · rintro j xv _ H2 hj ⟨s2, eD⟩ ⟨rfl, hv⟩
        obtain ⟨g, t, hg, rfl, ht⟩ := pr_at hd1 hv
        have s3 := s1.trans s2
        refine ⟨t, _, rfl, Same.seqT s2 ht, rfl, _, _, rfl, _, _, rfl, rfl, ?_⟩
        have sn := fm_snoc hg (fun g => decide (g.1 ≤ ws.idxOf zOut) && decide (ws.idxOf zEmp + 1 ≤ g.2)) (fun g => iN (max g.1 (ws.idxOf zEmp + 1)))
        have fl : (((gapsOf ws).take j).filter fun g => decide (g.1 ≤ ws.idxOf zOut) && decide (ws.idxOf zEmp + 1 ≤ g.2)).length ≤ 2 := Nat.le_trans (List.length_filter_le _ _) (by rw [List.length_take]; have := gaps_len ws; omega)
        have nx : (decide (g.1 ≤ ws.idxOf zOut) && decide (ws.idxOf zEmp + 1 ≤ g.2)) = false → Same H1 H2 ∧ H2 D = some (.lst ((((gapsOf ws).take (j + 1)).filter fun g => decide (g.1 ≤ ws.idxOf zOut) && decide (ws.idxOf zEmp + 1 ≤ g.2)).map fun g => iN (max g.1 (ws.idxOf zEmp + 1)))) := fun c => by
          rw [sn, if_neg (by rw [c]; decide), List.append_nil]
          exact ⟨s2, eD⟩
        refine ⟨rfl, _, rfl, _, rfl, r, dx, _, rfl, s3 _ _ h1, no3, r, _, o, a, ws, rfl, hpl.same s3, .inl ⟨zOut, rfl, by decide +kernel, _, _, rfl, rfl, _, rfl, ite2 (fun c1 => ?_) (fun c1 => ?_)⟩⟩
        · rw [le_dec] at c1
          refine ⟨_, rfl, _, rfl, _, _, rfl, rfl, _, rfl, ite2 (fun c2 => ?_) (fun c2 => ?_)⟩
          · rw [le_dec] at c2
            refine ⟨_, rfl, _, rfl, _, _, rfl, _, eD, ?_, ?_, ?_⟩
            · rw [List.length_map]
              exact Nat.lt_of_le_of_lt fl (small1000 (by decide))
            · exact same_st s2 hD
            · have cc : (decide (g.1 ≤ ws.idxOf zOut) && decide (ws.idxOf zEmp + 1 ≤ g.2)) = true := Bool.and_eq_true_iff.mpr ⟨c1, c2⟩
              rw [sn, if_pos cc, ← max_iN]
              exact upd_same
          · rw [le_dec] at c2
            exact nx (by rw [show decide (ws.idxOf zEmp + 1 ≤ g.2) = false from bf c2, Bool.and_false])
        · rw [le_dec] at c1
          exact nx (by rw [show decide (g.1 ≤ ws.idxOf zOut) = false from bf c1, Bool.false_and])
      · rintro H2 ⟨s2, eD⟩
        refine q _ D (s1.trans s2) (s1.free hD) ?_
        have hl := dpAll_len hd1
        rw [List.length_map] at hl
        have hl : vs.length = (gapsOf ws).length := hl
        rw [List.take_of_length_le (by omega)] at eD
        have e : startsOf o ws = ((gapsOf ws).filter fun g => decide (g.1 ≤ ws.idxOf zOut) && decide (ws.idxOf zEmp + 1 ≤ g.2)).map fun g => max g.1 (ws.idxOf zEmp + 1) := by unfold startsOf; rw [if_pos ho]
        rw [e, List.map_map]
        exact eD
def spOpn (K : PySem.W.Frag) (C : Addr) : Sp := spPs K C opsOf
theorem sc_pl_openings : FnScope ["self", "told", "starts", "least"] ["self"] (defScope sPl_openings) := ⟨rfl, rfl, rfl, by decide +kernel, rfl, by decide +kernel, by decide +kernel⟩
theorem ok_pl_openings {f : Addr} {fd : FuncData} (F : Fun K "openings" "Plain.openings" sPl_openings f fd) (T : Txt K w mg dO dA dS) (CT : ClT K mg C) {U : Addr} {f_ahead : Addr} {fd_ahead : FuncData} (M_ahead : Meth K C "ahead" f_ahead) (b_ahead : Binds K fd_ahead ["self", "word"] []) (G_ahead : FnOk P w K mg base (L2.CX P w) 3 f_ahead fd_ahead ["self", "word"] (spAh K C U 0)) {f_starts : Addr} {fd_starts : FuncData} (M_starts : Meth K C "_starts_behind_empty" f_starts) (b_starts : Binds K fd_starts ["self"] []) (G_starts : FnOk P w K mg base CX0 6 f_starts fd_starts ["self"] (spSt K C)) : FnOk P w K mg base CX0 7 f fd ["self"] (spPs K C opsOf) := by
  refine F.ok sc_pl_openings (fun vs H Q E h => ?_) (fun cdv A outer s H vs Q E hr h => ?_)
  · obtain ⟨r, o, a, ws, rfl, _⟩ := h
    rfl
  · obtain ⟨r, o, a, ws, rfl, hpl, hw, q⟩ := h
    obtain ⟨dx, p, ob, h1, h2, h3⟩ := id hpl
    have hr3 : Room 3 _ := hr.mono (by decide)
    have no1 : (plF o a p).lookup ("ahead" : Str) = none := plF_no o a p (by decide +kernel) (by decide +kernel) (by decide +kernel)
    have no2 : (plF o a p).lookup ("_starts_behind_empty" : Str) = none := plF_no o a p (by decide +kernel) (by decide +kernel) (by decide +kernel)
    refine ⟨_, (pss_cons (ps_set (i := 1) sc_pl_openings.nd rfl (.inl rfl) (pe_lst (pa_cons (pe_tup (pa_cons pe_int (pa_cons (pe_meth (E := E0) (pv 0) CT.cl M_ahead G_ahead hr3 b_ahead .nil passL (pa_cons pe_str pa_nil)) pa_nil))) pa_nil)))
      (pss_cons (ps_if (pt_cmpR op_in_seq pe_str (pe_fld (pv 0) rfl) (by rfl))
        (pss_cons (ps_setLc (i := 2) (own := [("least", 3)]) (g := gName 3) rfl sc_pl_openings.nd rfl rfl (sw_true rfl rfl rfl (by decide +kernel)) (pi_list (pe_meth0 (E := E0) (pv 0) CT.cl M_starts G_starts hr b_starts .nil pass0)) (blkOk_by (N := ["self", "told", "starts", "least"]) (sc := defScope sPl_openings) (by decide +kernel)) (fun _ _ _ _ _ => (pg_name (i := 3) sc_pl_openings.nd rfl (.inl rfl))) (fun _ _ _ _ _ => (pts_one (pt_cmpR op_le (pv 3) (pe_meth (E := E0) (pv 0) CT.cl M_ahead G_ahead hr3 b_ahead .nil passL (pa_cons pe_str pa_nil)) (nomark _)))) (fun _ _ _ _ _ => (pv 3)))
        (pss_one (ps_expr (pe_bm PySem.F.plainAttrs_list PySem.F.slot_list_extend PySem.F.type_list_extend mt_extend (pv 1) (by exact (pa_cons (pe_lc (own := [("least", 3)]) (g := gName 3) rfl sc_pl_openings.nd (pi_list (pe_slice sl_list (pv 2) po_none (po_some pe_int))) (blkOk_by (N := ["self", "told", "starts", "least"]) (sc := defScope sPl_openings) (by decide +kernel)) (fun _ _ _ _ _ => (pg_name (i := 3) sc_pl_openings.nd rfl (.inl rfl))) (fun _ _ _ _ _ => pts_nil) (fun _ _ _ _ _ => (by refine pe_tup (t := tCons (tVar 3) (tCons (tCB (fun xs H Q => ∃ p ys, xs = [V.ref p] ∧ (SqL K H p ys ∨ SqT K H p ys) ∧ Q (.int ys.length) H) (tCons (tFld K (tVar 0) "_pulls") tNil)) tNil)) ?_; refine pa_cons (pv 3) ?_; refine pa_cons ?_ pa_nil; refine pe_lenfld ?_ ?_ ?_ ?_; exact pv 0; rfl; rfl; exact T.m_len))) pa_nil)))))) pss_nil)
      (pss_one (ps_ret (pv 1))))), ?_⟩
    refine ⟨_, rfl, r, dx, _, rfl, h1, no1, r, _, o, a, ws, rfl, hpl, .inl ⟨zEmp, rfl, by decide +kernel, (by show 2 ≤ sizeLine; decide), fun t ht => ⟨(by show 1 ≤ sizeLine; decide), fun l hl => ?_⟩⟩⟩
    have s1 := (same_upd (o := .tup [V.int 0, iN (ws.idxOf zEmp + 0)]) ht).trans (same_upd (o := .lst [V.ref t]) hl)
    have et := (same_upd (o := .lst [V.ref t]) hl) _ _ (upd_same (H := H) (a := t) (o := .tup [V.int 0, iN (ws.idxOf zEmp + 0)]))
    have el := upd_same (H := upd H t (.tup [V.int 0, iN (ws.idxOf zEmp + 0)])) (a := l) (o := .lst [V.ref t])
    have nl : H l = none := (same_upd (o := .tup [V.int 0, iN (ws.idxOf zEmp + 0)]) ht).free hl
    have hpt : ∀ H', Same (upd (upd H t (.tup [V.int 0, iN (ws.idxOf zEmp + 0)])) l (.lst [V.ref t])) H' → Dp K H' (.ref t) (prD (0, ws.idxOf zEmp)) := fun H' s' => dp_pr (.inl (.inl (s' _ _ et)))
    generalize upd (upd H t (.tup [V.int 0, iN (ws.idxOf zEmp + 0)])) l (.lst [V.ref t]) = H1 at s1 et el hpt ⊢
    have hq : SqT K H1 p (ws.map V.str) := .inl (.inr ⟨ob, s1 _ _ h2⟩)
    have hi := inV_strs zEmp ws
    refine ⟨_, rfl, r, C, dx, _, _, rfl, s1 _ _ h1, CT.cl, CT.nP, plF_p o a p, p, _, rfl, .inr hq, rfl, flat_words _, _, rfl, ?_⟩
    by_cases hm : zEmp ∈ ws
    · refine iteB (c := true) (by show inV (.str zEmp) _ = true; rw [hi, decide_eq_true hm]) (iteT ?_)
      refine ⟨_, rfl, r, dx, _, rfl, s1 _ _ h1, no2, r, o, a, ws, rfl, hpl.same s1, hw, fun H2 l2 s2 hl2 e2 => ⟨l2, rfl, ⟨_, .inl (.inl e2)⟩, fun D hD => lc_it (walk_list (xs := (startsOf o ws).map iN)) (fun j H' => Same H2 H' ∧ H' D = some (.lst ((((startsOf o ws).take j).filter fun n => decide (n ≤ ws.idxOf zLet)).map iN))) ⟨same_upd hD, upd_same⟩ (fun j H' _ h => .inl (.inl (h.1 _ _ e2))) ?_ ?_⟩⟩
      · rintro j xv _ H3 hj ⟨s3, eD⟩ ⟨rfl, hv⟩
        have hv : ((startsOf o ws).map iN)[j]? = some xv := hv
        rw [List.getElem?_map] at hv
        obtain ⟨n, hn, rfl⟩ := Option.map_eq_some_iff.mp hv
        have sn := fm_snoc hn (fun n => decide (n ≤ ws.idxOf zLet)) iN
        have s13 := s1.trans (s2.trans s3)
        have fl : (((startsOf o ws).take j).filter fun n => decide (n ≤ ws.idxOf zLet)).length ≤ 2 := Nat.le_trans (List.length_filter_le _ _) (by rw [List.length_take]; have := starts_len o ws; omega)
        refine ⟨rfl, _, rfl, _, rfl, r, dx, _, rfl, s13 _ _ h1, no1, r, _, o, a, ws, rfl, hpl.same s13, .inl ⟨zLet, rfl, by decide +kernel, _, _, rfl, rfl, _, rfl, ite2 (fun c1 => ?_) (fun c1 => ?_)⟩⟩
        · rw [le_dec] at c1
          have cc : decide (n ≤ ws.idxOf zLet) = true := c1
          refine ⟨_, rfl, _, eD, ?_, same_st s3 hD, ?_⟩
          · rw [List.length_map]
            exact Nat.lt_of_le_of_lt fl (small1000 (by decide))
          · rw [sn, if_pos cc]
            exact upd_same
        · rw [le_dec] at c1
          have cc : decide (n ≤ ws.idxOf zLet) = false := bf c1
          rw [sn, if_neg (by rw [cc]; decide), List.append_nil]
          exact ⟨s3, eD⟩
      · rintro H3 ⟨s3, eD⟩
        rw [List.length_map, List.take_of_length_le (Nat.le_refl _)] at eD
        have hF : leastOf o ws = ((startsOf o ws).filter fun n => decide (n ≤ ws.idxOf zLet)).head? := rfl
        have hO : opsOf o ws = (0, ws.idxOf zEmp) :: ((leastOf o ws).toList.map fun n => (n, ws.length)) := by unfold opsOf; rw [if_pos hm]
        generalize ((startsOf o ws).filter fun n => decide (n ≤ ws.idxOf zLet)) = F at eD hF
        have s13 := s1.trans (s2.trans s3)
        have el3 : H3 l = some (.lst [V.ref t]) := (s2.trans s3) _ _ el
        refine ⟨_, rfl, .inl ⟨rfl, _, .inl (.inl el3)⟩, _, rfl, _, rfl, D, _, rfl, .inl (.inl eD), fun q1 hq1 => ⟨q1, rfl, ⟨_, .inl (.inl upd_same)⟩, fun D2 hD2 => ?_⟩⟩
        rw [cut1_take] at hD2 ⊢
        have s4 := same_upd (o := .lst ((F.map iN).take 1)) hq1
        have eq1 := upd_same (H := H3) (a := q1) (o := .lst ((F.map iN).take 1))
        generalize upd H3 q1 (.lst ((F.map iN).take 1)) = H4 at s4 eq1 hD2 ⊢
        refine lc_it (walk_list (xs := (F.map iN).take 1)) (fun j H' => Same H4 H' ∧ ∃ ts : List V, H' D2 = some (.lst ts) ∧ ((j = 0 ∧ ts = []) ∨ (0 < j ∧ ∃ (n : Nat) (t2 : Addr), F.head? = some n ∧ ts = [V.ref t2] ∧ H4 t2 = none ∧ t2 ≠ D2 ∧ H' t2 = some (.tup [iN n, V.int (ws.length : Nat)])))) ⟨same_upd hD2, [], upd_same, .inl ⟨rfl, rfl⟩⟩ (fun j H' _ h => .inl (.inl (h.1 _ _ eq1))) ?_ ?_
        · rintro j xv _ H5 hj ⟨s5, ts, e5, h5⟩ ⟨rfl, hv⟩
          have hj0 : j = 0 := by
            have := List.length_take_le 1 (F.map iN)
            omega
          subst hj0
          have hts : ts = [] := by
            rcases h5 with ⟨_, h5⟩ | ⟨h5, _⟩
            · exact h5
            · exact absurd h5 (by decide)
          subst hts
          obtain ⟨n, rest, rfl⟩ : ∃ n rest, F = n :: rest := by
            cases F with
            | nil => exact absurd hj (by decide)
            | cons n rest => exact ⟨n, rest, rfl⟩
          have hv : some (iN n) = some xv := hv
          cases Option.some.inj hv
          have s15 := s13.trans (s4.trans s5)
          refine ⟨rfl, _, rfl, _, rfl, r, C, dx, _, _, rfl, s15 _ _ h1, CT.cl, CT.nP, plF_p o a p, p, _, rfl, .inr (.inl (.inr ⟨ob, s15 _ _ h2⟩)), (by show 2 ≤ sizeLine; decide), fun t2 ht2 => ?_⟩
          rw [List.length_map]
          have e6 := (same_upd (o := .tup [iN n, V.int (ws.length : Nat)]) ht2) _ _ e5
          have ne2 : t2 ≠ D2 := (ne_of_none e5 ht2).symm
          refine ⟨_, e6, by show 0 < sizeLine; decide, same_st (s5.trans (same_upd ht2)) hD2, _, upd_same, .inr ⟨by decide, n, t2, rfl, rfl, s5.free ht2, ne2, ?_⟩⟩
          rw [upd_ne ne2]
          exact upd_same
        · rintro H5 ⟨s5, ts, e5, h5⟩
          have el5 : H5 l = some (.lst [V.ref t]) := (s4.trans s5) _ _ el3
          have nD2 : D2 ≠ l := (ne_of_none ((s4) _ _ el3) hD2).symm
          refine ⟨l, D2, _, _, rfl, rfl, el5, e5, ?_, ?_⟩
          · rcases h5 with ⟨_, rfl⟩ | ⟨_, n, t2, hn, rfl, _⟩
            · show 1 ≤ sizeLine
              decide
            · show 2 ≤ sizeLine
              decide
          have hpt5 := hpt _ (s2.trans (s3.trans (s4.trans s5)))
          have nt : t ≠ l := fun z => by
            rw [z, el] at et
            cases et
          have s15 := s1.trans (s2.trans (s3.trans (s4.trans s5)))
          have sH : Same H (upd H5 l (.lst ([V.ref t] ++ ts))) := same_st s15 nl
          refine ⟨_, rfl, q _ l sH nl ⟨_, upd_same, ?_⟩⟩
          rw [hO, hF]
          have et5 : (upd H5 l (.lst ([V.ref t] ++ ts))) t = some (.tup [V.int 0, iN (ws.idxOf zEmp + 0)]) := by
            rw [upd_ne nt]
            exact (s2.trans (s3.trans (s4.trans s5))) _ _ et
          rcases h5 with ⟨hj, rfl⟩ | ⟨_, n, t2, hn, rfl, hn4, hne, et2⟩
          · have hF0 : F = [] := by
              cases F with
              | nil => rfl
              | cons n rest => exact nomatch (show (1 : Nat) = 0 from hj)
            rw [hF0]
            exact .cons (dp_pr (.inl (.inl et5))) .nil
          · have nt2 : t2 ≠ l := (ne_of_none (s4 _ _ el3) hn4).symm
            rw [hn]
            refine .cons (dp_pr (.inl (.inl et5))) (.cons (dp_pr (.inl (.inl ?_))) .nil)
            rw [upd_ne nt2]
            exact et2
    · refine iteB (c := false) (by show inV (.str zEmp) _ = false; rw [hi, decide_eq_false hm]) (iteF ?_)
      refine ⟨_, rfl, q H1 l s1 nl ⟨_, el, ?_⟩⟩
      have e : opsOf o ws = [(0, ws.idxOf zEmp)] := by unfold opsOf; rw [if_neg hm]
      rw [e]
      exact .cons (hpt _ (Same.refl _)) .nil
end
end K57

namespace K57
open PySem PySem.Spec PyProof.Rows StX L2 TL GG OO PB
section
variable {P : Program} {w : World} {K : PySem.W.Frag} {mg : Str → Option Value} {base : Heap} {dO dA dS : Addr} {C : Addr}
theorem ldW {R : Hp} {x : V} {ws : List Str} (h : LD K R x (ws.map PyData.str)) : ∃ D : Addr, x = .ref D ∧ R D = some (.lst (ws.map V.str)) := by
  obtain ⟨D, vs, e, h1, h2⟩ := h
  refine ⟨D, e, ?_⟩
  rw [h1]
  have : ∀ (ws : List Str) (vs : List V), DpAll K R vs (ws.map PyData.str) → vs = ws.map V.str := fun ws => by
    induction ws with
    | nil =>
      intro vs h
      cases h
      rfl
    | cons w ws ih =>
      intro vs h
      cases h with
      | cons a b =>
        cases a
        rw [ih _ b]
        rfl
  rw [this ws vs h2]
theorem if_any {b : Bool} {σ : L2.St} {H : Hp} {Q : VK} {ta tb : TE} (P : V → Hp → Prop) (h1 : b = true → ∀ C : VK, (∀ x H', P x H' → C x H') → ta σ H C) (h2 : b = false → ∀ C : VK, (∀ x H', P x H' → C x H') → tb σ H C) (hq : ∀ x H', P x H' → Q x H') : if b = true then ta σ H Q else tb σ H Q := by
  cases b with
  | true => exact h1 rfl Q hq
  | false => exact h2 rfl Q hq
/-! ### drawn pulls -/
def spPullW (K : PySem.W.Frag) : Sp := fun vs H Q _ => ∃ (p : Addr) (R : Hp), vs = [.ref p] ∧ Rest p R H ∧ ∀ (R' H' : Hp) (D : Addr) (ws : List Str), Go p R H R' H' → R' D = some (.lst (ws.map V.str)) → PW ws → Q (.ref D) H'
theorem sc_l_pull_words : FnScope ["_law_pool_here", "_law_found", "_law_word", "_law_at", "_law_behind", "_law_end"] ["_law_pool_here"] (defScope s_l_pull_words) := ⟨rfl, rfl, rfl, by decide +kernel, rfl, by decide +kernel, by decide +kernel⟩
theorem ok_l_pull_words {f : Addr} {fd : FuncData} (F : Fun K "_law_pull_words" "_law_pull_words" s_l_pull_words f fd) (T : Txt K w mg dO dA dS) {f1 : Addr} {fd1 : FuncData} (F_l_draw : Fun K "_law_draw" "_law_draw" s_l_draw f1 fd1) (b_l_draw : Binds K fd1 ["_law_pool_here", "_law_many"] []) (g_l_draw : mg "_law_draw" = some (.ref f1)) (G_l_draw : FnOk P w K mg base CX0 1 f1 fd1 ["_law_pool_here", "_law_many"] (spDraw K)) : FnOk P w K mg base CX0 2 f fd ["_law_pool_here"] (spPullW K) := by
  refine F.ok sc_l_pull_words (fun vs H Q E h => ?_) (fun cdv A outer s H vs Q E hr h => ?_)
  · obtain ⟨p, R, rfl, _⟩ := h
    rfl
  · obtain ⟨p, R, rfl, k, q⟩ := h
    refine ⟨_, (pss_cons (ps_set (i := 1) sc_l_pull_words.nd rfl (.inl rfl) (pe_lst pa_nil)) 
        (pss_cons (ps_for PassesOwn.never rfl (pi_list (pe_lst (pa_cons pe_str (pa_cons pe_str (pa_cons pe_str (pa_cons pe_str (pa_cons pe_str (pa_cons pe_str pa_nil)))))))) (pg_name (i := 2) sc_l_pull_words.nd rfl (.inl rfl)) 
          (pss_one (ps_if (pt_cmpR op_gt (pe_call G_l_draw hr (by rfl) g_l_draw F_l_draw.kp b_l_draw .nil pass0 (pa_cons (pv 0) (pa_cons pe_int pa_nil))) (pe_op op_mul pe_int (pe_callTy call_int1 (by rfl) T.m_int (by decide +kernel) (pa_cons (pe_cmpR op_eq (pv 2) pe_str (nomark _)) pa_nil))) (nomark _)) 
            (pss_cons (ps_set (i := 3) sc_l_pull_words.nd rfl (.inl rfl) (pe_ifExp (pt_cmpR op_gt (pe_call G_l_draw hr (by rfl) g_l_draw F_l_draw.kp b_l_draw .nil pass0 (pa_cons (pv 0) (pa_cons pe_int pa_nil))) pe_int (nomark _)) (pe_callB call_len_seq (by rfl) T.m_len PySem.boot_len (pa_cons (pv 1) pa_nil)) (pe_call G_l_draw hr (by rfl) g_l_draw F_l_draw.kp b_l_draw .nil pass0 (pa_cons (pv 0) (pa_cons (pe_op op_add (pe_callB call_len_seq (by rfl) T.m_len PySem.boot_len (pa_cons (pv 1) pa_nil)) pe_int) pa_nil))))) 
            (pss_one (ps_set (i := 1) sc_l_pull_words.nd rfl (.inl rfl) (pe_op op_cat (pe_op op_cat (pe_slice sl_list (pv 1) po_none (po_some (pv 3))) (pe_lst (pa_cons (pv 2) pa_nil))) (pe_slice sl_list (pv 1) (po_some (pv 3)) po_none))))) pss_nil))) 
        (pss_cons (ps_if (pt_cmpR op_eq (pe_call G_l_draw hr (by rfl) g_l_draw F_l_draw.kp b_l_draw .nil pass0 (pa_cons (pv 0) (pa_cons pe_int pa_nil))) pe_int (nomark _)) 
          (pss_one (ps_ret (pv 1))) pss_nil) 
        (pss_cons (ps_set (i := 3) sc_l_pull_words.nd rfl (.inl rfl) (pe_call G_l_draw hr (by rfl) g_l_draw F_l_draw.kp b_l_draw .nil pass0 (pa_cons (pv 0) (pa_cons (pe_op op_add (pe_callB call_len_seq (by rfl) T.m_len PySem.boot_len (pa_cons (pv 1) pa_nil)) pe_int) pa_nil)))) 
        (pss_cons (ps_set (i := 4) sc_l_pull_words.nd rfl (.inl rfl) (pe_op op_add (pv 3) (pe_call G_l_draw hr (by rfl) g_l_draw F_l_draw.kp b_l_draw .nil pass0 (pa_cons (pv 0) (pa_cons (pe_op op_add (pe_op op_sub (pe_callB call_len_seq (by rfl) T.m_len PySem.boot_len (pa_cons (pv 1) pa_nil)) (pv 3)) pe_int) pa_nil))))) 
        (pss_cons (ps_set (i := 5) sc_l_pull_words.nd rfl (.inl rfl) (pe_op op_rep (pe_lst (pa_cons pe_str pa_nil)) (pe_callTy call_int1 (by rfl) T.m_int (by decide +kernel) (pa_cons (pe_cmpR op_gt (pe_call G_l_draw hr (by rfl) g_l_draw F_l_draw.kp b_l_draw .nil pass0 (pa_cons (pv 0) (pa_cons pe_int pa_nil))) pe_int (nomark _)) pa_nil)))) 
        (pss_one (ps_ret (pe_op op_cat (pe_op op_cat (pe_op op_cat (pe_op op_cat (pe_slice sl_list (pv 1) po_none (po_some (pv 3))) (pe_lst (pa_cons pe_str pa_nil))) (pe_slice sl_list (pv 1) (po_some (pv 3)) (po_some (pv 4)))) (pv 5)) (pe_slice sl_list (pv 1) (po_some (pv 4)) po_none)))))))))), ?_⟩
    refine ⟨Nat.zero_le _, fun l0 hl0 => ?_⟩
    obtain ⟨g0, e0⟩ := lst_raw [] k hl0
    refine ⟨(by show 6 ≤ sizeLine; decide), fun l1 hl1 => ?_⟩
    obtain ⟨g1, e1⟩ := lst_raw ([V.str "out", V.str "mark", V.str "wait", V.str "empty", V.str "down", V.str "let"]) g0.rest hl1
    have ld0 : LD K (upd (upd R l0 (.lst [])) l1 (.lst ([V.str "out", V.str "mark", V.str "wait", V.str "empty", V.str "down", V.str "let"]))) (.ref l0) (([] : List Str).map PyData.str) := ⟨l0, [], rfl, g1.same _ _ e0, .nil⟩
    refine ⟨l1, rfl, ⟨_, .inl (.inl upd_same)⟩, ?_⟩
    have g01 := g0.trans g1
    generalize upd (upd R l0 (.lst [])) l1 (.lst ([V.str "out", V.str "mark", V.str "wait", V.str "empty", V.str "down", V.str "let"])) = R1 at g01 ld0 e1 ⊢
    generalize upd (upd H l0 (.lst [])) l1 (.lst ([V.str "out", V.str "mark", V.str "wait", V.str "empty", V.str "down", V.str "let"])) = H1 at g01 ⊢
    refine for_it (walk_list (xs := [V.str "out", V.str "mark", V.str "wait", V.str "empty", V.str "down", V.str "let"])) (fun i σ H' => ∃ (R' : Hp) (x : V) (ws : List Str), Go p R1 H1 R' H' ∧ LD K R' x (ws.map PyData.str) ∧ ws.Nodup ∧ (∀ w ∈ ws, w ∈ wSix.take i) ∧ ∃ y2 y3 y4 y5 : Option V, σ = [some (.ref p), some x, y2, y3, y4, y5]) ⟨R1, .ref l0, [], g01.rest.go, ld0, List.nodup_nil, (fun w hw => nomatch hw), _, _, _, _, rfl⟩ (fun i σ H' _ h => ?_) ?_ ?_
    · obtain ⟨R', x, ws, g, _⟩ := h
      exact .inl (.inl (g.rest.1 _ _ (g.same _ _ e1)))
    · rintro i x σ _ H2 hi ⟨R2, xf, ws, g, ld, hn, hs, y2, y3, y4, y5, rfl⟩ ⟨rfl, hx⟩
      obtain ⟨w, hw, rfl⟩ : ∃ w, wSix[i]? = some w ∧ x = .str w := by
        have hx : (wSix.map V.str)[i]? = some x := hx
        rw [List.getElem?_map] at hx
        obtain ⟨w, hw, e⟩ := Option.map_eq_some_iff.mp hx
        exact ⟨w, hw, e.symm⟩
      have htk : wSix.take (i + 1) = wSix.take i ++ [w] := by rw [List.take_add_one, hw]; rfl
      have hwn : w ∉ ws := fun hm => by
        have h1 := hs w hm
        have h2 : (wSix.take (i + 1)).Nodup := List.Nodup.sublist (List.take_sublist _ _) (by decide +kernel)
        rw [htk] at h2
        exact (List.nodup_append.mp h2).2.2 w h1 w (List.mem_singleton.mpr rfl) rfl
      have hlen : ws.length ≤ 6 := Nat.le_trans (List.Nodup.length_le_of_subset hn hs) (by rw [List.length_take]; show min i 6 ≤ 6; omega)
      have nx : ∀ (R' H' : Hp) (y3 y4 y5 : Option V), Go p R1 H1 R' H' → LD K R' xf (ws.map PyData.str) → ∃ (R' : Hp) (x : V) (ws : List Str), Go p R1 H1 R' H' ∧ LD K R' x (ws.map PyData.str) ∧ ws.Nodup ∧ (∀ w ∈ ws, w ∈ wSix.take (i + 1)) ∧ ∃ y2' y3' y4' y5' : Option V, [some (.ref p), some xf, some (V.str w), y3, y4, y5] = [some (.ref p), some x, y2', y3', y4', y5'] := fun R' H' y3 y4 y5 g ld => ⟨R', xf, ws, g, ld, hn, fun z hz => by rw [htk]; exact List.mem_append.mpr (.inl (hs z hz)), _, _, _, _, rfl⟩
      refine ⟨_, rfl, p, 6, R2, rfl, by decide, g.rest, fun r1 H3 _ _ g3 => ⟨_, rfl, rfl, .inr ⟨_, rfl, _, _, rfl, rfl, ?_, _, _, rfl, rfl, _, rfl, ite2 (fun hz => ?_) (fun hz => nx _ _ _ _ _ (g.trans g3) ld)⟩⟩⟩
      · exact .inl ⟨by decide, by decide⟩
      refine ⟨_, rfl, p, 3, R2, rfl, by decide, (g.trans g3).rest, fun r2 H4 _ _ g4 => ⟨_, _, rfl, rfl, _, rfl, ?_⟩⟩
      have g34 := g.trans (g3.trans g4)
      obtain ⟨D, rfl, eD⟩ := ldW ld
      have sD : SqL K H4 D (ws.map V.str) := .inl (.inl (g34.rest.1 _ _ eD))
      refine if_any (fun x H7 => ∃ (n : Nat) (R7 : Hp), x = .int (n : Nat) ∧ n ≤ ws.length ∧ Go p R1 H1 R7 H7 ∧ LD K R7 (.ref D) (ws.map PyData.str)) (fun hb C c => ?_) (fun hb C c => ?_) ?_
      · refine ⟨_, rfl, D, _, rfl, .inl sD, ?_⟩
        rw [List.length_map]
        exact c _ _ ⟨ws.length, _, rfl, Nat.le_refl _, g34, ld⟩
      · refine ⟨_, rfl, _, rfl, D, _, rfl, .inl sD, _, _, rfl, rfl, ?_⟩
        rw [List.length_map]
        refine ⟨p, _, R2, rfl, by omega, g34.rest, fun r3 H5 h0 h5 g5 => ?_⟩
        exact c _ _ ⟨r3.toNat, _, by rw [Int.toNat_of_nonneg h0], by omega, g34.trans g5, ld.same g5.same⟩
      · rintro x7 H7 ⟨n, R7, rfl, hnl, g7, ld7⟩
        refine ⟨_, rfl, _, rfl, _, rfl, sliceL g7.rest ld7 fun x8 R8 H8 g8 ld8 => ?_⟩
        refine ⟨_, rfl, (by show 1 ≤ sizeLine; decide), fun q1 hq1 => ?_⟩
        obtain ⟨g9, ld9⟩ := new1v (u := .str w) (ds := .str w) g8.rest (.str w) hq1
        rw [cutG_lo _ (Int.natCast_nonneg n) (by rw [List.length_map]; omega), Int.toNat_natCast, ← List.map_take] at ld8
        have le8 : (ws.take n).length ≤ 6 := by rw [List.length_take]; omega
        refine catL g9.rest (ld8.same g9.same) ld9 (by rw [List.length_map, List.length_singleton]; omega) fun x10 R10 H10 g10 ld10 => ?_
        have g710 := g8.trans (g9.trans g10)
        refine ⟨_, rfl, _, rfl, _, rfl, sliceLo g10.rest (ld7.same g710.same) fun x11 R11 H11 g11 ld11 => ?_⟩
        rw [cutG_hi _ (Int.natCast_nonneg n) (by rw [List.length_map]; omega), Int.toNat_natCast, ← List.map_drop] at ld11
        refine catL g11.rest (ld10.same g11.same) ld11 (by rw [List.length_append, List.length_map, List.length_map, List.length_singleton, List.length_drop]; omega) fun x12 R12 H12 g12 ld12 => ?_
        have e12 : (ws.take n).map PyData.str ++ [PyData.str w] ++ (ws.drop n).map PyData.str = (ws.take n ++ w :: ws.drop n).map PyData.str := by
          rw [List.map_append, List.map_cons, List.append_assoc]
          rfl
        rw [e12] at ld12
        refine ⟨R12, x12, _, g7.trans (g710.trans (g11.trans g12)), ld12, nodup_ins hn hwn n, fun z hz => ?_, _, _, _, _, rfl⟩
        rw [htk, List.mem_append, List.mem_singleton]
        rcases mem_ins.mp hz with rfl | hz
        · exact .inr rfl
        · exact .inl (hs z hz)
    · rintro σ H2 ⟨R2, xf, ws, g, ld, hn, hs, y2, y3, y4, y5, rfl⟩
      have hs : ∀ w ∈ ws, w ∈ wSix := hs
      have hlen : ws.length ≤ 6 := List.Nodup.length_le_of_subset (l₂ := wSix) hn hs
      refine ⟨_, rfl, p, 2, R2, rfl, by decide, g.rest, fun r1 H3 _ _ g3 => ⟨rfl, _, rfl, ite2 (fun _ => ?_) (fun _ => ?_)⟩⟩
      · have g13 := g.trans g3
        obtain ⟨D, rfl, eD⟩ := ldW (ld.same g3.same)
        exact ⟨_, rfl, q _ _ D ws (g01.trans g13) eD (pw_six hn hs)⟩
      · have g13 := g.trans g3
        obtain ⟨D, rfl, eD⟩ := ldW ld
        have sD : ∀ R' H', Go p R1 H1 R' H' → Same R2 R' → SqL K H' D (ws.map V.str) := fun R' H' g' s' => .inl (.inl (g'.rest.1 _ _ (s' _ _ eD)))
        refine ⟨_, rfl, _, rfl, D, _, rfl, .inl (sD _ _ g13 g3.same), _, _, rfl, rfl, ?_⟩
        rw [List.length_map]
        refine ⟨p, _, R2, rfl, by omega, g13.rest, fun a H4 a0 a1 g4 => ?_⟩
        have g14 := g13.trans g4
        refine ⟨_, rfl, _, rfl, _, rfl, D, _, rfl, .inl (sD _ _ g14 (g3.trans g4).same), _, rfl, _, _, rfl, rfl, _, _, rfl, rfl, ?_⟩
        rw [List.length_map]
        refine ⟨p, _, R2, rfl, by omega, g14.rest, fun b H5 b0 b1 g5 => ⟨_, _, rfl, rfl, ?_⟩⟩
        have g15 := g14.trans g5
        have s25 := g3.trans (g4.trans g5)
        refine ⟨(by show 1 ≤ sizeLine; decide), fun q1 hq1 => ?_⟩
        obtain ⟨g6, ld6⟩ := new1v (K := K) (u := .str zUnl) (ds := .str zUnl) g5.rest (.str zUnl) hq1
        refine ⟨_, rfl, p, 4, _, rfl, by decide, g6.rest, fun r4 H7 _ _ g7 => ⟨_, _, rfl, rfl, .inr ⟨_, rfl, ?_⟩⟩⟩
        refine repL g7.rest (ld6.same g7.same) (by show 1 ≤ 1000; decide) fun x8 R8 H8 g8 ld8 => ?_
        have ldw8 : LD K R8 (.ref D) (ws.map PyData.str) := ld.same (s25.trans (g6.trans (g7.trans g8))).same
        have ga8 := g15.trans (g6.trans (g7.trans g8))
        have hA : ∃ n : Nat, a = (n : Int) ∧ n ≤ ws.length := ⟨a.toNat, by rw [Int.toNat_of_nonneg a0], by omega⟩
        obtain ⟨na, rfl, hna⟩ := hA
        have hB : ∃ n : Nat, b = (n : Int) ∧ n ≤ ws.length - na := ⟨b.toNat, by rw [Int.toNat_of_nonneg b0], by omega⟩
        obtain ⟨nb, rfl, hnb⟩ := hB
        refine ⟨_, rfl, _, rfl, _, rfl, sliceL g8.rest ldw8 fun x9 R9 H9 g9 ld9 => ?_⟩
        rw [cutG_lo _ (Int.natCast_nonneg na) (by rw [List.length_map]; omega), Int.toNat_natCast, ← List.map_take] at ld9
        refine ⟨(by show 1 ≤ sizeLine; decide), fun q2 hq2 => ?_⟩
        obtain ⟨g10, ld10⟩ := new1v (K := K) (u := .str zLock) (ds := .str zLock) g9.rest (.str zLock) hq2
        have le1 : (ws.take na).length ≤ 6 := by rw [List.length_take]; omega
        have le2 : ((ws.drop na).take nb).length ≤ 6 := by rw [List.length_take, List.length_drop]; omega
        have le3 : (ws.drop (na + nb)).length ≤ 6 := by rw [List.length_drop]; omega
        refine catL g10.rest (ld9.same g10.same) ld10 (by rw [List.length_map, List.length_singleton]; omega) fun x11 R11 H11 g11 ld11 => ?_
        have g8_11 := g9.trans (g10.trans g11)
        refine ⟨_, rfl, _, rfl, _, rfl, _, rfl, _, rfl, sliceL g11.rest (ldw8.same g8_11.same) fun x12 R12 H12 g12 ld12 => ?_⟩
        have eab : ((na : Int) + (nb : Int)) = ((na + nb : Nat) : Int) := (Int.natCast_add na nb).symm
        have hcut : cutG (ws.map PyData.str) (some (na : Int)) (some ((na : Int) + (nb : Int))) = ((ws.drop na).take nb).map PyData.str := by
          rw [eab, cutG_mid _ (Int.natCast_nonneg na) (by omega) (by rw [List.length_map]; omega), Int.toNat_natCast, Int.toNat_natCast, Nat.add_sub_cancel_left, List.map_take, List.map_drop]
        rw [hcut] at ld12
        refine catL g12.rest (ld11.same g12.same) ld12 (by rw [List.length_append, List.length_map, List.length_map, List.length_singleton]; omega) fun x13 R13 H13 g13' ld13 => ?_
        have hu : ∀ c : Bool, (if c = true then [PyData.str zUnl] else []) = (if c = true then [zUnl] else []).map PyData.str := fun c => by cases c <;> rfl
        rw [hu] at ld8
        have le4 : (if decide (0 < r4) = true then [zUnl] else []).length ≤ 1 := by split <;> decide
        have g8_13 := g8_11.trans (g12.trans g13')
        refine ⟨_, rfl, ?_⟩
        refine catL g13'.rest ld13 (ld8.same g8_13.same) (by rw [List.length_append, List.length_append, List.length_map, List.length_map, List.length_map, List.length_singleton]; omega) fun x14 R14 H14 g14' ld14 => ?_
        have g8_14 := g8_13.trans g14'
        refine ⟨_, rfl, _, rfl, _, rfl, sliceLo g14'.rest (ldw8.same g8_14.same) fun x15 R15 H15 g15' ld15 => ?_⟩
        have hcut2 : cutG (ws.map PyData.str) (some ((na : Int) + (nb : Int))) none = (ws.drop (na + nb)).map PyData.str := by
          rw [eab, cutG_hi _ (Int.natCast_nonneg _) (by rw [List.length_map]; omega), Int.toNat_natCast, List.map_drop]
        rw [hcut2] at ld15
        refine catL g15'.rest (ld14.same g15'.same) ld15 (by simp only [List.length_append, List.length_map, List.length_singleton]; omega) fun x16 R16 H16 g16 ld16 => ?_
        have hpw := pw_lock hn hs (a := na) (b := na + nb) (Nat.le_add_right _ _) (decide (0 < r4))
        rw [Nat.add_sub_cancel_left] at hpw
        have e16 : (ws.take na).map PyData.str ++ [PyData.str zLock] ++ ((ws.drop na).take nb).map PyData.str ++ (if decide (0 < r4) = true then [zUnl] else []).map PyData.str ++ (ws.drop (na + nb)).map PyData.str = (ws.take na ++ zLock :: ((ws.drop na).take nb ++ ((if decide (0 < r4) = true then [zUnl] else []) ++ ws.drop (na + nb)))).map PyData.str := by
          simp only [List.map_append, List.map_cons, List.append_assoc, List.cons_append, List.nil_append]
        rw [e16] at ld16
        obtain ⟨D9, rfl, eD9⟩ := ldW ld16
        exact q _ _ D9 _ (g01.trans (ga8.trans (g8_14.trans (g15'.trans g16)))) eD9 hpw
end
end K57

namespace K57
open PySem PySem.Spec PyProof.Rows StX L2 TL GG OO PB
theorem it_gen {J : It} {n : Nat} {G : Hp → Prop} {Y : Nat → Hp → V → Hp → Prop} (w : Walk J n G Y) {Inn : (Hp → Prop) → V → Hp → Prop} {H1 : Hp} {Qd : Hp → Prop} (Pv : Nat → Hp → Prop) (h0 : Pv 0 H1) (hG : ∀ i H, i ≤ n → Pv i H → G H)
    (hs : ∀ i x H H', i < n → Pv i H → Y i H x H' → Inn (Pv (i + 1)) x H') (hd : ∀ H, Pv n H → Qd H) :
    ∃ W : Nat → Nat → Hp → Prop, (∃ m, W 0 m H1) ∧ ∀ i m H, W i m H →
      (J.stop i H ∧ Qd H) ∨ (J.go i H ∧ ∃ Nx : Hp → Prop, (∀ H', Nx H' → ∃ m', m' < m ∧ W (i + 1) m' H') ∧ ∀ x H', J.yld i H x H' → Inn Nx x H') := by
  refine ⟨fun i m H => m = n - i ∧ i ≤ n ∧ Pv i H, ⟨n, by simp, Nat.zero_le _, h0⟩, ?_⟩
  rintro i m H ⟨rfl, hi, p⟩
  have q := hG i H hi p
  by_cases hlt : i < n
  · exact .inr ⟨w.goes i H hlt q, Pv (i + 1), fun H' p' => ⟨n - (i + 1), by omega, rfl, hlt, p'⟩, fun x H' y => hs i x H H' hlt p (w.yields i H x H' hlt q y)⟩
  · have e : i = n := by omega
    subst e
    exact .inl ⟨w.stops H q, hd H p⟩
section
variable {P : Program} {w : World} {K : PySem.W.Frag} {mg : Str → Option Value} {base : Heap} {dO dA dS : Addr} {C : Addr}
def spKinds (K : PySem.W.Frag) : Sp := fun vs H Q _ => ∃ (p : Addr) (R : Hp), vs = [.ref p] ∧ Rest p R H ∧ ∀ (R' H' : Hp) (D : Addr) (o a : Str), Go p R H R' H' → R' D = some (.lst [.str o, .str a]) → o ∈ wOps → a ∈ wAsks → Q (.ref D) H'
theorem mem_strs {ws : List Str} {x : V} (h : x ∈ ws.map V.str) : ∃ w, x = .str w ∧ w ∈ ws := by
  obtain ⟨w, hw, e⟩ := List.mem_map.mp h
  exact ⟨w, e.symm, hw⟩
theorem sc_l_kinds : FnScope ["_law_pool_here"] ["_law_pool_here"] (defScope s_l_kinds) := ⟨rfl, rfl, rfl, by decide +kernel, rfl, by decide +kernel, by decide +kernel⟩
theorem ok_l_kinds {f : Addr} {fd : FuncData} (F : Fun K "_law_kinds" "_law_kinds" s_l_kinds f fd) (T : Txt K w mg dO dA dS) {f1 : Addr} {fd1 : FuncData} (F_l_pick : Fun K "_law_pick" "_law_pick" s_l_pick f1 fd1) (b_l_pick : Binds K fd1 ["_law_pool_here", "_law_some"] []) (g_l_pick : mg "_law_pick" = some (.ref f1)) (G_l_pick : FnOk P w K mg base CX0 2 f1 fd1 ["_law_pool_here", "_law_some"] (spPick K)) : FnOk P w K mg base CX0 3 f fd ["_law_pool_here"] (spKinds K) := by
  refine F.ok sc_l_kinds (fun vs H Q E h => ?_) (fun cdv A outer s H vs Q E hr h => ?_)
  · obtain ⟨p, R, rfl, _⟩ := h
    rfl
  · obtain ⟨p, R, rfl, k, q⟩ := h
    refine ⟨_, (pss_one (ps_ret (pe_lst (pa_cons (pe_call G_l_pick hr (by rfl) g_l_pick F_l_pick.kp b_l_pick .nil pass0 (pa_cons (pv 0) (pa_cons (pe_lst (pa_cons pe_str (pa_cons pe_str (pa_cons pe_str pa_nil)))) pa_nil))) (pa_cons (pe_call G_l_pick hr (by rfl) g_l_pick F_l_pick.kp b_l_pick .nil pass0 (pa_cons (pv 0) (pa_cons (pe_lst (pa_cons pe_str (pa_cons pe_str (pa_cons pe_str (pa_cons pe_str (pa_cons pe_str pa_nil)))))) pa_nil))) pa_nil))))), ?_⟩
    refine ⟨_, rfl, (by show 3 ≤ sizeLine; decide), fun l1 hl1 => ?_⟩
    obtain ⟨g1, e1⟩ := lst_raw (wOps.map V.str) k hl1
    refine ⟨p, l1, _, wOps.map V.str, rfl, .inl (.inl e1), (by decide), g1.rest, fun x H2 hx g2 => ?_⟩
    refine ⟨_, rfl, (by show 5 ≤ sizeLine; decide), fun l2 hl2 => ?_⟩
    obtain ⟨g3, e3⟩ := lst_raw ((["in", "ahead", "none", "locked", "in"] : List Str).map V.str) g2.rest hl2
    refine ⟨p, l2, _, (["in", "ahead", "none", "locked", "in"] : List Str).map V.str, rfl, .inl (.inl e3), (by decide), g3.rest, fun y H4 hy g4 => ?_⟩
    obtain ⟨o, rfl, ho⟩ := mem_strs hx
    obtain ⟨a, rfl, ha⟩ := mem_strs hy
    refine ⟨(by show 2 ≤ sizeLine; decide), fun D hD => ?_⟩
    obtain ⟨g5, e5⟩ := lst_raw [V.str o, V.str a] g4.rest hD
    refine q _ _ D o a (g1.trans (g2.trans (g3.trans (g4.trans g5)))) e5 ho ?_
    simp only [List.mem_cons, List.not_mem_nil, or_false] at ha ⊢
    rcases ha with h | h | h | h | h
    · exact .inl h
    · exact .inr (.inl h)
    · exact .inr (.inr (.inl h))
    · exact .inr (.inr (.inr h))
    · exact .inl h
/-! ### further methods -/
theorem sc_pl_opens : FnScope ["self"] ["self"] (defScope sPl_opens) := ⟨rfl, rfl, rfl, by decide +kernel, rfl, by decide +kernel, by decide +kernel⟩
theorem ok_pl_opens {f : Addr} {fd : FuncData} (F : Fun K "opens" "Plain.opens" sPl_opens f fd) (CT : ClT K mg C) : FnOk P w K mg base CX0 1 f fd ["self"] (getSp C "_opens") := by
  refine F.ok sc_pl_opens (fun vs H Q E h => ?_) (fun cdv A outer s H vs Q E hr h => ?_)
  · obtain ⟨a, dx, fs, v, rfl, _⟩ := h
    rfl
  · obtain ⟨a, dx, fs, v, rfl, ha, hl, q⟩ := h
    refine ⟨_, pss_one (ps_ret (pe_fld (pv 0) rfl)), ?_⟩
    exact ⟨_, rfl, a, C, dx, fs, v, rfl, ha, CT.cl, CT.nO, hl, q⟩
theorem sc_pl_asks : FnScope ["self"] ["self"] (defScope sPl_asks) := ⟨rfl, rfl, rfl, by decide +kernel, rfl, by decide +kernel, by decide +kernel⟩
theorem ok_pl_asks {f : Addr} {fd : FuncData} (F : Fun K "asks" "Plain.asks" sPl_asks f fd) (CT : ClT K mg C) : FnOk P w K mg base CX0 1 f fd ["self"] (getSp C "_asks") := by
  refine F.ok sc_pl_asks (fun vs H Q E h => ?_) (fun cdv A outer s H vs Q E hr h => ?_)
  · obtain ⟨a, dx, fs, v, rfl, _⟩ := h
    rfl
  · obtain ⟨a, dx, fs, v, rfl, ha, hl, q⟩ := h
    refine ⟨_, pss_one (ps_ret (pe_fld (pv 0) rfl)), ?_⟩
    exact ⟨_, rfl, a, C, dx, fs, v, rfl, ha, CT.cl, CT.nA, hl, q⟩
def spLenP (C : Addr) : Sp := fun vs H Q _ => ∃ (r : Addr) (o a : Str) (ws : List Str), vs = [.ref r] ∧ PlainAt C H r o a ws ∧ Q (.int (ws.length : Nat)) H
theorem sc_pl_len : FnScope ["self"] ["self"] (defScope sPl_len) := ⟨rfl, rfl, rfl, by decide +kernel, rfl, by decide +kernel, by decide +kernel⟩
theorem ok_pl_len {f : Addr} {fd : FuncData} (F : Fun K "__len__" "Plain.__len__" sPl_len f fd) (T : Txt K w mg dO dA dS) (CT : ClT K mg C) : FnOk P w K mg base CX0 1 f fd ["self"] (spLenP C) := by
  refine F.ok sc_pl_len (fun vs H Q E h => ?_) (fun cdv A outer s H vs Q E hr h => ?_)
  · obtain ⟨r, o, a, ws, rfl, _⟩ := h
    rfl
  · obtain ⟨r, o, a, ws, rfl, ⟨dx, p, ob, h1, h2, h3⟩, q⟩ := h
    refine ⟨_, pss_one (ps_ret (pe_callB call_len_seq (by rfl) T.m_len PySem.boot_len (pa_cons (pe_fld (pv 0) rfl) pa_nil))), ?_⟩
    refine ⟨_, rfl, r, C, dx, _, _, rfl, h1, CT.cl, CT.nP, plF_p o a p, p, _, rfl, .inr (.inl (.inr ⟨ob, h2⟩)), ?_⟩
    rw [List.length_map]
    exact q
def contB (ws : List Str) (d : PyData) : Bool := match d with
  | .str z => decide (z ∈ wPulls) && decide (z ∈ ws)
  | _ => false
theorem contB_str {ws : List Str} {z : Str} (hz : z ∈ wPulls) : contB ws (.str z) = decide (z ∈ ws) := by
  show (decide (z ∈ wPulls) && decide (z ∈ ws)) = _
  rw [decide_eq_true hz, Bool.true_and]
def spCont (K : PySem.W.Frag) (C : Addr) : Sp := fun vs H Q _ => ∃ (r : Addr) (x : V) (d : PyData) (o a : Str) (ws : List Str), vs = [.ref r, x] ∧ PlainAt C H r o a ws ∧ Val K H x d ∧ Q (.bl (contB ws d)) H
theorem sc_pl_contains : FnScope ["self", "value"] ["self", "value"] (defScope sPl_contains) := ⟨rfl, rfl, rfl, by decide +kernel, rfl, by decide +kernel, by decide +kernel⟩
theorem ok_pl_contains {f : Addr} {fd : FuncData} (F : Fun K "__contains__" "Plain.__contains__" sPl_contains f fd) (T : Txt K w mg dO dA dS) (CT : ClT K mg C) {f1 : Addr} {fd1 : FuncData} (F_is_pull : Fun K "_is_pull" "_is_pull" s_is_pull f1 fd1) (b_is_pull : Binds K fd1 ["value"] []) (g_is_pull : mg "_is_pull" = some (.ref f1)) (G_is_pull : FnOk P w K mg base CX0 1 f1 fd1 ["value"] (spIsPull K)) : FnOk P w K mg base CX0 2 f fd ["self", "value"] (spCont K C) := by
  refine F.ok sc_pl_contains (fun vs H Q E h => ?_) (fun cdv A outer s H vs Q E hr h => ?_)
  · obtain ⟨r, x, d, o, a, ws, rfl, _⟩ := h
    rfl
  · obtain ⟨r, x, d, o, a, ws, rfl, ⟨dx, p, ob, h1, h2, h3⟩, hv, q⟩ := h
    refine ⟨_, pss_one (ps_ret (pe_and (pe_call G_is_pull (hr.mono (by decide)) (by rfl) g_is_pull F_is_pull.kp b_is_pull .nil pass0 (pa_cons (pv 1) pa_nil)) (pe_one (pe_cmpR op_in_seq (pv 1) (pe_fld (pv 0) rfl) (by rfl))))), ?_⟩
    refine ⟨_, rfl, _, d, rfl, hv, _, rfl, ite2 (fun hb => ?_) (fun hb => ?_)⟩
    · obtain ⟨z, rfl, hz⟩ : ∃ z, d = .str z ∧ z ∈ wPulls := by
        cases d <;> first | cases hb; done | exact ⟨_, rfl, of_decide_eq_true hb⟩
      obtain ⟨rfl, _, _⟩ := hv.str
      refine ⟨_, rfl, _, rfl, r, C, dx, _, _, rfl, h1, CT.cl, CT.nP, plF_p o a p, p, _, rfl, .inr (.inl (.inr ⟨ob, h2⟩)), rfl, flat_words _, ?_⟩
      rw [contB_str hz] at q
      show Q (.bl (inV (.str z) (ws.map V.str))) H
      rw [inV_strs]
      exact q
    · have e : contB ws d = false := by
        have hb : isPullD d = false := bf hb
        cases d <;> first | rfl | (show (decide (_ ∈ wPulls) && _) = false; rw [show decide (_ ∈ wPulls) = false from hb]; rfl)
      rw [e] at q
      exact q
/-- a plain book's methods, by name -/
structure PlM (P : Program) (w : World) (K : PySem.W.Frag) (mg : Str → Option Value) (base : Heap) (C U : Addr) : Prop where
  cl : Cls K C
  opens : ∃ (pp fP : Addr) (fdP : FuncData), PropOf K C "opens" pp fP ∧ Binds K fdP ["self"] [] ∧ FnOk P w K mg base CX0 1 fP fdP ["self"] (getSp C "_opens")
  asks : ∃ (pp fP : Addr) (fdP : FuncData), PropOf K C "asks" pp fP ∧ Binds K fdP ["self"] [] ∧ FnOk P w K mg base CX0 1 fP fdP ["self"] (getSp C "_asks")
  len : ∃ g, PySem.W.findIn K (.ref C) "__len__" = some (some (.ref g)) ∧ PySem.W.isFn K (.ref g) = true ∧ FnR P w K mg base CX0 1 g (spLenP C)
  cont : ∃ g, PySem.W.findIn K (.ref C) "__contains__" = some (some (.ref g)) ∧ PySem.W.isFn K (.ref g) = true ∧ FnR P w K mg base CX0 2 g (spCont K C)
  ahead : ∃ (f : Addr) (fd : FuncData), Meth K C "ahead" f ∧ Binds K fd ["self", "word"] [] ∧ FnOk P w K mg base (L2.CX P w) 3 f fd ["self", "word"] (spAh K C U 0)
  behind : ∃ (f : Addr) (fd : FuncData), Meth K C "behind" f ∧ Binds K fd ["self", "word"] [] ∧ FnOk P w K mg base (L2.CX P w) 4 f fd ["self", "word"] (spAh K C U 1)
  gaps : ∃ (f : Addr) (fd : FuncData), Meth K C "gaps" f ∧ Binds K fd ["self"] [] ∧ FnOk P w K mg base CX0 5 f fd ["self"] (spPs K C fun _ ws => gapsOf ws)
  openings : ∃ (f : Addr) (fd : FuncData), Meth K C "openings" f ∧ Binds K fd ["self"] [] ∧ FnOk P w K mg base CX0 7 f fd ["self"] (spPs K C opsOf)
end
end K57

namespace K57
open PySem PySem.Spec PyProof.Rows StX L2 TL GG OO PB
section
variable {P : Program} {w : World} {K : PySem.W.Frag} {mg : Str → Option Value} {base : Heap} {dO dA dS : Addr} {C : Addr}
theorem min_iN (i j : Nat) : V.int (if (Int.ofNat j) < (Int.ofNat i) then (Int.ofNat j) else (Int.ofNat i)) = iN (min i j) := by
  unfold iN
  congr 1
  by_cases h : j < i
  · rw [if_pos (show Int.ofNat j < Int.ofNat i from Int.ofNat_lt.mpr h), Nat.min_eq_right (Nat.le_of_lt h)]
  · rw [if_neg (show ¬ Int.ofNat j < Int.ofNat i from fun z => h (Int.ofNat_lt.mp z)), Nat.min_eq_left (Nat.le_of_not_lt h)]
theorem ge_dec {i j : Nat} : decide ((Int.ofNat i) ≥ (Int.ofNat j)) = decide (j ≤ i) := le_dec
theorem lt_dec {i j : Nat} : decide ((Int.ofNat i) < (Int.ofNat j)) = decide (i < j) := by
  rw [Bool.eq_iff_iff, decide_eq_true_iff, decide_eq_true_iff]
  exact Int.ofNat_lt
def spTL (K : PySem.W.Frag) (C : Addr) : Sp := fun vs H Q _ => ∃ (r t1 t2 : Addr) (o a : Str) (ws : List Str) (op g : Nat × Nat), vs = [.ref r, .ref t1, .ref t2] ∧ PlainAt C H r o a ws ∧ SqT K H t1 [iN op.1, iN op.2] ∧ SqT K H t2 [iN g.1, iN g.2] ∧ Q (.bl (tchL ws op g)) H
theorem sc_is_touched_locked : FnScope ["plain", "opening", "gap", "lowest", "highest", "first", "last", "low"] ["plain", "opening", "gap"] (defScope s_is_touched_locked) := ⟨rfl, rfl, rfl, by decide +kernel, rfl, by decide +kernel, by decide +kernel⟩
theorem ok_is_touched_locked {f : Addr} {fd : FuncData} (F : Fun K "_is_touched_locked" "_is_touched_locked" s_is_touched_locked f fd) (T : Txt K w mg dO dA dS) {U : Addr} (M : PlM P w K mg base C U) : FnOk P w K mg base CX0 6 f fd ["plain", "opening", "gap"] (spTL K C) := by
  refine F.ok sc_is_touched_locked (fun vs H Q E h => ?_) (fun cdv A outer s H vs Q E hr h => ?_)
  · obtain ⟨r, t1, t2, o, a, ws, op, g, rfl, _⟩ := h
    rfl
  · obtain ⟨r, t1, t2, o, a, ws, op, g, rfl, hpl, ht1, ht2, q⟩ := h
    obtain ⟨f_ahead, fd_ahead, M_ahead, b_ahead, G_ahead⟩ := M.ahead
    obtain ⟨f_behind, fd_behind, M_behind, b_behind, G_behind⟩ := M.behind
    refine ⟨_, (pss_cons (ps_asg (pv 1) (pg_tup rfl (pgs_cons (pg_name (i := 3) sc_is_touched_locked.nd rfl (.inl rfl)) (pgs_cons (pg_name (i := 4) sc_is_touched_locked.nd rfl (.inl rfl)) pgs_nil)))) 
        (pss_cons (ps_asg (pv 2) (pg_tup rfl (pgs_cons (pg_name (i := 5) sc_is_touched_locked.nd rfl (.inl rfl)) (pgs_cons (pg_name (i := 6) sc_is_touched_locked.nd rfl (.inl rfl)) pgs_nil)))) 
        (pss_cons (ps_set (i := 7) sc_is_touched_locked.nd rfl (.inl rfl) (pe_callB (call_max2 rfl) (by rfl) T.m_max (by decide +kernel) (pa_cons (pv 3) (pa_cons (pv 5) pa_nil)))) 
        (pss_one (ps_ret (pe_and (pe_cmpR op_le (pv 7) (pe_meth (E := E0) (pv 0) M.cl M_ahead G_ahead (hr.mono (by decide)) b_ahead .nil passL (pa_cons pe_str pa_nil)) (nomark _)) (pe_one (pe_cmpR op_le (pe_callB (call_max2 rfl) (by rfl) T.m_max (by decide +kernel) (pa_cons (pv 7) (pa_cons (pe_meth (E := E0) (pv 0) M.cl M_behind G_behind (hr.mono (by decide)) b_behind .nil passL (pa_cons pe_str pa_nil)) pa_nil))) (pe_callB (call_min2 rfl) (by rfl) T.m_min (by decide +kernel) (pa_cons (pv 6) (pa_cons (pv 4) pa_nil))) (nomark _))))))))), ?_⟩
    obtain ⟨dx, p, ob, h1, h2, h3⟩ := id hpl
    refine ⟨_, rfl, t1, _, rfl, ht1, rfl, _, _, rfl, _, _, rfl, rfl, ?_⟩
    refine ⟨_, rfl, t2, _, rfl, ht2, rfl, _, _, rfl, _, _, rfl, rfl, ?_⟩
    refine ⟨_, rfl, _, rfl, _, _, rfl, ?_⟩
    rw [max_iN]
    unfold tchL at q
    refine ⟨_, rfl, _, rfl, r, dx, _, rfl, h1, (plF_no o a p (by decide +kernel) (by decide +kernel) (by decide +kernel) : (plF o a p).lookup ("ahead" : Str) = none), r, _, o, a, ws, rfl, hpl, .inl ⟨zMark, rfl, (by decide +kernel), _, _, rfl, rfl, ?_⟩⟩
    refine ⟨_, rfl, ite2 (fun c1 => ?_) (fun c1 => ?_)⟩
    · rw [le_dec] at c1
      rw [show decide (max op.1 g.1 ≤ ws.idxOf zMark) = true from c1, Bool.true_and] at q
      refine ⟨_, rfl, _, rfl, r, dx, _, rfl, h1, (plF_no o a p (by decide +kernel) (by decide +kernel) (by decide +kernel) : (plF o a p).lookup ("behind" : Str) = none), r, _, o, a, ws, rfl, hpl, .inl ⟨zDown, rfl, (by decide +kernel), _, _, rfl, ?_⟩⟩
      rw [max_iN]
      refine ⟨_, rfl, _, rfl, _, _, rfl, ?_⟩
      rw [min_iN]
      refine ⟨_, _, rfl, rfl, ?_⟩
      show Q (.bl (decide (Int.ofNat _ ≤ Int.ofNat _))) H
      rw [le_dec]
      exact q
    · rw [le_dec] at c1
      rw [show decide (max op.1 g.1 ≤ ws.idxOf zMark) = false from bf c1, Bool.false_and] at q
      exact q
def spSpans (K : PySem.W.Frag) (C : Addr) : Sp := fun vs H Q _ => ∃ (r t : Addr) (o a : Str) (ws : List Str) (op : Nat × Nat), vs = [.ref r, .ref t] ∧ PlainAt C H r o a ws ∧ PW ws ∧ SqT K H t [iN op.1, iN op.2] ∧ ∀ (H' : Hp) (l : Addr), Same H H' → H l = none → LP K H' l (spans ws op) → Q (.ref l) H'
theorem sc_spans_around_wait : FnScope ["plain", "opening", "lowest", "_"] ["plain", "opening"] (defScope s_spans_around_wait) := ⟨rfl, rfl, rfl, by decide +kernel, rfl, by decide +kernel, by decide +kernel⟩
theorem ok_spans_around_wait {f : Addr} {fd : FuncData} (F : Fun K "_spans_around_wait" "_spans_around_wait" s_spans_around_wait f fd) (T : Txt K w mg dO dA dS) {U : Addr} (M : PlM P w K mg base C U) : FnOk P w K mg base CX0 6 f fd ["plain", "opening"] (spSpans K C) := by
  refine F.ok sc_spans_around_wait (fun vs H Q E h => ?_) (fun cdv A outer s H vs Q E hr h => ?_)
  · obtain ⟨r, t, o, a, ws, op, rfl, _⟩ := h
    rfl
  · obtain ⟨r, t, o, a, ws, op, rfl, hpl, hw, ht, q⟩ := h
    obtain ⟨f_ahead, fd_ahead, M_ahead, b_ahead, G_ahead⟩ := M.ahead
    obtain ⟨f_behind, fd_behind, M_behind, b_behind, G_behind⟩ := M.behind
    obtain ⟨g_len, i_len, j_len, R_len⟩ := M.len
    refine ⟨_, (pss_cons (ps_asg (pv 1) (pg_tup rfl (pgs_cons (pg_name (i := 2) sc_spans_around_wait.nd rfl (.inl rfl)) (pgs_cons (pg_name (i := 3) sc_spans_around_wait.nd rfl (.inl rfl)) pgs_nil)))) 
        (pss_one (ps_ret (pe_lst (pa_cons (pe_tup (pa_cons (pv 2) (pa_cons (pe_meth (E := E0) (pv 0) M.cl M_ahead G_ahead (hr.mono (by decide)) b_ahead .nil passL (pa_cons pe_str pa_nil)) pa_nil))) (pa_cons (pe_tup (pa_cons (pe_callB (call_max2 rfl) (by rfl) T.m_max (by decide +kernel) (pa_cons (pv 2) (pa_cons (pe_meth (E := E0) (pv 0) M.cl M_behind G_behind (hr.mono (by decide)) b_behind .nil passL (pa_cons pe_str pa_nil)) pa_nil))) (pa_cons (pe_callB (call_lenO R_len (hr.mono (by decide)) pass0 i_len j_len) (by rfl) T.m_len PySem.boot_len (pa_cons (pv 0) pa_nil)) pa_nil))) pa_nil)))))), ?_⟩
    obtain ⟨dx, p, ob, h1, h2, h3⟩ := id hpl
    have hlen : ws.length ≤ 1000 := Nat.le_trans hw.len (by decide)
    refine ⟨_, rfl, t, _, rfl, ht, rfl, _, _, rfl, _, _, rfl, rfl, ?_⟩
    refine ⟨_, rfl, _, rfl, r, dx, _, rfl, h1, (plF_no o a p (by decide +kernel) (by decide +kernel) (by decide +kernel) : (plF o a p).lookup ("ahead" : Str) = none), r, _, o, a, ws, rfl, hpl, .inl ⟨zWait, rfl, (by decide +kernel), (by show 2 ≤ sizeLine; decide), fun u1 hu1 => ?_⟩⟩
    have s1 := same_upd (o := .tup [iN op.1, iN (ws.idxOf zWait + 0)]) hu1
    refine ⟨_, rfl, _, rfl, r, dx, _, rfl, (s1 _ _ h1), (plF_no o a p (by decide +kernel) (by decide +kernel) (by decide +kernel) : (plF o a p).lookup ("behind" : Str) = none), r, _, o, a, ws, rfl, (hpl.same s1), .inl ⟨zWait, rfl, (by decide +kernel), _, _, rfl, ?_⟩⟩
    rw [max_iN]
    refine ⟨_, rfl, r, dx, _, rfl, (s1 _ _ h1), r, o, a, ws, rfl, (hpl.same s1), ws.length, rfl, hlen, (by show 2 ≤ sizeLine; decide), fun u2 hu2 => ⟨(by show 2 ≤ sizeLine; decide), fun l hl => ?_⟩⟩
    have s2 := same_upd (o := .tup [iN (max op.1 (ws.idxOf zWait + 1)), V.int (ws.length : Nat)]) hu2
    have s3 := same_upd (o := .lst [V.ref u1, .ref u2]) hl
    refine q _ l (s1.trans (s2.trans s3)) ((s1.trans s2).free hl) ⟨_, upd_same, ?_⟩
    exact .cons (dp_pr (.inl (.inl ((s2.trans s3) _ _ upd_same)))) (.cons (dp_pr (.inl (.inl (s3 _ _ upd_same)))) .nil)
def spTB (K : PySem.W.Frag) (C : Addr) : Sp := fun vs H Q _ => ∃ (r t1 t2 : Addr) (o a : Str) (ws : List Str) (op sp : Nat × Nat), vs = [.ref r, .ref t1, .ref t2] ∧ PlainAt C H r o a ws ∧ SqT K H t1 [iN op.1, iN op.2] ∧ SqT K H t2 [iN sp.1, iN sp.2] ∧ Q (.bl (tchB a ws op sp)) H
theorem eqA {a z : Str} : decide (V.str a = V.str z) = decide (a = z) := by
  rw [Bool.eq_iff_iff, decide_eq_true_iff, decide_eq_true_iff]
  exact ⟨fun h => V.str.inj h, fun h => by rw [h]⟩
theorem sc_is_touched_between : FnScope ["plain", "opening", "span", "lowest", "highest", "low", "high"] ["plain", "opening", "span"] (defScope s_is_touched_between) := ⟨rfl, rfl, rfl, by decide +kernel, rfl, by decide +kernel, by decide +kernel⟩
theorem ok_is_touched_between {f : Addr} {fd : FuncData} (F : Fun K "_is_touched_between" "_is_touched_between" s_is_touched_between f fd) (T : Txt K w mg dO dA dS) {U : Addr} (M : PlM P w K mg base C U) : FnOk P w K mg base CX0 6 f fd ["plain", "opening", "span"] (spTB K C) := by
  refine F.ok sc_is_touched_between (fun vs H Q E h => ?_) (fun cdv A outer s H vs Q E hr h => ?_)
  · obtain ⟨r, t1, t2, o, a, ws, op, sp, rfl, _⟩ := h
    rfl
  · obtain ⟨r, t1, t2, o, a, ws, op, sp, rfl, hpl, ht1, ht2, q⟩ := h
    obtain ⟨f_ahead, fd_ahead, M_ahead, b_ahead, G_ahead⟩ := M.ahead
    obtain ⟨f_behind, fd_behind, M_behind, b_behind, G_behind⟩ := M.behind
    obtain ⟨pp_asks, fP_asks, fdP_asks, PP_asks, bP_asks, GP_asks⟩ := M.asks
    refine ⟨_, (pss_cons (ps_asg (pv 1) (pg_tup rfl (pgs_cons (pg_name (i := 3) sc_is_touched_between.nd rfl (.inl rfl)) (pgs_cons (pg_name (i := 4) sc_is_touched_between.nd rfl (.inl rfl)) pgs_nil)))) 
        (pss_cons (ps_asg (pv 2) (pg_tup rfl (pgs_cons (pg_name (i := 5) sc_is_touched_between.nd rfl (.inl rfl)) (pgs_cons (pg_name (i := 6) sc_is_touched_between.nd rfl (.inl rfl)) pgs_nil)))) 
        (pss_cons (ps_if (PW.pt (pw_and (pt_cmpR op_eq (pe_prop (pv 0) M.cl PP_asks GP_asks (hr.mono (by decide)) bP_asks .nil pass0 (by rfl)) pe_str (nomark _)) (pw_and1 (pt_cmpR op_gt (pv 5) (pe_meth (E := E0) (pv 0) M.cl M_ahead G_ahead (hr.mono (by decide)) b_ahead .nil passL (pa_cons pe_str pa_nil)) (nomark _))))) 
          (pss_one (ps_ret pe_bl)) pss_nil) 
        (pss_cons (ps_if (PW.pt (pw_and (pt_cmpR op_eq (pe_prop (pv 0) M.cl PP_asks GP_asks (hr.mono (by decide)) bP_asks .nil pass0 (by rfl)) pe_str (nomark _)) (pw_and1 (pt_cmpR op_gt (pv 3) (pe_meth (E := E0) (pv 0) M.cl M_ahead G_ahead (hr.mono (by decide)) b_ahead .nil passL (pa_cons pe_str pa_nil)) (nomark _))))) 
          (pss_one (ps_ret pe_bl)) pss_nil) 
        (pss_one (ps_ret (pe_cmpR op_le (pe_callB (call_max2 rfl) (by rfl) T.m_max (by decide +kernel) (pa_cons (pv 5) (pa_cons (pe_meth (E := E0) (pv 0) M.cl M_behind G_behind (hr.mono (by decide)) b_behind .nil passL (pa_cons pe_str pa_nil)) pa_nil))) (pe_callB (call_min2 rfl) (by rfl) T.m_min (by decide +kernel) (pa_cons (pv 6) (pa_cons (pv 4) pa_nil))) (nomark _)))))))), ?_⟩
    obtain ⟨dx, p, ob, h1, h2, h3⟩ := id hpl
    refine ⟨_, rfl, t1, _, rfl, ht1, rfl, _, _, rfl, _, _, rfl, rfl, ?_⟩
    refine ⟨_, rfl, t2, _, rfl, ht2, rfl, _, _, rfl, _, _, rfl, rfl, ?_⟩
    unfold tchB at q
    refine ⟨_, rfl, r, dx, _, rfl, h1, r, dx, _, _, rfl, h1, plF_a o a p, rfl, _, rfl, ite2 (fun c1 => ?_) (fun c1 => ?_)⟩
    · have c1 : decide (a = "in") = true := by rw [← eqA]; exact c1
      refine ⟨_, rfl, _, rfl, r, dx, _, rfl, h1, (plF_no o a p (by decide +kernel) (by decide +kernel) (by decide +kernel) : (plF o a p).lookup ("ahead" : Str) = none), r, _, o, a, ws, rfl, hpl, .inl ⟨zMark, rfl, (by decide +kernel), _, _, rfl, rfl, _, rfl, ite2 (fun c2 => ?_) (fun c2 => ?_)⟩⟩
      · have c2 : decide (ws.idxOf zMark < sp.1) = true := by rw [← lt_dec]; exact c2
        rw [c1, c2] at q
        exact q
      · have c2 : decide (ws.idxOf zMark < sp.1) = false := by rw [← lt_dec]; exact bf c2
        rw [c1, c2] at q
        refine ⟨_, rfl, r, dx, _, rfl, h1, r, dx, _, _, rfl, h1, plF_a o a p, rfl, _, rfl, ite2 (fun c3 => ?_) (fun c3 => ?_)⟩
        · have c3 : decide (a = "ahead") = true := by rw [← eqA]; exact c3
          refine ⟨_, rfl, _, rfl, r, dx, _, rfl, h1, (plF_no o a p (by decide +kernel) (by decide +kernel) (by decide +kernel) : (plF o a p).lookup ("ahead" : Str) = none), r, _, o, a, ws, rfl, hpl, .inl ⟨zMark, rfl, (by decide +kernel), _, _, rfl, rfl, _, rfl, ite2 (fun c4 => ?_) (fun c4 => ?_)⟩⟩
          · have c4 : decide (ws.idxOf zMark < op.1) = true := by rw [← lt_dec]; exact c4
            rw [c3, c4] at q
            exact q
          · have c4 : decide (ws.idxOf zMark < op.1) = false := by rw [← lt_dec]; exact bf c4
            rw [c3, c4] at q
            refine ⟨_, rfl, _, rfl, r, dx, _, rfl, h1, (plF_no o a p (by decide +kernel) (by decide +kernel) (by decide +kernel) : (plF o a p).lookup ("behind" : Str) = none), r, _, o, a, ws, rfl, hpl, .inl ⟨zDown, rfl, (by decide +kernel), _, _, rfl, ?_⟩⟩
            rw [max_iN]
            refine ⟨_, rfl, _, rfl, _, _, rfl, ?_⟩
            rw [min_iN]
            refine ⟨_, _, rfl, rfl, ?_⟩
            show Q (.bl (decide (Int.ofNat _ ≤ Int.ofNat _))) H
            rw [le_dec]
            exact q
        · have c3 : decide (a = "ahead") = false := by rw [← eqA]; exact bf c3
          rw [c3] at q
          refine ⟨_, rfl, _, rfl, r, dx, _, rfl, h1, (plF_no o a p (by decide +kernel) (by decide +kernel) (by decide +kernel) : (plF o a p).lookup ("behind" : Str) = none), r, _, o, a, ws, rfl, hpl, .inl ⟨zDown, rfl, (by decide +kernel), _, _, rfl, ?_⟩⟩
          rw [max_iN]
          refine ⟨_, rfl, _, rfl, _, _, rfl, ?_⟩
          rw [min_iN]
          refine ⟨_, _, rfl, rfl, ?_⟩
          show Q (.bl (decide (Int.ofNat _ ≤ Int.ofNat _))) H
          rw [le_dec]
          exact q
    · have c1 : decide (a = "in") = false := by rw [← eqA]; exact bf c1
      rw [c1] at q
      refine ⟨_, rfl, r, dx, _, rfl, h1, r, dx, _, _, rfl, h1, plF_a o a p, rfl, _, rfl, ite2 (fun c3 => ?_) (fun c3 => ?_)⟩
      · have c3 : decide (a = "ahead") = true := by rw [← eqA]; exact c3
        refine ⟨_, rfl, _, rfl, r, dx, _, rfl, h1, (plF_no o a p (by decide +kernel) (by decide +kernel) (by decide +kernel) : (plF o a p).lookup ("ahead" : Str) = none), r, _, o, a, ws, rfl, hpl, .inl ⟨zMark, rfl, (by decide +kernel), _, _, rfl, rfl, _, rfl, ite2 (fun c4 => ?_) (fun c4 => ?_)⟩⟩
        · have c4 : decide (ws.idxOf zMark < op.1) = true := by rw [← lt_dec]; exact c4
          rw [c3, c4] at q
          exact q
        · have c4 : decide (ws.idxOf zMark < op.1) = false := by rw [← lt_dec]; exact bf c4
          rw [c3, c4] at q
          refine ⟨_, rfl, _, rfl, r, dx, _, rfl, h1, (plF_no o a p (by decide +kernel) (by decide +kernel) (by decide +kernel) : (plF o a p).lookup ("behind" : Str) = none), r, _, o, a, ws, rfl, hpl, .inl ⟨zDown, rfl, (by decide +kernel), _, _, rfl, ?_⟩⟩
          rw [max_iN]
          refine ⟨_, rfl, _, rfl, _, _, rfl, ?_⟩
          rw [min_iN]
          refine ⟨_, _, rfl, rfl, ?_⟩
          show Q (.bl (decide (Int.ofNat _ ≤ Int.ofNat _))) H
          rw [le_dec]
          exact q
      · have c3 : decide (a = "ahead") = false := by rw [← eqA]; exact bf c3
        rw [c3] at q
        refine ⟨_, rfl, _, rfl, r, dx, _, rfl, h1, (plF_no o a p (by decide +kernel) (by decide +kernel) (by decide +kernel) : (plF o a p).lookup ("behind" : Str) = none), r, _, o, a, ws, rfl, hpl, .inl ⟨zDown, rfl, (by decide +kernel), _, _, rfl, ?_⟩⟩
        rw [max_iN]
        refine ⟨_, rfl, _, rfl, _, _, rfl, ?_⟩
        rw [min_iN]
        refine ⟨_, _, rfl, rfl, ?_⟩
        show Q (.bl (decide (Int.ofNat _ ≤ Int.ofNat _))) H
        rw [le_dec]
        exact q
def hide (l : Addr) (H : Hp) : Hp := fun b => if b = l then none else H b
theorem hide_ne {l b : Addr} {H : Hp} (h : b ≠ l) : hide l H b = H b := if_neg h
theorem hide_upd {l : Addr} {H : Hp} {o : HO} : hide l (upd H l o) = hide l H := by
  funext b
  unfold hide
  by_cases h : b = l
  · rw [if_pos h, if_pos h]
  · rw [if_neg h, if_neg h, upd_ne h]
theorem hide_same {l : Addr} {H H' : Hp} (s : Same H H') : Same (hide l H) (hide l H') := fun b o e => by
  unfold hide at e ⊢
  by_cases h : b = l
  · rw [if_pos h] at e
    cases e
  · rw [if_neg h] at e ⊢
    exact s b o e
theorem hide_le {l : Addr} {H : Hp} : Same (hide l H) H := fun b o e => by
  unfold hide at e
  by_cases h : b = l
  · rw [if_pos h] at e
    cases e
  · rw [if_neg h] at e
    exact e
theorem same_hide {l : Addr} {H H' : Hp} (s : Same H H') (h : H l = none) : Same H (hide l H') := fun b o e => by
  unfold hide
  rw [if_neg (fun z => by rw [z, h] at e; cases e)]
  exact s b o e
theorem sqT_hide {H : Hp} {D t : Addr} {bs xs : List V} (hD : H D = some (.lst bs)) (h : SqT K H t xs) : SqT K (hide D H) t xs := by
  rcases h with h | h
  · refine .inl ?_
    have ne : t ≠ D := fun e => by
      rw [e] at h
      rcases h with h | ⟨ob, h⟩
      · rw [hD] at h
        cases h
      · rw [hD] at h
        cases h
    rcases h with h | ⟨ob, h⟩
    · exact .inl (by rw [hide_ne ne]; exact h)
    · exact .inr ⟨ob, by rw [hide_ne ne]; exact h⟩
  · exact .inr h
theorem any_flat {α β : Type} (L : List α) (M : α → List β) (f : α → β → Bool) : (L.flatMap fun x => (M x).map (f x)).any id = L.any fun x => (M x).any (f x) := by
  induction L with
  | nil => rfl
  | cons x L ih =>
    rw [List.flatMap_cons, List.any_append, ih, List.any_cons, List.any_map]
    rfl
theorem flat_snoc {α β : Type} {L : List α} {i : Nat} {x : α} (h : L[i]? = some x) (M : α → List β) : (L.take (i + 1)).flatMap M = (L.take i).flatMap M ++ M x := by
  rw [List.take_add_one, h, List.flatMap_append]
  show _ ++ [x].flatMap M = _
  rw [List.flatMap_singleton]
theorem map_snoc {α β : Type} {L : List α} {i : Nat} {x : α} (h : L[i]? = some x) (f : α → β) : (L.take (i + 1)).map f = (L.take i).map f ++ [f x] := by
  rw [List.take_add_one, h, List.map_append]
  rfl
theorem ops_len (o : Str) (ws : List Str) : (opsOf o ws).length ≤ 2 := by
  unfold opsOf
  split
  · cases leastOf o ws
    · exact Nat.le_succ 1
    · exact Nat.le_refl 2
  · exact Nat.le_succ 1
theorem flat_le {α β : Type} (L : List α) (M : α → List β) (h : ∀ x, (M x).length ≤ 2) : (L.flatMap M).length ≤ 2 * L.length := by
  induction L with
  | nil => exact Nat.le_refl _
  | cons x L ih =>
    rw [List.flatMap_cons, List.length_append, List.length_cons]
    have := h x
    omega
def spB (K : PySem.W.Frag) (C : Addr) (g : Str → Str → List Str → Bool) : Sp := fun vs H Q _ => ∃ (r : Addr) (o a : Str) (ws : List Str), vs = [.ref r] ∧ PlainAt C H r o a ws ∧ PW ws ∧ ∀ H', Same H H' → Q (.bl (g o a ws)) H'
theorem sc_is_touched : FnScope ["plain", "opening", "gap", "span"] ["plain"] (defScope s_is_touched) := ⟨rfl, rfl, rfl, by decide +kernel, rfl, by decide +kernel, by decide +kernel⟩
theorem ok_is_touched {f : Addr} {fd : FuncData} (F : Fun K "_is_touched" "_is_touched" s_is_touched f fd) (T : Txt K w mg dO dA dS) {U : Addr} (M : PlM P w K mg base C U) {f1 : Addr} {fd1 : FuncData} (F_is_touched_locked : Fun K "_is_touched_locked" "_is_touched_locked" s_is_touched_locked f1 fd1) (b_is_touched_locked : Binds K fd1 ["plain", "opening", "gap"] []) (g_is_touched_locked : mg "_is_touched_locked" = some (.ref f1)) (G_is_touched_locked : FnOk P w K mg base CX0 6 f1 fd1 ["plain", "opening", "gap"] (spTL K C)) {f2 : Addr} {fd2 : FuncData} (F_is_touched_between : Fun K "_is_touched_between" "_is_touched_between" s_is_touched_between f2 fd2) (b_is_touched_between : Binds K fd2 ["plain", "opening", "span"] []) (g_is_touched_between : mg "_is_touched_between" = some (.ref f2)) (G_is_touched_between : FnOk P w K mg base CX0 6 f2 fd2 ["plain", "opening", "span"] (spTB K C)) {f3 : Addr} {fd3 : FuncData} (F_spans_around_wait : Fun K "_spans_around_wait" "_spans_around_wait" s_spans_around_wait f3 fd3) (b_spans_around_wait : Binds K fd3 ["plain", "opening"] []) (g_spans_around_wait : mg "_spans_around_wait" = some (.ref f3)) (G_spans_around_wait : FnOk P w K mg base CX0 6 f3 fd3 ["plain", "opening"] (spSpans K C)) : FnOk P w K mg base CX0 9 f fd ["plain"] (spB K C tch) := by
  refine F.ok sc_is_touched (fun vs H Q E h => ?_) (fun cdv A outer s H vs Q E hr h => ?_)
  · obtain ⟨r, o, a, ws, rfl, _⟩ := h
    rfl
  · obtain ⟨r, o, a, ws, rfl, hpl, hw, q⟩ := h
    obtain ⟨pp_asks, fP_asks, fdP_asks, PP_asks, bP_asks, GP_asks⟩ := M.asks
    obtain ⟨f_openings, fd_openings, M_openings, b_openings, G_openings⟩ := M.openings
    obtain ⟨f_gaps, fd_gaps, M_gaps, b_gaps, G_gaps⟩ := M.gaps
    refine ⟨_, (pss_cons (ps_if (pt_cmpR op_eq (pe_prop (pv 0) M.cl PP_asks GP_asks (hr.mono (by decide)) bP_asks .nil pass0 (by rfl)) pe_str (nomark _)) 
          (pss_one (ps_ret (pe_callB (cr_any rfl) (by rfl) T.m_any (by decide +kernel) (pa_cons (pe_lc2 (wi1 := iList K (tMeth C "gaps" (spPs K C fun _ ws => gapsOf ws) [] E0 (tVar 0) tNil)) (own := [("opening", 1), ("gap", 2)]) (vs1 := [2]) (g := gName 1) (g1 := gName 2) rfl sc_is_touched.nd (pi_list (pe_meth0 (E := E0) (pv 0) M.cl M_openings G_openings (hr.mono (by decide)) b_openings .nil pass0)) (blkOk_by (N := ["plain", "opening", "gap", "span"]) (sc := defScope s_is_touched) (by decide +kernel)) (by decide) (fun _ _ _ _ _ => pg_name (i := 1) sc_is_touched.nd rfl (.inl rfl)) (fun _ _ _ _ _ => pts_nil) (fun _ _ _ _ _ => (pi_list (pe_meth0 (E := E0) (pv 0) M.cl M_gaps G_gaps (hr.mono (by decide)) b_gaps .nil pass0))) (fun _ _ _ _ _ => pg_name (i := 2) sc_is_touched.nd rfl (.inl rfl)) (fun _ _ _ _ _ => pts_nil) (fun _ _ _ _ _ => (pe_call G_is_touched_locked (hr.mono (by decide)) (by rfl) g_is_touched_locked F_is_touched_locked.kp b_is_touched_locked .nil pass0 (pa_cons (pv 0) (pa_cons (pv 1) (pa_cons (pv 2) pa_nil)))))) pa_nil)))) pss_nil) 
        (pss_one (ps_ret (pe_callB (cr_any rfl) (by rfl) T.m_any (by decide +kernel) (pa_cons (pe_lc2 (wi1 := iList K (tCall (spSpans K C) [] E0 (tCons (tVar 0) (tCons (tVar 1) tNil)))) (own := [("opening", 1), ("span", 3)]) (vs1 := [3]) (g := gName 1) (g1 := gName 3) rfl sc_is_touched.nd (pi_list (pe_meth0 (E := E0) (pv 0) M.cl M_openings G_openings (hr.mono (by decide)) b_openings .nil pass0)) (blkOk_by (N := ["plain", "opening", "gap", "span"]) (sc := defScope s_is_touched) (by decide +kernel)) (by decide) (fun _ _ _ _ _ => pg_name (i := 1) sc_is_touched.nd rfl (.inl rfl)) (fun _ _ _ _ _ => pts_nil) (fun _ _ _ _ _ => (pi_list (pe_call G_spans_around_wait (hr.mono (by decide)) (by rfl) g_spans_around_wait F_spans_around_wait.kp b_spans_around_wait .nil pass0 (pa_cons (pv 0) (pa_cons (pv 1) pa_nil))))) (fun _ _ _ _ _ => pg_name (i := 3) sc_is_touched.nd rfl (.inl rfl)) (fun _ _ _ _ _ => pts_nil) (fun _ _ _ _ _ => (pe_call G_is_touched_between (hr.mono (by decide)) (by rfl) g_is_touched_between F_is_touched_between.kp b_is_touched_between .nil pass0 (pa_cons (pv 0) (pa_cons (pv 1) (pa_cons (pv 3) pa_nil)))))) pa_nil))))), ?_⟩
    obtain ⟨dx, p, ob, h1, h2, h3⟩ := id hpl
    refine ⟨_, rfl, r, dx, _, rfl, h1, r, dx, _, _, rfl, h1, plF_a o a p, rfl, _, rfl, ite2 (fun c1 => ?_) (fun c1 => ?_)⟩
    · have c1 : a = "locked" := by
        have c1 : decide (V.str a = V.str "locked") = true := c1
        rw [eqA] at c1
        exact of_decide_eq_true c1
      refine ⟨_, rfl, r, dx, _, rfl, h1, (plF_no o a p (by decide +kernel) (by decide +kernel) (by decide +kernel) : (plF o a p).lookup ("openings" : Str) = none), r, o, a, ws, rfl, hpl, hw, fun H1 l1 s1 hl1 ⟨vs, e1, hd1⟩ => ⟨l1, rfl, ⟨_, .inl (.inl e1)⟩, fun D hD => it_gen (walk_list (xs := vs)) (fun i H' => Same H1 (hide D H') ∧ H' D = some (.lst ((((opsOf o ws).take i).flatMap fun op => (gapsOf ws).map (tchL ws op)).map V.bl))) ⟨same_hide (same_upd hD) hD, upd_same⟩ (fun i H' _ h => .inl (.inl ((h.1.trans hide_le) _ _ e1))) ?_ ?_⟩⟩
      · rintro i xv _ H2 hi ⟨s2, eD⟩ ⟨rfl, hv⟩
        obtain ⟨op, t, hop, rfl, ht⟩ := pr_at hd1 hv
        have hop : (opsOf o ws)[i]? = some op := hop
        have s12 := s2.trans hide_le
        have hbl : (((opsOf o ws).take i).flatMap fun op => (gapsOf ws).map (tchL ws op)).length ≤ 4 := by
          have h1 := flat_le ((opsOf o ws).take i) (fun op => (gapsOf ws).map (tchL ws op)) (fun op => by rw [List.length_map]; exact gaps_len ws)
          have h2 := ops_len o ws
          rw [List.length_take] at h1
          omega
        refine ⟨rfl, yes_then ⟨_, rfl, r, dx, _, rfl, s12 _ _ (s1 _ _ h1), (plF_no o a p (by decide +kernel) (by decide +kernel) (by decide +kernel) : (plF o a p).lookup ("gaps" : Str) = none), r, o, a, ws, rfl, (hpl.same s1).same s12, hw, fun H3 l2 s3 hl2 ⟨us, e3, hd3⟩ => ⟨l2, rfl, ⟨_, .inl (.inl e3)⟩, it_gen (walk_list (xs := us)) (fun j H' => Same (hide D H3) (hide D H') ∧ H' D = some (.lst (((((opsOf o ws).take i).flatMap fun op => (gapsOf ws).map (tchL ws op)) ++ ((gapsOf ws).take j).map (tchL ws op)).map V.bl))) ⟨Same.refl _, by rw [List.take_zero, List.map_nil, List.append_nil]; exact s3 _ _ eD⟩ (fun j H' _ h => ?_) ?_ ?_⟩⟩⟩
        · have n2 : l2 ≠ D := (ne_of_none eD hl2).symm
          have e3h : hide D H3 l2 = some (.lst us) := by rw [hide_ne n2]; exact e3
          exact .inl (.inl (hide_le _ _ (h.1 _ _ e3h)))
        · rintro j yv _ H4 hj ⟨s4, eD4⟩ ⟨rfl, hv2⟩
          obtain ⟨g, t2, hg, rfl, ht2⟩ := pr_at hd3 hv2
          have hg : (gapsOf ws)[j]? = some g := hg
          have sA : Same H1 (hide D H4) := s2.trans ((hide_same s3).trans s4)
          have sB := sA.trans hide_le
          have ht4 : SqT K H4 t [iN op.1, iN op.2] := Same.seqT sB ht
          have ht24 : SqT K H4 t2 [iN g.1, iN g.2] := Same.seqT hide_le (Same.seqT s4 (sqT_hide (s3 _ _ eD) ht2))
          refine ⟨rfl, yes_then ⟨_, rfl, _, rfl, _, rfl, r, t, t2, o, a, ws, op, g, rfl, (hpl.same s1).same sB, ht4, ht24, _, eD4, ?_, ?_, ?_⟩⟩
          · have h3 : ((gapsOf ws).take j).length ≤ 2 := by
              rw [List.length_take]
              have : (gapsOf ws).length ≤ 2 := by exact gaps_len ws
              omega
            rw [List.length_map, List.length_append, List.length_map]
            exact Nat.lt_of_le_of_lt (by omega : _ ≤ 6) (small1000 (by decide))
          · rw [hide_upd]
            exact s4
          · rw [map_snoc hg, ← List.append_assoc, List.map_append (l₂ := [tchL ws op g])]
            exact upd_same
        · rintro H4 ⟨s4, eD4⟩
          have hl3 : us.length = (gapsOf ws).length := by
            have := dpAll_len hd3
            rw [List.length_map] at this
            exact this
          rw [hl3, List.take_length] at eD4
          refine ⟨s2.trans ((hide_same s3).trans s4), ?_⟩
          rw [flat_snoc hop]
          exact eD4
      · rintro H2 ⟨s2, eD⟩
        have hl3 : vs.length = (opsOf o ws).length := by
          have := dpAll_len hd1
          rw [List.length_map] at this
          exact this
        rw [hl3, List.take_length] at eD
        have := q H2 (s1.trans (s2.trans hide_le))
        unfold tch at this
        rw [if_pos c1] at this
        refine ⟨D, _, rfl, .inl (.inl eD), ?_⟩
        rw [any_flat]
        exact this
    · have c1 : ¬ a = "locked" := fun z => by
        have c1 : ¬ decide (V.str a = V.str "locked") = true := c1
        rw [eqA] at c1
        exact c1 (decide_eq_true z)
      refine ⟨_, rfl, r, dx, _, rfl, h1, (plF_no o a p (by decide +kernel) (by decide +kernel) (by decide +kernel) : (plF o a p).lookup ("openings" : Str) = none), r, o, a, ws, rfl, hpl, hw, fun H1 l1 s1 hl1 ⟨vs, e1, hd1⟩ => ⟨l1, rfl, ⟨_, .inl (.inl e1)⟩, fun D hD => it_gen (walk_list (xs := vs)) (fun i H' => Same H1 (hide D H') ∧ H' D = some (.lst ((((opsOf o ws).take i).flatMap fun op => (spans ws op).map (tchB a ws op)).map V.bl))) ⟨same_hide (same_upd hD) hD, upd_same⟩ (fun i H' _ h => .inl (.inl ((h.1.trans hide_le) _ _ e1))) ?_ ?_⟩⟩
      · rintro i xv _ H2 hi ⟨s2, eD⟩ ⟨rfl, hv⟩
        obtain ⟨op, t, hop, rfl, ht⟩ := pr_at hd1 hv
        have hop : (opsOf o ws)[i]? = some op := hop
        have s12 := s2.trans hide_le
        have hbl : (((opsOf o ws).take i).flatMap fun op => (spans ws op).map (tchB a ws op)).length ≤ 4 := by
          have h1 := flat_le ((opsOf o ws).take i) (fun op => (spans ws op).map (tchB a ws op)) (fun op => by rw [List.length_map]; exact Nat.le_refl 2)
          have h2 := ops_len o ws
          rw [List.length_take] at h1
          omega
        refine ⟨rfl, yes_then ⟨_, rfl, _, rfl, r, t, o, a, ws, op, rfl, (hpl.same s1).same s12, hw, Same.seqT s12 ht, fun H3 l2 s3 hl2 ⟨us, e3, hd3⟩ => ⟨l2, rfl, ⟨_, .inl (.inl e3)⟩, it_gen (walk_list (xs := us)) (fun j H' => Same (hide D H3) (hide D H') ∧ H' D = some (.lst (((((opsOf o ws).take i).flatMap fun op => (spans ws op).map (tchB a ws op)) ++ ((spans ws op).take j).map (tchB a ws op)).map V.bl))) ⟨Same.refl _, by rw [List.take_zero, List.map_nil, List.append_nil]; exact s3 _ _ eD⟩ (fun j H' _ h => ?_) ?_ ?_⟩⟩⟩
        · have n2 : l2 ≠ D := (ne_of_none eD hl2).symm
          have e3h : hide D H3 l2 = some (.lst us) := by rw [hide_ne n2]; exact e3
          exact .inl (.inl (hide_le _ _ (h.1 _ _ e3h)))
        · rintro j yv _ H4 hj ⟨s4, eD4⟩ ⟨rfl, hv2⟩
          obtain ⟨g, t2, hg, rfl, ht2⟩ := pr_at hd3 hv2
          have hg : (spans ws op)[j]? = some g := hg
          have sA : Same H1 (hide D H4) := s2.trans ((hide_same s3).trans s4)
          have sB := sA.trans hide_le
          have ht4 : SqT K H4 t [iN op.1, iN op.2] := Same.seqT sB ht
          have ht24 : SqT K H4 t2 [iN g.1, iN g.2] := Same.seqT hide_le (Same.seqT s4 (sqT_hide (s3 _ _ eD) ht2))
          refine ⟨rfl, yes_then ⟨_, rfl, _, rfl, _, rfl, r, t, t2, o, a, ws, op, g, rfl, (hpl.same s1).same sB, ht4, ht24, _, eD4, ?_, ?_, ?_⟩⟩
          · have h3 : ((spans ws op).take j).length ≤ 2 := by
              rw [List.length_take]
              have : (spans ws op).length ≤ 2 := by exact Nat.le_refl 2
              omega
            rw [List.length_map, List.length_append, List.length_map]
            exact Nat.lt_of_le_of_lt (by omega : _ ≤ 6) (small1000 (by decide))
          · rw [hide_upd]
            exact s4
          · rw [map_snoc hg, ← List.append_assoc, List.map_append (l₂ := [tchB a ws op g])]
            exact upd_same
        · rintro H4 ⟨s4, eD4⟩
          have hl3 : us.length = (spans ws op).length := by
            have := dpAll_len hd3
            rw [List.length_map] at this
            exact this
          rw [hl3, List.take_length] at eD4
          refine ⟨s2.trans ((hide_same s3).trans s4), ?_⟩
          rw [flat_snoc hop]
          exact eD4
      · rintro H2 ⟨s2, eD⟩
        have hl3 : vs.length = (opsOf o ws).length := by
          have := dpAll_len hd1
          rw [List.length_map] at this
          exact this
        rw [hl3, List.take_length] at eD
        have := q H2 (s1.trans (s2.trans hide_le))
        unfold tch at this
        rw [if_neg c1] at this
        refine ⟨D, _, rfl, .inl (.inl eD), ?_⟩
        rw [any_flat]
        exact this
end
end K57

namespace K57
open PySem PySem.Spec PyProof.Rows StX L2 TL GG OO PB
structure Txt7 (K : PySem.W.Frag) (mg : Str → Option Value) (tU : Addr) : Prop where
  c_USES : mg "_USES" = some (.ref tU)
  w : ∀ H, SqT K H tU (wUses.map V.str)
section
variable {P : Program} {w : World} {K : PySem.W.Frag} {mg : Str → Option Value} {base : Heap} {dO dA dS : Addr} {C : Addr}
theorem uses_pull {z : Str} (h : z ∈ wUses) : z ∈ wPulls := by
  simp only [List.mem_cons, List.not_mem_nil, or_false] at h
  rcases h with rfl | rfl | rfl <;> decide +kernel
def spBL (K : PySem.W.Frag) (C : Addr) : Sp := fun vs H Q _ => ∃ (r t : Addr) (o a : Str) (ws : List Str), vs = [.ref r, .ref t] ∧ PlainAt C H r o a ws ∧ SqT K H t (wUses.map V.str) ∧ ∀ H', Same H H' → Q (.bl (behindLet ws wUses)) H'
def spB0 (C : Addr) (g : Str → Str → List Str → Bool) : Sp := fun vs H Q _ => ∃ (r : Addr) (o a : Str) (ws : List Str), vs = [.ref r] ∧ PlainAt C H r o a ws ∧ Q (.bl (g o a ws)) H
theorem sc_is_pulled_behind_let : FnScope ["plain", "words", "word"] ["plain", "words"] (defScope s_is_pulled_behind_let) := ⟨rfl, rfl, rfl, by decide +kernel, rfl, by decide +kernel, by decide +kernel⟩
theorem ok_is_pulled_behind_let {f : Addr} {fd : FuncData} (F : Fun K "_is_pulled_behind_let" "_is_pulled_behind_let" s_is_pulled_behind_let f fd) (T : Txt K w mg dO dA dS) {U : Addr} (M : PlM P w K mg base C U) : FnOk P w K mg base CX0 6 f fd ["plain", "words"] (spBL K C) := by
  refine F.ok sc_is_pulled_behind_let (fun vs H Q E h => ?_) (fun cdv A outer s H vs Q E hr h => ?_)
  · obtain ⟨r, t, o, a, ws, rfl, _⟩ := h
    rfl
  · obtain ⟨r, t, o, a, ws, rfl, hpl, ht, q⟩ := h
    obtain ⟨g_cont, i_cont, j_cont, R_cont⟩ := M.cont
    obtain ⟨f_ahead, fd_ahead, M_ahead, b_ahead, G_ahead⟩ := M.ahead
    refine ⟨_, (pss_one (ps_ret (pe_and (pe_cmpR (op_inO R_cont (hr.mono (by decide)) i_cont j_cont) pe_str (pv 0) (by rfl)) (pe_one (pe_callB (cr_any rfl) (by rfl) T.m_any (by decide +kernel) (pa_cons (pe_lc (own := [("word", 2)]) (g := gName 2) rfl sc_is_pulled_behind_let.nd (pi_tup (pv 1)) (blkOk_by (N := ["plain", "words", "word"]) (sc := defScope s_is_pulled_behind_let) (by decide +kernel)) (fun _ _ _ _ _ => pg_name (i := 2) sc_is_pulled_behind_let.nd rfl (.inl rfl)) (fun _ _ _ _ _ => pts_nil) (fun _ _ _ _ _ => (pe_and (pe_cmpR (op_inO R_cont (hr.mono (by decide)) i_cont j_cont) (pv 2) (pv 0) (by rfl)) (pe_one (pe_cmpR op_gt (pe_meth (E := E0) (pv 0) M.cl M_ahead G_ahead (hr.mono (by decide)) b_ahead .nil passL (pa_cons (pv 2) pa_nil)) (pe_meth (E := E0) (pv 0) M.cl M_ahead G_ahead (hr.mono (by decide)) b_ahead .nil passL (pa_cons pe_str pa_nil)) (nomark _)))))) pa_nil)))))), ?_⟩
    obtain ⟨dx, p, ob, h1, h2, h3⟩ := id hpl
    refine ⟨_, rfl, r, dx, _, rfl, h1, r, _, .str zLet, o, a, ws, rfl, hpl, dp_pull (by decide +kernel), _, rfl, _, rfl, ite2 (fun c1 => ?_) (fun c1 => ?_)⟩
    · have c1 : contB ws (.str zLet) = true := c1
      rw [contB_str (show zLet ∈ wPulls by decide +kernel)] at c1
      refine ⟨_, rfl, t, rfl, ⟨_, ht⟩, fun D hD => lc_it (walk_tup (xs := wUses.map V.str)) (fun j H' => Same H H' ∧ H' D = some (.lst (((wUses.take j).map fun z => decide (z ∈ ws) && decide (ws.idxOf zLet < ws.idxOf z)).map V.bl))) ⟨same_upd hD, upd_same⟩ (fun j H' _ h => Same.seqT h.1 ht) ?_ ?_⟩
      · rintro j xv _ H2 hj ⟨s2, eD⟩ ⟨rfl, hv⟩
        have hv : (wUses.map V.str)[j]? = some xv := hv
        rw [List.getElem?_map] at hv
        obtain ⟨z, hz, rfl⟩ := Option.map_eq_some_iff.mp hv
        have hzp := uses_pull (List.mem_of_getElem? hz)
        have hj3 : j < 3 := hj
        have fin : ∀ b : Bool, b = (decide (z ∈ ws) && decide (ws.idxOf zLet < ws.idxOf z)) → ∃ acc, H2 D = some (.lst acc) ∧ acc.length < sizeLine ∧ Same H (upd H2 D (.lst (acc ++ [V.bl b]))) ∧ upd H2 D (.lst (acc ++ [V.bl b])) D = some (.lst (((wUses.take (j + 1)).map fun z => decide (z ∈ ws) && decide (ws.idxOf zLet < ws.idxOf z)).map V.bl)) := fun b hb => by
          refine ⟨_, eD, ?_, same_st s2 hD, ?_⟩
          · rw [List.length_map, List.length_map, List.length_take]
            exact Nat.lt_of_le_of_lt (Nat.min_le_left _ _) (small1000 (by omega))
          · rw [map_snoc hz, List.map_append, hb]
            exact upd_same
        refine ⟨rfl, yes_then ⟨_, rfl, _, rfl, r, dx, _, rfl, (s2 _ _ h1), r, _, .str z, o, a, ws, rfl, (hpl.same s2), dp_pull hzp, _, rfl, _, rfl, ite2 (fun c2 => ?_) (fun c2 => ?_)⟩⟩
        · have c2 : contB ws (.str z) = true := c2
          rw [contB_str hzp] at c2
          refine ⟨_, rfl, r, dx, _, rfl, (s2 _ _ h1), (plF_no o a p (by decide +kernel) (by decide +kernel) (by decide +kernel) : (plF o a p).lookup ("ahead" : Str) = none), _, rfl, r, _, o, a, ws, rfl, (hpl.same s2), .inl ⟨z, rfl, hzp, _, rfl, r, dx, _, rfl, (s2 _ _ h1), (plF_no o a p (by decide +kernel) (by decide +kernel) (by decide +kernel) : (plF o a p).lookup ("ahead" : Str) = none), r, _, o, a, ws, rfl, (hpl.same s2), .inl ⟨zLet, rfl, (by decide +kernel), _, _, rfl, rfl, ?_⟩⟩⟩
          exact fin _ (by rw [c2, Bool.true_and]; exact lt_dec)
        · have c2 : contB ws (.str z) = false := bf c2
          rw [contB_str hzp] at c2
          exact fin _ (by rw [c2, Bool.false_and])
      · rintro H2 ⟨s2, eD⟩
        refine ⟨D, _, rfl, .inl (.inl eD), ?_⟩
        have := q H2 s2
        unfold behindLet at this
        rw [c1, Bool.true_and] at this
        have e : ((wUses.take (wUses.map V.str).length).map fun z => decide (z ∈ ws) && decide (ws.idxOf zLet < ws.idxOf z)).any id = wUses.any fun z => decide (z ∈ ws) && decide (ws.idxOf zLet < ws.idxOf z) := by
          rw [List.any_map]
          rfl
        rw [e]
        exact this
    · have c1 : contB ws (.str zLet) = false := bf c1
      rw [contB_str (show zLet ∈ wPulls by decide +kernel)] at c1
      have := q H (Same.refl H)
      unfold behindLet at this
      rw [c1, Bool.false_and] at this
      exact this
theorem sc_is_empty_locked : FnScope ["plain"] ["plain"] (defScope s_is_empty_locked) := ⟨rfl, rfl, rfl, by decide +kernel, rfl, by decide +kernel, by decide +kernel⟩
theorem ok_is_empty_locked {f : Addr} {fd : FuncData} (F : Fun K "_is_empty_locked" "_is_empty_locked" s_is_empty_locked f fd) (T : Txt K w mg dO dA dS) {U : Addr} (M : PlM P w K mg base C U) : FnOk P w K mg base CX0 6 f fd ["plain"] (spB0 C fun _ _ ws => emptyL ws) := by
  refine F.ok sc_is_empty_locked (fun vs H Q E h => ?_) (fun cdv A outer s H vs Q E hr h => ?_)
  · obtain ⟨r, o, a, ws, rfl, _⟩ := h
    rfl
  · obtain ⟨r, o, a, ws, rfl, hpl, q⟩ := h
    obtain ⟨g_cont, i_cont, j_cont, R_cont⟩ := M.cont
    obtain ⟨f_ahead, fd_ahead, M_ahead, b_ahead, G_ahead⟩ := M.ahead
    refine ⟨_, (pss_cons (ps_if (PW.pt (pw_or (pt_cmpR (op_notInO R_cont (hr.mono (by decide)) i_cont j_cont) pe_str (pv 0) (by rfl)) (pw_or1 (pt_cmpR op_lt (pe_meth (E := E0) (pv 0) M.cl M_ahead G_ahead (hr.mono (by decide)) b_ahead .nil passL (pa_cons pe_str pa_nil)) (pe_meth (E := E0) (pv 0) M.cl M_ahead G_ahead (hr.mono (by decide)) b_ahead .nil passL (pa_cons pe_str pa_nil)) (nomark _))))) (pss_one (ps_ret pe_bl)) pss_nil) (pss_one (ps_ret (pe_or (pe_cmpR (op_notInO R_cont (hr.mono (by decide)) i_cont j_cont) pe_str (pv 0) (by rfl)) (pe_one (pe_cmpR op_lt (pe_meth (E := E0) (pv 0) M.cl M_ahead G_ahead (hr.mono (by decide)) b_ahead .nil passL (pa_cons pe_str pa_nil)) (pe_meth (E := E0) (pv 0) M.cl M_ahead G_ahead (hr.mono (by decide)) b_ahead .nil passL (pa_cons pe_str pa_nil)) (nomark _))))))), ?_⟩
    obtain ⟨dx, p, ob, h1, h2, h3⟩ := id hpl
    have q : Q (.bl (emptyL ws)) H := q
    unfold emptyL at q
    refine ⟨_, rfl, r, dx, _, rfl, h1, r, _, .str zEmp, o, a, ws, rfl, hpl, dp_pull (by decide +kernel), _, rfl, _, rfl, ite2 (fun c1 => ?_) (fun c1 => ?_)⟩
    · have c1 : (!contB ws (.str zEmp)) = true := c1
      rw [contB_str (show zEmp ∈ wPulls by decide +kernel)] at c1
      rw [show decide (zEmp ∈ ws) = false by rw [Bool.not_eq_true'] at c1; exact c1] at q
      exact iteT q
    · have c1 : (!contB ws (.str zEmp)) = false := bf c1
      rw [contB_str (show zEmp ∈ wPulls by decide +kernel)] at c1
      rw [show decide (zEmp ∈ ws) = true by rw [Bool.not_eq_false'] at c1; exact c1, Bool.true_and] at q
      refine ⟨_, rfl, r, dx, _, rfl, h1, (plF_no o a p (by decide +kernel) (by decide +kernel) (by decide +kernel) : (plF o a p).lookup ("ahead" : Str) = none), r, _, o, a, ws, rfl, hpl, .inl ⟨zEmp, rfl, (by decide +kernel), _, rfl, r, dx, _, rfl, h1, (plF_no o a p (by decide +kernel) (by decide +kernel) (by decide +kernel) : (plF o a p).lookup ("ahead" : Str) = none), r, _, o, a, ws, rfl, hpl, .inl ⟨zLock, rfl, (by decide +kernel), _, _, rfl, rfl, _, rfl, ite2 (fun c2 => ?_) (fun c2 => ?_)⟩⟩⟩
      · have c2 : decide (ws.idxOf zEmp < ws.idxOf zLock) = true := by rw [← lt_dec]; exact c2
        rw [c2] at q
        exact q
      · have c2 : decide (ws.idxOf zEmp < ws.idxOf zLock) = false := by rw [← lt_dec]; exact bf c2
        rw [c2] at q
        refine ⟨_, rfl, r, dx, _, rfl, h1, r, _, .str zUnl, o, a, ws, rfl, hpl, dp_pull (by decide +kernel), _, rfl, _, rfl, ite2 (fun c3 => ?_) (fun c3 => ?_)⟩
        · have c3 : (!contB ws (.str zUnl)) = true := c3
          rw [contB_str (show zUnl ∈ wPulls by decide +kernel)] at c3
          rw [c3] at q
          exact q
        · have c3 : (!contB ws (.str zUnl)) = false := bf c3
          rw [contB_str (show zUnl ∈ wPulls by decide +kernel)] at c3
          rw [c3] at q
          refine ⟨_, rfl, r, dx, _, rfl, h1, (plF_no o a p (by decide +kernel) (by decide +kernel) (by decide +kernel) : (plF o a p).lookup ("ahead" : Str) = none), r, _, o, a, ws, rfl, hpl, .inl ⟨zEmp, rfl, (by decide +kernel), _, rfl, r, dx, _, rfl, h1, (plF_no o a p (by decide +kernel) (by decide +kernel) (by decide +kernel) : (plF o a p).lookup ("ahead" : Str) = none), r, _, o, a, ws, rfl, hpl, .inl ⟨zUnl, rfl, (by decide +kernel), _, _, rfl, rfl, ?_⟩⟩⟩
          show Q (.bl (decide (Int.ofNat _ < Int.ofNat _))) H
          rw [lt_dec]
          exact q
end
end K57

namespace K57
open PySem PySem.Spec PyProof.Rows StX L2 TL GG OO PB
theorem inV2 {z o a : Str} : inV (.str z) ([o, a].map V.str) = (decide (o = z) || decide (a = z)) := by
  rw [inV_strs, Bool.eq_iff_iff, decide_eq_true_iff, Bool.or_eq_true, decide_eq_true_iff, decide_eq_true_iff, List.mem_cons, List.mem_singleton]
  exact ⟨fun h => h.elim (fun e => .inl e.symm) (fun e => .inr e.symm), fun h => h.elim (fun e => .inl e.symm) (fun e => .inr e.symm)⟩
section
variable {P : Program} {w : World} {K : PySem.W.Frag} {mg : Str → Option Value} {base : Heap} {dO dA dS : Addr} {C tU : Addr}
theorem sc_is_used : FnScope ["plain", "first", "last"] ["plain"] (defScope s_is_used) := ⟨rfl, rfl, rfl, by decide +kernel, rfl, by decide +kernel, by decide +kernel⟩
theorem ok_is_used {f : Addr} {fd : FuncData} (F : Fun K "_is_used" "_is_used" s_is_used f fd) (T : Txt K w mg dO dA dS) {U : Addr} (M : PlM P w K mg base C U) (U7 : Txt7 K mg tU) {f1 : Addr} {fd1 : FuncData} (F_is_pulled_behind_let : Fun K "_is_pulled_behind_let" "_is_pulled_behind_let" s_is_pulled_behind_let f1 fd1) (b_is_pulled_behind_let : Binds K fd1 ["plain", "words"] []) (g_is_pulled_behind_let : mg "_is_pulled_behind_let" = some (.ref f1)) (G_is_pulled_behind_let : FnOk P w K mg base CX0 6 f1 fd1 ["plain", "words"] (spBL K C)) : FnOk P w K mg base CX0 7 f fd ["plain"] (spB K C fun o _ ws => usedB o ws) := by
  refine F.ok sc_is_used (fun vs H Q E h => ?_) (fun cdv A outer s H vs Q E hr h => ?_)
  · obtain ⟨r, o, a, ws, rfl, _⟩ := h
    rfl
  · obtain ⟨r, o, a, ws, rfl, hpl, hw, q⟩ := h
    obtain ⟨g_cont, i_cont, j_cont, R_cont⟩ := M.cont
    obtain ⟨pp_opens, fP_opens, fdP_opens, PP_opens, bP_opens, GP_opens⟩ := M.opens
    obtain ⟨f_gaps, fd_gaps, M_gaps, b_gaps, G_gaps⟩ := M.gaps
    obtain ⟨f_ahead, fd_ahead, M_ahead, b_ahead, G_ahead⟩ := M.ahead
    obtain ⟨f_behind, fd_behind, M_behind, b_behind, G_behind⟩ := M.behind
    refine ⟨_, (pss_cons (ps_if (pt_cmpR (op_notInO R_cont (hr.mono (by decide)) i_cont j_cont) pe_str (pv 0) (by rfl)) (pss_one (ps_ret pe_bl)) pss_nil) (pss_cons (ps_if (PW.pt (pw_or (pt_cmpR op_eq (pe_prop (pv 0) M.cl PP_opens GP_opens (hr.mono (by decide)) bP_opens .nil pass0 (by rfl)) pe_str (nomark _)) (pw_or1 (pt_val (pe_call G_is_pulled_behind_let (hr.mono (by decide)) (by rfl) g_is_pulled_behind_let F_is_pulled_behind_let.kp b_is_pulled_behind_let .nil pass0 (pa_cons (pv 0) (pa_cons (pe_glob (v := .ref tU) rfl U7.c_USES rfl) pa_nil))))))) (pss_one (ps_ret pe_bl)) pss_nil) (pss_one (ps_ret (pe_and (pe_cmpR op_eq (pe_prop (pv 0) M.cl PP_opens GP_opens (hr.mono (by decide)) bP_opens .nil pass0 (by rfl)) pe_str (nomark _)) (pe_one (pe_callB (cr_any rfl) (by rfl) T.m_any (by decide +kernel) (pa_cons (pe_lc (own := [("first", 1), ("last", 2)]) (g := gTup K 2 (gCons (gName 1) (gCons (gName 2) gNil))) rfl sc_is_used.nd (pi_list (pe_meth0 (E := E0) (pv 0) M.cl M_gaps G_gaps (hr.mono (by decide)) b_gaps .nil pass0)) (blkOk_by (N := ["plain", "first", "last"]) (sc := defScope s_is_used) (by decide +kernel)) (fun _ _ _ _ _ => pg_tup rfl (pgs_cons (pg_name (i := 1) sc_is_used.nd rfl (.inl rfl)) (pgs_cons (pg_name (i := 2) sc_is_used.nd rfl (.inl rfl)) pgs_nil))) (fun _ _ _ _ _ => pts_nil) (fun _ _ _ _ _ => (pe_and (pe_cmpR op_le (pv 1) (pe_meth (E := E0) (pv 0) M.cl M_ahead G_ahead (hr.mono (by decide)) b_ahead .nil passL (pa_cons pe_str pa_nil)) (nomark _)) (pe_one (pe_cmpR op_ge (pv 2) (pe_meth (E := E0) (pv 0) M.cl M_behind G_behind (hr.mono (by decide)) b_behind .nil passL (pa_cons pe_str pa_nil)) (nomark _)))))) pa_nil)))))))), ?_⟩
    obtain ⟨dx, p, ob, h1, h2, h3⟩ := id hpl
    have q : ∀ H', Same H H' → Q (.bl (usedB o ws)) H' := q
    unfold usedB at q
    refine ⟨_, rfl, r, dx, _, rfl, h1, r, _, .str zLet, o, a, ws, rfl, hpl, dp_pull (by decide +kernel), _, rfl, _, rfl, ite2 (fun c1 => ?_) (fun c1 => ?_)⟩
    · have c1 : (!contB ws (.str zLet)) = true := c1
      rw [contB_str (show zLet ∈ wPulls by decide +kernel)] at c1
      rw [show decide (zLet ∈ ws) = false by rw [Bool.not_eq_true'] at c1; exact c1] at q
      exact q H (Same.refl H)
    · have c1 : (!contB ws (.str zLet)) = false := bf c1
      rw [contB_str (show zLet ∈ wPulls by decide +kernel)] at c1
      rw [show decide (zLet ∈ ws) = true by rw [Bool.not_eq_false'] at c1; exact c1, Bool.true_and] at q
      refine ⟨_, rfl, r, dx, _, rfl, h1, r, dx, _, _, rfl, h1, plF_o o a p, rfl, _, rfl, ite2 (fun c2 => ?_) (fun c2 => ?_)⟩
      · have c2 : decide (o = "bare") = true := by rw [← eqA]; exact c2
        rw [c2] at q
        exact iteT (q H (Same.refl H))
      · have c2 : decide (o = "bare") = false := by rw [← eqA]; exact bf c2
        rw [c2, Bool.false_or] at q
        refine ⟨_, rfl, r, tU, o, a, ws, rfl, hpl, U7.w H, fun H1 s1 => ⟨_, rfl, ite2 (fun c3 => ?_) (fun c3 => ?_)⟩⟩
        · rw [show behindLet ws wUses = true from c3] at q
          exact q H1 s1
        · rw [show behindLet ws wUses = false from bf c3, Bool.false_or] at q
          refine ⟨_, rfl, r, dx, _, rfl, (s1 _ _ h1), r, dx, _, _, rfl, (s1 _ _ h1), plF_o o a p, rfl, _, rfl, ite2 (fun c4 => ?_) (fun c4 => ?_)⟩
          · have c4 : decide (o = "locked") = true := by rw [← eqA]; exact c4
            rw [c4, Bool.true_and] at q
            refine ⟨_, rfl, r, dx, _, rfl, s1 _ _ h1, (plF_no o a p (by decide +kernel) (by decide +kernel) (by decide +kernel) : (plF o a p).lookup ("gaps" : Str) = none), r, o, a, ws, rfl, hpl.same s1, hw, fun H2 l1 s2 hl1 ⟨vs, e2, hd2⟩ => ⟨l1, rfl, ⟨_, .inl (.inl e2)⟩, fun D hD => lc_it (walk_list (xs := vs)) (fun j H' => Same H2 H' ∧ H' D = some (.lst ((((gapsOf ws).take j).map fun g => decide (g.1 ≤ ws.idxOf zOut) && decide (ws.idxOf zLet + 1 ≤ g.2)).map V.bl))) ⟨same_upd hD, upd_same⟩ (fun j H' _ h => .inl (.inl (h.1 _ _ e2))) ?_ ?_⟩⟩
            · rintro j xv _ H3 hj ⟨s3, eD⟩ ⟨rfl, hv⟩
              obtain ⟨g, t, hg, rfl, ht⟩ := pr_at hd2 hv
              have hg : (gapsOf ws)[j]? = some g := hg
              have s13 := s1.trans (s2.trans s3)
              have fin : ∀ b : Bool, b = (decide (g.1 ≤ ws.idxOf zOut) && decide (ws.idxOf zLet + 1 ≤ g.2)) → ∃ acc, H3 D = some (.lst acc) ∧ acc.length < sizeLine ∧ Same H2 (upd H3 D (.lst (acc ++ [V.bl b]))) ∧ upd H3 D (.lst (acc ++ [V.bl b])) D = some (.lst ((((gapsOf ws).take (j + 1)).map fun g => decide (g.1 ≤ ws.idxOf zOut) && decide (ws.idxOf zLet + 1 ≤ g.2)).map V.bl)) := fun b hb => by
                refine ⟨_, eD, ?_, same_st s3 hD, ?_⟩
                · rw [List.length_map, List.length_map, List.length_take]
                  have := gaps_len ws
                  exact Nat.lt_of_le_of_lt (Nat.min_le_right _ _) (small1000 (by omega))
                · rw [map_snoc hg, List.map_append, hb]
                  exact upd_same
              refine ⟨t, _, rfl, Same.seqT s3 ht, rfl, _, _, rfl, _, _, rfl, rfl, rfl, yes_then ?_⟩
              refine ⟨_, rfl, _, rfl, r, dx, _, rfl, (s13 _ _ h1), (plF_no o a p (by decide +kernel) (by decide +kernel) (by decide +kernel) : (plF o a p).lookup ("ahead" : Str) = none), r, _, o, a, ws, rfl, (hpl.same s13), .inl ⟨zOut, rfl, (by decide +kernel), _, _, rfl, rfl, _, rfl, ite2 (fun c5 => ?_) (fun c5 => ?_)⟩⟩
              · have c5 : decide (g.1 ≤ ws.idxOf zOut) = true := by rw [← le_dec]; exact c5
                refine ⟨_, rfl, _, rfl, r, dx, _, rfl, (s13 _ _ h1), (plF_no o a p (by decide +kernel) (by decide +kernel) (by decide +kernel) : (plF o a p).lookup ("behind" : Str) = none), r, _, o, a, ws, rfl, (hpl.same s13), .inl ⟨zLet, rfl, (by decide +kernel), _, _, rfl, rfl, ?_⟩⟩
                exact fin _ (by rw [c5, Bool.true_and]; exact ge_dec)
              · have c5 : decide (g.1 ≤ ws.idxOf zOut) = false := by rw [← le_dec]; exact bf c5
                exact fin _ (by rw [c5, Bool.false_and])
            · rintro H3 ⟨s3, eD⟩
              have hl3 : vs.length = (gapsOf ws).length := by
                have := dpAll_len hd2
                rw [List.length_map] at this
                exact this
              rw [hl3, List.take_length] at eD
              refine ⟨D, _, rfl, .inl (.inl eD), ?_⟩
              have := q H3 (s1.trans (s2.trans s3))
              rw [List.any_map]
              exact this
          · have c4 : decide (o = "locked") = false := by rw [← eqA]; exact bf c4
            rw [c4, Bool.false_and] at q
            exact q H1 s1
theorem sc_is_stuck : FnScope ["plain"] ["plain"] (defScope s_is_stuck) := ⟨rfl, rfl, rfl, by decide +kernel, rfl, by decide +kernel, by decide +kernel⟩
theorem ok_is_stuck {f : Addr} {fd : FuncData} (F : Fun K "_is_stuck" "_is_stuck" s_is_stuck f fd) (T : Txt K w mg dO dA dS) {U : Addr} (M : PlM P w K mg base C U) (U7 : Txt7 K mg tU) {f1 : Addr} {fd1 : FuncData} (F_is_pulled_behind_let : Fun K "_is_pulled_behind_let" "_is_pulled_behind_let" s_is_pulled_behind_let f1 fd1) (b_is_pulled_behind_let : Binds K fd1 ["plain", "words"] []) (g_is_pulled_behind_let : mg "_is_pulled_behind_let" = some (.ref f1)) (G_is_pulled_behind_let : FnOk P w K mg base CX0 6 f1 fd1 ["plain", "words"] (spBL K C)) {f2 : Addr} {fd2 : FuncData} (F_is_empty_locked : Fun K "_is_empty_locked" "_is_empty_locked" s_is_empty_locked f2 fd2) (b_is_empty_locked : Binds K fd2 ["plain"] []) (g_is_empty_locked : mg "_is_empty_locked" = some (.ref f2)) (G_is_empty_locked : FnOk P w K mg base CX0 6 f2 fd2 ["plain"] (spB0 C fun _ _ ws => emptyL ws)) : FnOk P w K mg base CX0 8 f fd ["plain"] (spB K C stuckB) := by
  refine F.ok sc_is_stuck (fun vs H Q E h => ?_) (fun cdv A outer s H vs Q E hr h => ?_)
  · obtain ⟨r, o, a, ws, rfl, _⟩ := h
    rfl
  · obtain ⟨r, o, a, ws, rfl, hpl, hw, q⟩ := h
    obtain ⟨g_cont, i_cont, j_cont, R_cont⟩ := M.cont
    obtain ⟨pp_opens, fP_opens, fdP_opens, PP_opens, bP_opens, GP_opens⟩ := M.opens
    obtain ⟨pp_asks, fP_asks, fdP_asks, PP_asks, bP_asks, GP_asks⟩ := M.asks
    obtain ⟨f_openings, fd_openings, M_openings, b_openings, G_openings⟩ := M.openings
    refine ⟨_, (pss_cons (ps_if (pt_cmpR (op_notInO R_cont (hr.mono (by decide)) i_cont j_cont) pe_str (pv 0) (by rfl)) (pss_one (ps_ret pe_bl)) pss_nil) (pss_cons (ps_if (PW.pt (pw_and (pt_cmpR op_eq (pe_prop (pv 0) M.cl PP_asks GP_asks (hr.mono (by decide)) bP_asks .nil pass0 (by rfl)) pe_str (nomark _)) (pw_and1 (pt_val (pe_call G_is_empty_locked (hr.mono (by decide)) (by rfl) g_is_empty_locked F_is_empty_locked.kp b_is_empty_locked .nil pass0 (pa_cons (pv 0) pa_nil)))))) (pss_one (ps_ret pe_bl)) pss_nil) (pss_cons (ps_if (PW.pt (pw_or (pt_cmpR (op_inO R_cont (hr.mono (by decide)) i_cont j_cont) pe_str (pv 0) (by rfl)) (pw_or1 (pt_cmpR op_notIn_seq pe_str (pe_tup (pa_cons (pe_prop (pv 0) M.cl PP_opens GP_opens (hr.mono (by decide)) bP_opens .nil pass0 (by rfl)) (pa_cons (pe_prop (pv 0) M.cl PP_asks GP_asks (hr.mono (by decide)) bP_asks .nil pass0 (by rfl)) pa_nil))) (by rfl))))) (pss_one (ps_ret pe_bl)) pss_nil) (pss_one (ps_ret (pe_or (pe_not (pe_call G_is_pulled_behind_let (hr.mono (by decide)) (by rfl) g_is_pulled_behind_let F_is_pulled_behind_let.kp b_is_pulled_behind_let .nil pass0 (pa_cons (pv 0) (pa_cons (pe_glob (v := .ref tU) rfl U7.c_USES rfl) pa_nil)))) (pe_or (pe_cmpR (op_notInO R_cont (hr.mono (by decide)) i_cont j_cont) pe_str (pv 0) (by rfl)) (pe_one (pe_cmpR op_eq (pe_callB call_len_seq (by rfl) T.m_len PySem.boot_len (pa_cons (pe_meth0 (E := E0) (pv 0) M.cl M_openings G_openings (hr.mono (by decide)) b_openings .nil pass0) pa_nil)) pe_int (nomark _)))))))))), ?_⟩
    obtain ⟨dx, p, ob, h1, h2, h3⟩ := id hpl
    unfold stuckB at q
    refine ⟨_, rfl, r, dx, _, rfl, h1, r, _, .str zLock, o, a, ws, rfl, hpl, dp_pull (by decide +kernel), _, rfl, _, rfl, ite2 (fun c1 => ?_) (fun c1 => ?_)⟩
    · have c1 : (!contB ws (.str zLock)) = true := c1
      rw [contB_str (show zLock ∈ wPulls by decide +kernel)] at c1
      rw [show decide (zLock ∈ ws) = false by rw [Bool.not_eq_true'] at c1; exact c1] at q
      exact q H (Same.refl H)
    · have c1 : (!contB ws (.str zLock)) = false := bf c1
      rw [contB_str (show zLock ∈ wPulls by decide +kernel)] at c1
      rw [show decide (zLock ∈ ws) = true by rw [Bool.not_eq_false'] at c1; exact c1, Bool.true_and] at q
      refine ⟨_, rfl, r, dx, _, rfl, h1, r, dx, _, _, rfl, h1, plF_a o a p, rfl, _, rfl, ite2 (fun c2 => ?_) (fun c2 => ?_)⟩
      · have c2 : decide (a = "locked") = true := by rw [← eqA]; exact c2
        rw [c2, Bool.true_and] at q
        refine ⟨_, rfl, r, o, a, ws, rfl, hpl, _, rfl, ite2 (fun c3 => ?_) (fun c3 => ?_)⟩
        · rw [show emptyL ws = true from c3] at q
          exact q H (Same.refl H)
        · rw [show emptyL ws = false from bf c3, Bool.false_or] at q
          refine ⟨_, rfl, r, dx, _, rfl, h1, r, _, .str zUnl, o, a, ws, rfl, hpl, dp_pull (by decide +kernel), _, rfl, _, rfl, ite2 (fun c4 => ?_) (fun c4 => ?_)⟩
          · have c4 : contB ws (.str zUnl) = true := c4
            rw [contB_str (show zUnl ∈ wPulls by decide +kernel)] at c4
            rw [c4] at q
            exact iteT (q H (Same.refl H))
          · have c4 : contB ws (.str zUnl) = false := bf c4
            rw [contB_str (show zUnl ∈ wPulls by decide +kernel)] at c4
            rw [c4, Bool.false_or, Bool.not_not] at q
            refine ⟨_, rfl, r, dx, _, rfl, h1, r, dx, _, _, rfl, h1, plF_o o a p, _, rfl, r, dx, _, rfl, h1, r, dx, _, _, rfl, h1, plF_a o a p, (by show 2 ≤ sizeLine; decide), fun t ht => ?_⟩
            have s1 := same_upd (o := .tup [V.str o, V.str a]) ht
            refine ⟨t, [o, a].map V.str, rfl, .inr (.inl (.inl upd_same)), rfl, rfl, _, rfl, ite2 (fun c5 => ?_) (fun c5 => ?_)⟩
            · have c5 : (!inV (.str "locked") ([o, a].map V.str)) = true := c5
              rw [inV2, c2] at c5
              rw [show (decide (o = "locked") || true) = false by rw [Bool.not_eq_true'] at c5; exact c5] at q
              exact q _ s1
            · have c5 : (!inV (.str "locked") ([o, a].map V.str)) = false := bf c5
              rw [inV2, c2] at c5
              rw [show (decide (o = "locked") || true) = true by rw [Bool.not_eq_false'] at c5; exact c5, Bool.true_and] at q
              refine ⟨_, rfl, r, tU, o, a, ws, rfl, hpl.same s1, U7.w _, fun H2 s2 => ⟨_, rfl, _, rfl, ite2 (fun c6 => ?_) (fun c6 => ?_)⟩⟩
              · rw [show (!behindLet ws wUses) = true from c6] at q
                exact q _ (s1.trans s2)
              · rw [show (!behindLet ws wUses) = false from bf c6, Bool.false_or] at q
                refine ⟨_, rfl, r, dx, _, rfl, ((s1.trans s2) _ _ h1), r, _, .str zEmp, o, a, ws, rfl, (hpl.same (s1.trans s2)), dp_pull (by decide +kernel), _, rfl, _, rfl, ite2 (fun c7 => ?_) (fun c7 => ?_)⟩
                · have c7 : (!contB ws (.str zEmp)) = true := c7
                  rw [contB_str (show zEmp ∈ wPulls by decide +kernel)] at c7
                  rw [c7] at q
                  exact q _ (s1.trans s2)
                · have c7 : (!contB ws (.str zEmp)) = false := bf c7
                  rw [contB_str (show zEmp ∈ wPulls by decide +kernel)] at c7
                  rw [c7, Bool.false_or] at q
                  refine ⟨_, rfl, r, dx, _, rfl, (s1.trans s2) _ _ h1, (plF_no o a p (by decide +kernel) (by decide +kernel) (by decide +kernel) : (plF o a p).lookup ("openings" : Str) = none), r, o, a, ws, rfl, hpl.same (s1.trans s2), hw, fun H3 l3 s3 hl3 ⟨vs, e3, hd3⟩ => ⟨l3, _, rfl, .inl (.inl (.inl e3)), rfl, ?_⟩⟩
                  have := q _ (s1.trans (s2.trans s3))
                  have hl : vs.length = (opsOf o ws).length := by
                    have := dpAll_len hd3
                    rw [List.length_map] at this
                    exact this
                  have e : decide (V.int (vs.length : Nat) = V.int 2) = decide ((opsOf o ws).length = 2) := by
                    rw [hl, Bool.eq_iff_iff, decide_eq_true_iff, decide_eq_true_iff]
                    exact ⟨fun z => by have z2 := V.int.inj z; omega, fun z => by rw [z]; rfl⟩
                  rw [← e] at this
                  exact this
      · have c2 : decide (a = "locked") = false := by rw [← eqA]; exact bf c2
        rw [c2, Bool.false_and, Bool.false_or] at q
        refine ⟨_, rfl, r, dx, _, rfl, h1, r, _, .str zUnl, o, a, ws, rfl, hpl, dp_pull (by decide +kernel), _, rfl, _, rfl, ite2 (fun c4 => ?_) (fun c4 => ?_)⟩
        · have c4 : contB ws (.str zUnl) = true := c4
          rw [contB_str (show zUnl ∈ wPulls by decide +kernel)] at c4
          rw [c4] at q
          exact iteT (q H (Same.refl H))
        · have c4 : contB ws (.str zUnl) = false := bf c4
          rw [contB_str (show zUnl ∈ wPulls by decide +kernel)] at c4
          rw [c4, Bool.false_or, Bool.not_not] at q
          refine ⟨_, rfl, r, dx, _, rfl, h1, r, dx, _, _, rfl, h1, plF_o o a p, _, rfl, r, dx, _, rfl, h1, r, dx, _, _, rfl, h1, plF_a o a p, (by show 2 ≤ sizeLine; decide), fun t ht => ?_⟩
          have s1 := same_upd (o := .tup [V.str o, V.str a]) ht
          refine ⟨t, [o, a].map V.str, rfl, .inr (.inl (.inl upd_same)), rfl, rfl, _, rfl, ite2 (fun c5 => ?_) (fun c5 => ?_)⟩
          · have c5 : (!inV (.str "locked") ([o, a].map V.str)) = true := c5
            rw [inV2, c2] at c5
            rw [show (decide (o = "locked") || false) = false by rw [Bool.not_eq_true'] at c5; exact c5] at q
            exact q _ s1
          · have c5 : (!inV (.str "locked") ([o, a].map V.str)) = false := bf c5
            rw [inV2, c2] at c5
            rw [show (decide (o = "locked") || false) = true by rw [Bool.not_eq_false'] at c5; exact c5, Bool.true_and] at q
            refine ⟨_, rfl, r, tU, o, a, ws, rfl, hpl.same s1, U7.w _, fun H2 s2 => ⟨_, rfl, _, rfl, ite2 (fun c6 => ?_) (fun c6 => ?_)⟩⟩
            · rw [show (!behindLet ws wUses) = true from c6] at q
              exact q _ (s1.trans s2)
            · rw [show (!behindLet ws wUses) = false from bf c6, Bool.false_or] at q
              refine ⟨_, rfl, r, dx, _, rfl, ((s1.trans s2) _ _ h1), r, _, .str zEmp, o, a, ws, rfl, (hpl.same (s1.trans s2)), dp_pull (by decide +kernel), _, rfl, _, rfl, ite2 (fun c7 => ?_) (fun c7 => ?_)⟩
              · have c7 : (!contB ws (.str zEmp)) = true := c7
                rw [contB_str (show zEmp ∈ wPulls by decide +kernel)] at c7
                rw [c7] at q
                exact q _ (s1.trans s2)
              · have c7 : (!contB ws (.str zEmp)) = false := bf c7
                rw [contB_str (show zEmp ∈ wPulls by decide +kernel)] at c7
                rw [c7, Bool.false_or] at q
                refine ⟨_, rfl, r, dx, _, rfl, (s1.trans s2) _ _ h1, (plF_no o a p (by decide +kernel) (by decide +kernel) (by decide +kernel) : (plF o a p).lookup ("openings" : Str) = none), r, o, a, ws, rfl, hpl.same (s1.trans s2), hw, fun H3 l3 s3 hl3 ⟨vs, e3, hd3⟩ => ⟨l3, _, rfl, .inl (.inl (.inl e3)), rfl, ?_⟩⟩
                have := q _ (s1.trans (s2.trans s3))
                have hl : vs.length = (opsOf o ws).length := by
                  have := dpAll_len hd3
                  rw [List.length_map] at this
                  exact this
                have e : decide (V.int (vs.length : Nat) = V.int 2) = decide ((opsOf o ws).length = 2) := by
                  rw [hl, Bool.eq_iff_iff, decide_eq_true_iff, decide_eq_true_iff]
                  exact ⟨fun z => by have z2 := V.int.inj z; omega, fun z => by rw [z]; rfl⟩
                rw [← e] at this
                exact this
end
end K57

namespace K57
open PySem PySem.Spec PyProof.Rows StX L2 TL GG OO PB
structure TxtF (mg : Str → Option Value) (K : PySem.W.Frag) (tF : Addr) : Prop where
  c_FAULT_WORDS : mg "FAULT_WORDS" = some (.ref tF)
  w : ∀ H, SqT K H tF (wFlt.map V.str)
section
variable {P : Program} {w : World} {K : PySem.W.Frag} {mg : Str → Option Value} {base : Heap} {dO dA dS : Addr} {C tF : Addr}
def spFlt (K : PySem.W.Frag) (C : Addr) : Sp := fun vs H Q _ => ∃ (r : Addr) (o a : Str) (ws : List Str), vs = [.ref r] ∧ PlainAt C H r o a ws ∧ PW ws ∧ ∀ (H' : Hp) (l : Addr), Same H H' → H l = none → H' l = some (.lst ((fltOf o a ws).map V.str)) → Q (.ref l) H'
theorem room1 {k : Nat} {A : Around} (r : Room k A) : A.units + 1 < cLine := by
  have := r.un
  omega
theorem filt_snoc2 {es : List Str} {i : Nat} {e : Str} (h : es[i]? = some e) (g : Str → Bool) : (es.take (i + 1)).filter g = (es.take i).filter g ++ (if g e = true then [e] else []) := by
  rw [List.take_add_one, h, List.filter_append]
  show _ ++ [e].filter g = _
  cases hg : g e
  · rw [List.filter_cons_of_neg (by rw [hg]; decide)]
    rfl
  · rw [List.filter_cons_of_pos hg]
    rfl
theorem sc_pl_faults : FnScope ["self", "shown", "word"] ["self"] (defScope sPl_faults) := ⟨rfl, rfl, rfl, by decide +kernel, rfl, by decide +kernel, by decide +kernel⟩
theorem ok_pl_faults {f : Addr} {fd : FuncData} (F : Fun K "faults" "Plain.faults" sPl_faults f fd) (T : Txt K w mg dO dA dS) (CT : ClT K mg C) (TF : TxtF mg K tF) {f1 : Addr} {fd1 : FuncData} (F_is_touched : Fun K "_is_touched" "_is_touched" s_is_touched f1 fd1) (b_is_touched : Binds K fd1 ["plain"] []) (g_is_touched : mg "_is_touched" = some (.ref f1)) (G_is_touched : FnOk P w K mg base CX0 9 f1 fd1 ["plain"] (spB K C tch)) {f2 : Addr} {fd2 : FuncData} (F_is_used : Fun K "_is_used" "_is_used" s_is_used f2 fd2) (b_is_used : Binds K fd2 ["plain"] []) (g_is_used : mg "_is_used" = some (.ref f2)) (G_is_used : FnOk P w K mg base CX0 7 f2 fd2 ["plain"] (spB K C fun o _ ws => usedB o ws)) {f3 : Addr} {fd3 : FuncData} (F_is_stuck : Fun K "_is_stuck" "_is_stuck" s_is_stuck f3 fd3) (b_is_stuck : Binds K fd3 ["plain"] []) (g_is_stuck : mg "_is_stuck" = some (.ref f3)) (G_is_stuck : FnOk P w K mg base CX0 8 f3 fd3 ["plain"] (spB K C stuckB)) : FnOk P w K mg base CX0 10 f fd ["self"] (spFlt K C) := by
  refine F.ok sc_pl_faults (fun vs H Q E h => ?_) (fun cdv A outer s H vs Q E hr h => ?_)
  · obtain ⟨r, o, a, ws, rfl, _⟩ := h
    rfl
  · obtain ⟨r, o, a, ws, rfl, hpl, hw, q⟩ := h
    refine ⟨_, (pss_cons (ps_set (i := 1) sc_pl_faults.nd rfl (.inr rfl) (pe_disp (pps_cons pe_str (pe_call G_is_touched (hr.mono (by decide)) (by rfl) g_is_touched F_is_touched.kp b_is_touched .nil pass0 (pa_cons (pv 0) pa_nil)) (pps_cons pe_str (pe_call G_is_used (hr.mono (by decide)) (by rfl) g_is_used F_is_used.kp b_is_used .nil pass0 (pa_cons (pv 0) pa_nil)) (pps_cons pe_str (pe_call G_is_stuck (hr.mono (by decide)) (by rfl) g_is_stuck F_is_stuck.kp b_is_stuck .nil pass0 (pa_cons (pv 0) pa_nil)) (pps_cons pe_str (pe_cmpR op_notIn_seq pe_str (pe_fld (pv 0) rfl) (by rfl)) pps_nil)))) (by rfl) (by rfl) (by simp) (by decide)))
      (pss_one (ps_ret (pe_lc (own := [("word", 2)]) (g := gName 2) rfl sc_pl_faults.nd (pi_tup (pe_glob (v := .ref tF) rfl TF.c_FAULT_WORDS rfl)) (blkOk_by (N := ["self", "shown", "word"]) (sc := defScope sPl_faults) (by decide +kernel)) (fun _ _ _ _ _ => pg_name (i := 2) sc_pl_faults.nd rfl (.inl rfl)) (fun _ _ _ _ _ => (pts_one (pt_val (pe_dget (room1 hr) (pv 1) (pv 2) (fun _ _ => rfl))))) (fun _ _ _ _ _ => (pv 2)))))), ?_⟩
    obtain ⟨dx, p, ob, h1, h2, h3⟩ := id hpl
    refine fun pd hpd => ?_
    have s0 := same_upd (o := .dK []) hpd
    have e0 := upd_same (H := H) (a := pd) (o := .dK [])
    generalize upd H pd (.dK []) = H0 at s0 e0 ⊢
    refine ⟨_, rfl, r, o, a, ws, rfl, hpl.same s0, hw, fun H1 s1 => ⟨_, rfl, r, o, a, ws, rfl, (hpl.same s0).same s1, hw, fun H2 s2 => ⟨_, rfl, r, o, a, ws, rfl, ((hpl.same s0).same s1).same s2, hw, fun H3 s3 => ?_⟩⟩⟩
    have s03 := s0.trans (s1.trans (s2.trans s3))
    refine ⟨_, rfl, r, C, dx, _, _, rfl, s03 _ _ h1, CT.cl, CT.nP, plF_p o a p, p, _, rfl, .inr (.inl (.inr ⟨ob, s03 _ _ h2⟩)), rfl, flat_words _, ?_⟩
    refine ⟨(s1.trans (s2.trans s3)) _ _ e0, [(.inr "touched", .bl (tch o a ws)), (.inr "used", .bl (usedB o ws)), (.inr "stuck", .bl (stuckB o a ws)), (.inr "kept", .bl (!inV (.str zLet) (ws.map V.str)))], rfl, (by show 4 ≤ 15; decide), ?_⟩
    rw [inV_strs]
    have em : mergeK [] [((.inr "touched" : Key), V.bl (tch o a ws)), (.inr "used", .bl (usedB o ws)), (.inr "stuck", .bl (stuckB o a ws)), (.inr "kept", .bl (!decide (zLet ∈ ws)))] = [(.inr "touched", .bl (tch o a ws)), (.inr "used", .bl (usedB o ws)), (.inr "stuck", .bl (stuckB o a ws)), (.inr "kept", .bl (!decide (zLet ∈ ws)))] := rfl
    have gt : ∀ z, z ∈ wFlt → valV [((.inr "touched" : Key), V.bl (tch o a ws)), (.inr "used", .bl (usedB o ws)), (.inr "stuck", .bl (stuckB o a ws)), (.inr "kept", .bl (!decide (zLet ∈ ws)))] (.inr z) = some (.bl (shownB o a ws z)) := fun z hz => by
      simp only [List.mem_cons, List.not_mem_nil, or_false] at hz
      rcases hz with rfl | rfl | rfl | rfl <;> rfl
    rw [em]
    generalize [((.inr "touched" : Key), V.bl (tch o a ws)), (.inr "used", .bl (usedB o ws)), (.inr "stuck", .bl (stuckB o a ws)), (.inr "kept", .bl (!decide (zLet ∈ ws)))] = kvs at gt ⊢
    have sH : Same H (upd H3 pd (.dK kvs)) := same_st s03 hpd
    have ed := upd_same (H := H3) (a := pd) (o := .dK kvs)
    generalize upd H3 pd (.dK kvs) = H4 at sH ed ⊢
    refine ⟨tF, rfl, ⟨_, TF.w _⟩, fun D hD => lc_it (walk_tup (xs := wFlt.map V.str)) (fun j H' => Same H4 H' ∧ H' D = some (.lst (((wFlt.take j).filter (shownB o a ws)).map V.str))) ⟨same_upd hD, upd_same⟩ (fun j H' _ h => TF.w _) ?_ ?_⟩
    · rintro j xv _ H5 hj ⟨s5, eD⟩ ⟨rfl, hv⟩
      have hv : (wFlt.map V.str)[j]? = some xv := hv
      rw [List.getElem?_map] at hv
      obtain ⟨z, hz, rfl⟩ := Option.map_eq_some_iff.mp hv
      have sn := filt_snoc2 hz (shownB o a ws)
      have hzm := List.mem_of_getElem? hz
      refine ⟨rfl, _, rfl, _, rfl, pd, _, rfl, .inl ⟨kvs, .inr z, .inl (s5 _ _ ed), rfl, (gt z hzm).symm⟩, _, rfl, ite2 (fun c => ?_) (fun c => ?_)⟩
      · refine ⟨_, rfl, _, eD, ?_, same_st s5 hD, ?_⟩
        · rw [List.length_map]
          have h3 : (wFlt.take j).length ≤ 4 := by rw [List.length_take]; exact Nat.min_le_right _ _
          exact Nat.lt_of_le_of_lt (Nat.le_trans (List.length_filter_le _ _) h3) (small1000 (by decide))
        · rw [sn, if_pos c, List.map_append]
          exact upd_same
      · rw [sn, if_neg c, List.append_nil]
        exact ⟨s5, eD⟩
    · rintro H5 ⟨s5, eD⟩
      exact q H5 D (sH.trans s5) (sH.free hD) eD
end
end K57

namespace K57
open PySem PySem.Spec PyProof.Rows StX L2 TL GG OO PB
section
variable {P : Program} {w : World} {K : PySem.W.Frag} {mg : Str → Option Value} {base : Heap} {dO dA dS : Addr} {C : Addr}
theorem eqv_ints : ∀ xs ys : List Int, PyData.eqvAll (xs.map PyData.int) (ys.map PyData.int) = true → xs = ys
  | [], [], _ => rfl
  | [], _ :: _, h => by cases h
  | _ :: _, [], h => by cases h
  | x :: xs, y :: ys, h => by
    have h1 : ((x == y) && PyData.eqvAll (xs.map PyData.int) (ys.map PyData.int)) = true := h
    obtain ⟨h2, h3⟩ := Bool.and_eq_true_iff.mp h1
    rw [eq_of_beq h2, eqv_ints xs ys h3]
/-- texts are data -/
theorem strs_sane {ws : List Str} (h : ∀ w ∈ ws, w ∈ wPulls ∨ w ∈ wFlt) : SeqAt.shaped (PyData.list (ws.map PyData.str)) = true := strs_lay ws fun y hy => by
  rcases h y hy with h | h
  · simp only [List.mem_cons, List.not_mem_nil, or_false] at h
    rcases h with rfl | rfl | rfl | rfl | rfl | rfl | rfl | rfl <;> (unfold Sane; decide +kernel)
  · simp only [List.mem_cons, List.not_mem_nil, or_false] at h
    rcases h with rfl | rfl | rfl | rfl <;> (unfold Sane; decide +kernel)
theorem dpl {H : Hp} {l : Addr} {ws : List Str} (h : SqL K H l (ws.map V.str)) : Dp K H (.ref l) (.list (ws.map PyData.str)) := .lst h (dp_strs ws)
theorem eqv_ne {ws : List Str} : PyData.eqv (.list (ws.map PyData.str)) (.list []) = ws.isEmpty := strs_eqv ws
def spIO (K : PySem.W.Frag) : Sp := fun vs H Q _ => ∃ (D W : Addr) (ws zs : List Str), vs = [.ref D, .ref W] ∧ SqL K H D (ws.map V.str) ∧ SqL K H W (zs.map V.str) ∧ (∀ z ∈ zs, z ∈ wPulls) ∧ zs.length ≤ 10 ∧ ∀ (b : Bool) (H' : Hp), Same H H' → (b = true → (∀ z ∈ zs, z ∈ ws) ∧ (zs.map fun z => Int.ofNat (ws.idxOf z)).Pairwise (· ≤ ·)) → Q (.bl b) H'
theorem sc_l_in_order : FnScope ["_law_pulls", "_law_words", "_law_at", "_law_word"] ["_law_pulls", "_law_words"] (defScope s_l_in_order) := ⟨rfl, rfl, rfl, by decide +kernel, rfl, by decide +kernel, by decide +kernel⟩
theorem ok_l_in_order {f : Addr} {fd : FuncData} (F : Fun K "_law_in_order" "_law_in_order" s_l_in_order f fd) (T : Txt K w mg dO dA dS) : FnOk P w K mg base CX0 1 f fd ["_law_pulls", "_law_words"] (spIO K) := by
  refine F.ok sc_l_in_order (fun vs H Q E h => ?_) (fun cdv A outer s H vs Q E hr h => ?_)
  · obtain ⟨D, W, ws, zs, rfl, _⟩ := h
    rfl
  · obtain ⟨D, W, ws, zs, rfl, hD, hW, hz, hl, q⟩ := h
    refine ⟨_, (pss_cons (ps_if (pt_cmpR (op_neD hr.units) (pe_lc (own := [("_law_word", 3)]) (g := gName 3) rfl sc_l_in_order.nd (pi_list (pv 1)) (blkOk_by (N := ["_law_pulls", "_law_words", "_law_at", "_law_word"]) (sc := defScope s_l_in_order) (by decide +kernel)) (fun _ _ _ _ _ => pg_name (i := 3) sc_l_in_order.nd rfl (.inl rfl)) (fun _ _ _ _ _ => (pts_one (pt_cmpR (r := rIn K true) op_notIn_seq (pv 3) (pv 0) (by rfl)))) (fun _ _ _ _ _ => (pv 3))) (pe_lst pa_nil) (nomark _)) 
          (pss_one (ps_ret pe_bl)) pss_nil) 
        (pss_cons (ps_setLc (te := tBM K "list" (rIdxS K) (tVar 0) (tCons (tVar 3) tNil)) (i := 2) (own := [("_law_word", 3)]) (g := gName 3) rfl sc_l_in_order.nd rfl rfl (sw_true rfl rfl rfl (by decide +kernel)) (pi_list (pv 1)) (blkOk_by (N := ["_law_pulls", "_law_words", "_law_at", "_law_word"]) (sc := defScope s_l_in_order) (by decide +kernel)) (fun _ _ _ _ _ => pg_name (i := 3) sc_l_in_order.nd rfl (.inl rfl)) (fun _ _ _ _ _ => pts_nil) (fun _ _ _ _ _ => (pe_bm PySem.F.plainAttrs_list PySem.F.slot_list_index PySem.F.type_list_index (mt_lidxS) (pv 0) (pa_cons (pv 3) pa_nil)))) 
        (pss_one (ps_ret (pe_cmpR (op_eqD hr.units) (pv 2) (pe_callB cr_sorted (by rfl) T.m_sorted (by decide +kernel) (pa_cons (pv 2) pa_nil)) (nomark _)))))), ?_⟩
    refine ⟨_, rfl, W, rfl, ⟨_, hW⟩, fun L hL => lc_it (walk_list (xs := zs.map V.str)) (fun j H' => Same H H' ∧ H' L = some (.lst (((zs.take j).filter fun z => !decide (z ∈ ws)).map V.str))) ⟨same_upd hL, upd_same⟩ (fun j H' _ h => h.1.seq hW) ?_ ?_⟩
    · rintro j xv _ H2 hj ⟨s2, eL⟩ ⟨rfl, hv⟩
      have hv : (zs.map V.str)[j]? = some xv := hv
      rw [List.getElem?_map] at hv
      obtain ⟨z, hzj, rfl⟩ := Option.map_eq_some_iff.mp hv
      have sn := filt_snoc2 hzj (fun z => !decide (z ∈ ws))
      have hi := inV_strs z ws
      refine ⟨rfl, _, rfl, _, rfl, D, _, rfl, .inl (s2.seq hD), rfl, flat_words _, _, rfl, ite2 (fun c => ?_) (fun c => ?_)⟩
      · have c : (!inV (.str z) (ws.map V.str)) = true := c
        rw [hi] at c
        refine ⟨_, rfl, _, eL, ?_, same_st s2 hL, ?_⟩
        · rw [List.length_map]
          have h3 : (zs.take j).length ≤ 10 := by rw [List.length_take]; omega
          exact Nat.lt_of_le_of_lt (Nat.le_trans (List.length_filter_le _ _) h3) (small1000 (by decide))
        · rw [sn, if_pos c, List.map_append]
          exact upd_same
      · have c : (!inV (.str z) (ws.map V.str)) = false := bf c
        rw [hi] at c
        rw [sn, if_neg (by rw [c]; decide), List.append_nil]
        exact ⟨s2, eL⟩
    · rintro H2 ⟨s2, eL⟩
      rw [List.length_map, List.take_length] at eL
      refine ⟨Nat.zero_le _, fun l0 hl0 => ?_⟩
      have s3 := same_upd (o := .lst []) hl0
      refine ⟨_, _, dpl (.inl (.inl (s3 _ _ eL))), .lst (xs := []) (.inl (.inl upd_same)) .nil, strs_sane (fun w hw => .inl (hz w (List.mem_filter.mp hw).1)), rfl, _, rfl, ite2 (fun c => ?_) (fun c => ?_)⟩
      · exact q false _ (s2.trans s3) (fun z => nomatch z)
      · have hall : ∀ z ∈ zs, z ∈ ws := fun z hzz => by
          have c : (!PyData.eqv (.list ((zs.filter fun z => !decide (z ∈ ws)).map PyData.str)) (.list [])) = false := bf c
          rw [eqv_ne] at c
          refine Decidable.byContradiction fun hn => ?_
          have hm : z ∈ zs.filter fun z => !decide (z ∈ ws) := List.mem_filter.mpr ⟨hzz, by rw [decide_eq_false hn]; rfl⟩
          cases hf : zs.filter fun z => !decide (z ∈ ws) with
          | nil => rw [hf] at hm; cases hm
          | cons a b => rw [hf] at c; cases c
        have s23 := s2.trans s3
        generalize upd H2 l0 (.lst []) = H3 at s23 ⊢
        refine ⟨_, rfl, W, rfl, ⟨_, s23.seq hW⟩, fun L2 hL2 => lc_it (walk_list (xs := zs.map V.str)) (fun j H' => Same H3 H' ∧ H' L2 = some (.lst (((zs.take j).map fun z => Int.ofNat (ws.idxOf z)).map V.int))) ⟨same_upd hL2, upd_same⟩ (fun j H' _ h => h.1.seq (s23.seq hW)) ?_ ?_⟩
        · rintro j xv _ H4 hj ⟨s4, eL2⟩ ⟨rfl, hv⟩
          have hv : (zs.map V.str)[j]? = some xv := hv
          rw [List.getElem?_map] at hv
          obtain ⟨z, hzj, rfl⟩ := Option.map_eq_some_iff.mp hv
          have sD4 : SqL K H4 D (ws.map V.str) := s4.seq (s23.seq hD)
          refine ⟨rfl, yes_then ⟨_, rfl, .inl ⟨rfl, _, sD4⟩, _, rfl, D, ws, z, rfl, rfl, sD4, hall z (List.mem_of_getElem? hzj), _, eL2, ?_, same_st s4 hL2, ?_⟩⟩
          · rw [List.length_map, List.length_map, List.length_take]
            exact Nat.lt_of_le_of_lt (Nat.le_trans (Nat.min_le_right _ _) hl) (small1000 (by decide))
          · rw [map_snoc hzj, List.map_append]
            exact upd_same
        · rintro H4 ⟨s4, eL2⟩
          rw [List.length_map, List.take_length] at eL2
          refine ⟨_, rfl, _, rfl, L2, _, rfl, .inl (.inl eL2), by rw [List.length_map]; omega, fun ns' p h1 h2 hp => ?_⟩
          have s5 := same_upd (o := .lst (ns'.map V.int)) hp
          refine ⟨_, _, .lst (.inl (.inl (s5 _ _ eL2))) (dp_ints _), .lst (.inl (.inl upd_same)) (dp_ints _), ints_lay _, ints_lay _, ?_⟩
          refine q _ _ (s23.trans (s4.trans s5)) fun hb => ⟨hall, ?_⟩
          have := eqv_ints _ _ hb
          rw [this]
          exact h2
end
end K57

namespace K57
open PySem PySem.Spec PyProof.Rows StX L2 TL GG OO PB
theorem mem_flt {o a : Str} {ws : List Str} {z : Str} (hz : z ∈ wFlt) : decide (z ∈ fltOf o a ws) = shownB o a ws z := by
  rw [Bool.eq_iff_iff, decide_eq_true_iff]
  exact ⟨fun h => (List.mem_filter.mp h).2, fun h => List.mem_filter.mpr ⟨hz, h⟩⟩
theorem flt_self (o a : Str) (ws : List Str) : wFlt.filter (fun z => decide (z ∈ fltOf o a ws)) = fltOf o a ws := by
  refine List.filter_congr fun z hz => ?_
  exact mem_flt hz
theorem sh_t {o a : Str} {ws : List Str} : shownB o a ws "touched" = tch o a ws := rfl
theorem sh_u {o a : Str} {ws : List Str} : shownB o a ws "used" = usedB o ws := rfl
theorem sh_s {o a : Str} {ws : List Str} : shownB o a ws "stuck" = stuckB o a ws := rfl
theorem sh_k {o a : Str} {ws : List Str} : shownB o a ws "kept" = !decide (zLet ∈ ws) := rfl
def bh (ws : List Str) : List Str := if zLet ∈ ws then ws.drop (ws.idxOf zLet + 1) else []
theorem mem_drop {ws : List Str} {z : Str} {m : Nat} (hn : ws.Nodup) : z ∈ ws.drop m ↔ z ∈ ws ∧ m ≤ ws.idxOf z := by
  constructor
  · intro h
    obtain ⟨i, hi⟩ := List.getElem?_of_mem h
    rw [List.getElem?_drop] at hi
    have := idx_eq hn hi
    exact ⟨List.mem_of_getElem? hi, by omega⟩
  · rintro ⟨h1, h2⟩
    have := idx_some h1
    refine List.mem_of_getElem? (i := ws.idxOf z - m) ?_
    rw [List.getElem?_drop, Nat.add_sub_cancel' h2]
    exact this
theorem mem_bh {ws : List Str} {z : Str} (hn : ws.Nodup) : z ∈ bh ws ↔ zLet ∈ ws ∧ z ∈ ws ∧ ws.idxOf zLet < ws.idxOf z := by
  unfold bh
  by_cases h : zLet ∈ ws
  · rw [if_pos h, mem_drop hn]
    exact ⟨fun x => ⟨h, x⟩, fun x => x.2⟩
  · rw [if_neg h]
    exact ⟨(fun x => nomatch x), fun x => absurd x.1 h⟩
theorem used_bh {o : Str} {ws : List Str} {z : Str} (hn : ws.Nodup) (hz : z ∈ wUses) (h : z ∈ bh ws) : usedB o ws = true := by
  obtain ⟨h1, h2, h3⟩ := (mem_bh hn).mp h
  have : behindLet ws wUses = true := by
    unfold behindLet
    rw [decide_eq_true h1, Bool.true_and, List.any_eq_true]
    exact ⟨z, hz, by rw [decide_eq_true h2, decide_eq_true h3]; rfl⟩
  unfold usedB
  rw [decide_eq_true h1, this, Bool.or_true, Bool.true_or]
  rfl
theorem pair3 {ws : List Str} {x y z : Str} (h : ([x, y, z].map fun z => Int.ofNat (ws.idxOf z)).Pairwise (· ≤ ·)) : ws.idxOf x ≤ ws.idxOf y ∧ ws.idxOf y ≤ ws.idxOf z := by
  have h1 := List.pairwise_cons.mp h
  have h2 := List.pairwise_cons.mp h1.2
  exact ⟨Int.ofNat_le.mp (h1.1 _ (List.mem_cons_self ..)), Int.ofNat_le.mp (h2.1 _ (List.mem_cons_self ..))⟩
theorem idx_ne {ws : List Str} {x y : Str} (hx : x ∈ ws) (h : x ≠ y) : ws.idxOf x ≠ ws.idxOf y := fun e => by
  have h1 := idx_some hx
  by_cases hy : y ∈ ws
  · have h2 := idx_some hy
    rw [← e, h1] at h2
    exact h (Option.some.inj h2)
  · have h3 := idx_mem.mp hx
    have h4 : ¬ ws.idxOf y < ws.length := fun z => hy (idx_mem.mpr z)
    omega
theorem flt_nil {o a : Str} {ws : List Str} (h1 : tch o a ws = false) (h2 : usedB o ws = false) (h3 : stuckB o a ws = false) (h4 : zLet ∈ ws) : fltOf o a ws = [] := by
  unfold fltOf
  rw [List.filter_eq_nil_iff]
  intro z hz
  simp only [List.mem_cons, List.not_mem_nil, or_false] at hz
  rcases hz with rfl | rfl | rfl | rfl
  · rw [sh_t, h1]; decide
  · rw [sh_u, h2]; decide
  · rw [sh_s, h3]; decide
  · rw [sh_k, decide_eq_true h4]; decide
section
variable {P : Program} {w : World} {K : PySem.W.Frag} {mg : Str → Option Value} {base : Heap} {dO dA dS : Addr} {C : Addr}
def spKnown (K : PySem.W.Frag) : Sp := fun vs H Q _ => ∃ (D W : Addr) (o a : Str) (ws : List Str), vs = [.str o, .str a, .ref D, .ref W] ∧ SqL K H D (ws.map V.str) ∧ SqL K H W ((fltOf o a ws).map V.str) ∧ PW ws ∧ ∀ H', Same H H' → Q (.bl true) H'
theorem sc_l_known_right : FnScope ["_law_opens", "_law_asks", "_law_pulls", "_law_words", "_law_behind", "_law_word"] ["_law_opens", "_law_asks", "_law_pulls", "_law_words"] (defScope s_l_known_right) := ⟨rfl, rfl, rfl, by decide +kernel, rfl, by decide +kernel, by decide +kernel⟩
theorem ok_l_known_right {f : Addr} {fd : FuncData} (F : Fun K "_law_known_right" "_law_known_right" s_l_known_right f fd) (T : Txt K w mg dO dA dS) {f1 : Addr} {fd1 : FuncData} (F_l_in_order : Fun K "_law_in_order" "_law_in_order" s_l_in_order f1 fd1) (b_l_in_order : Binds K fd1 ["_law_pulls", "_law_words"] []) (g_l_in_order : mg "_law_in_order" = some (.ref f1)) (G_l_in_order : FnOk P w K mg base CX0 1 f1 fd1 ["_law_pulls", "_law_words"] (spIO K)) : FnOk P w K mg base CX0 3 f fd ["_law_opens", "_law_asks", "_law_pulls", "_law_words"] (spKnown K) := by
  refine F.ok sc_l_known_right (fun vs H Q E h => ?_) (fun cdv A outer s H vs Q E hr h => ?_)
  · obtain ⟨D, W, o, a, ws, rfl, _⟩ := h
    rfl
  · obtain ⟨D, W, o, a, ws, rfl, hD, hW, hw, q⟩ := h
    refine ⟨_, (pss_cons (ps_if (pt_cmpR (op_neD hr.units) (pv 3) (pe_lc (own := [("_law_word", 5)]) (g := gName 5) rfl sc_l_known_right.nd (pi_list (pe_lst (pa_cons pe_str (pa_cons pe_str (pa_cons pe_str (pa_cons pe_str pa_nil)))))) (blkOk_by (N := ["_law_opens", "_law_asks", "_law_pulls", "_law_words", "_law_behind", "_law_word"]) (sc := defScope s_l_known_right) (by decide +kernel)) (fun _ _ _ _ _ => pg_name (i := 5) sc_l_known_right.nd rfl (.inl rfl)) (fun _ _ _ _ _ => (pts_one (pt_cmpR (r := rIn K false) op_in_seq (pv 5) (pv 3) (by rfl)))) (fun _ _ _ _ _ => (pv 5))) (nomark _)) 
          (pss_one (ps_ret pe_bl)) pss_nil) 
        (C8.pss_cut (ps_if (PW.pt (pw_or (pt_cmpR op_ne (pe_cmpR op_in_seq pe_str (pv 3) (by rfl)) (pe_cmpR op_notIn_seq pe_str (pv 2) (by rfl)) (nomark _)) (pw_or1 (PW.pt (pw_and (pt_cmpR op_in_seq pe_str (pv 3) (by rfl)) (pw_and1 (pt_cmpR op_notIn_seq pe_str (pv 2) (by rfl)))))))) 
          (pss_one (ps_ret pe_bl)) pss_nil) 
        (C8.pss_cut (ps_if (PW.pt (pw_or (PW.pt (pw_and (pt_cmpR op_in_seq pe_str (pv 3) (by rfl)) (pw_and1 (pt_cmpR op_notIn_seq pe_str (pv 2) (by rfl))))) (pw_or1 (PW.pt (pw_and (pt_cmpR op_eq (pv 0) pe_str (nomark _)) (pw_and (pt_cmpR op_in_seq pe_str (pv 2) (by rfl)) (pw_and1 (pt_cmpR op_notIn_seq pe_str (pv 3) (by rfl))))))))) 
          (pss_one (ps_ret pe_bl)) pss_nil) 
        (C8.pss_cut (ps_if (PW.pt (pw_and (pt_cmpR op_eq (pv 1) pe_str (nomark _)) (pw_and (pt_val (pe_call G_l_in_order (hr.mono (by decide)) (by rfl) g_l_in_order F_l_in_order.kp b_l_in_order .nil pass0 (pa_cons (pv 2) (pa_cons (pe_lst (pa_cons pe_str (pa_cons pe_str (pa_cons pe_str pa_nil)))) pa_nil)))) (pw_and1 (pt_cmpR op_in_seq pe_str (pv 3) (by rfl)))))) 
          (pss_one (ps_ret pe_bl)) pss_nil) 
        (C8.pss_cut (ps_if (PW.pt (pw_and (pt_cmpR op_eq (pv 1) pe_str (nomark _)) (pw_and (pt_cmpR op_in_seq pe_str (pv 2) (by rfl)) (pw_and (pt_cmpR op_notIn_seq pe_str (pv 2) (by rfl)) (pw_and1 (pt_cmpR op_notIn_seq pe_str (pv 3) (by rfl))))))) 
          (pss_one (ps_ret pe_bl)) pss_nil) 
        (C8.pss_cut (ps_set (i := 4) sc_l_known_right.nd rfl (.inl rfl) (pe_ifExp (pt_cmpR op_in_seq pe_str (pv 2) (by rfl)) (pe_slice sl_list (pv 2) (po_some (pe_op op_add (pe_bm PySem.F.plainAttrs_list PySem.F.slot_list_index PySem.F.type_list_index (mt_lidxS) (pv 2) (pa_cons pe_str pa_nil)) pe_int)) po_none) (pe_lst pa_nil))) 
        (C8.pss_cut (ps_if (PW.pt (pw_and (pt_cmpR (op_neD hr.units) (pe_lc (own := [("_law_word", 5)]) (g := gName 5) rfl sc_l_known_right.nd (pi_list (pv 4)) (blkOk_by (N := ["_law_opens", "_law_asks", "_law_pulls", "_law_words", "_law_behind", "_law_word"]) (sc := defScope s_l_known_right) (by decide +kernel)) (fun _ _ _ _ _ => pg_name (i := 5) sc_l_known_right.nd rfl (.inl rfl)) (fun _ _ _ _ _ => (pts_one (pt_cmpR (r := rIn K false) op_in_seq (pv 5) (pe_lst (pa_cons pe_str (pa_cons pe_str (pa_cons pe_str pa_nil)))) (by rfl)))) (fun _ _ _ _ _ => (pv 5))) (pe_lst pa_nil) (nomark _)) (pw_and1 (pt_cmpR op_notIn_seq pe_str (pv 3) (by rfl))))) 
          (pss_one (ps_ret pe_bl)) pss_nil) 
        (C8.pss_cut (ps_if (PW.pt (pw_and (pt_cmpR op_eq (pv 0) pe_str (nomark _)) (pw_and (pt_cmpR op_eq (pv 1) pe_str (nomark _)) (pw_and1 (pt_cmpR op_notIn_seq pe_str (pv 2) (by rfl)))))) 
          (pss_one (ps_if (pt_val (pe_call G_l_in_order (hr.mono (by decide)) (by rfl) g_l_in_order F_l_in_order.kp b_l_in_order .nil pass0 (pa_cons (pv 2) (pa_cons (pe_lst (pa_cons pe_str (pa_cons pe_str (pa_cons pe_str (pa_cons pe_str pa_nil))))) pa_nil)))) 
            (pss_one (ps_ret (pe_or (pe_cmpR (op_eqD hr.units) (pv 3) (pe_lst pa_nil) (nomark _)) (pe_one (pe_cmpR op_in_seq pe_str (pv 4) (by rfl)))))) pss_nil)) pss_nil) 
        (pss_one (ps_ret pe_bl)))))))))), ?_⟩
    have sD : ∀ H', Same H H' → SqL K H' D (ws.map V.str) := fun H' s' => s'.seq hD
    have sW : ∀ H', Same H H' → SqL K H' W ((fltOf o a ws).map V.str) := fun H' s' => s'.seq hW
    have saneW : SeqAt.shaped (PyData.list ((fltOf o a ws).map PyData.str)) = true := strs_sane fun w hw => .inr (List.mem_filter.mp hw).1
    have flt4 : (fltOf o a ws).length ≤ 4 := List.length_filter_le _ _
    -- the words in their order
    refine ⟨_, rfl, (by show 4 ≤ sizeLine; decide), fun lw hlw => ?_⟩
    have s1 := same_upd (o := .lst [V.str "touched", V.str "used", V.str "stuck", V.str "kept"]) hlw
    have ew := upd_same (H := H) (a := lw) (o := .lst [V.str "touched", V.str "used", V.str "stuck", V.str "kept"])
    generalize upd H lw (.lst [V.str "touched", V.str "used", V.str "stuck", V.str "kept"]) = H1 at s1 ew ⊢
    refine ⟨lw, rfl, ⟨_, .inl (.inl ew)⟩, fun L hL => lc_it (walk_list (xs := [V.str "touched", V.str "used", V.str "stuck", V.str "kept"])) (fun j H' => Same H1 H' ∧ H' L = some (.lst (((wFlt.take j).filter fun z => decide (z ∈ fltOf o a ws)).map V.str))) ⟨same_upd hL, upd_same⟩ (fun j H' _ h => .inl (.inl (h.1 _ _ ew))) ?_ ?_⟩
    · rintro j xv _ H2 hj ⟨s2, eL⟩ ⟨rfl, hv⟩
      have hv : (wFlt.map V.str)[j]? = some xv := hv
      rw [List.getElem?_map] at hv
      obtain ⟨z, hzj, rfl⟩ := Option.map_eq_some_iff.mp hv
      have sn := filt_snoc2 hzj (fun z => decide (z ∈ fltOf o a ws))
      have hi := inV_strs z (fltOf o a ws)
      refine ⟨rfl, _, rfl, _, rfl, W, _, rfl, .inl (sW _ (s1.trans s2)), rfl, flat_words _, _, rfl, ite2 (fun c => ?_) (fun c => ?_)⟩
      · have c : inV (.str z) ((fltOf o a ws).map V.str) = true := c
        rw [hi] at c
        refine ⟨_, rfl, _, eL, ?_, same_st s2 hL, ?_⟩
        · rw [List.length_map]
          have h3 : (wFlt.take j).length ≤ 4 := by rw [List.length_take]; exact Nat.min_le_right _ _
          exact Nat.lt_of_le_of_lt (Nat.le_trans (List.length_filter_le _ _) h3) (small1000 (by decide))
        · rw [sn, if_pos c, List.map_append]
          exact upd_same
      · have c : inV (.str z) ((fltOf o a ws).map V.str) = false := bf c
        rw [hi] at c
        rw [sn, if_neg (by rw [c]; decide), List.append_nil]
        exact ⟨s2, eL⟩
    rintro H2 ⟨s2, eL⟩
    have eL : H2 L = some (.lst ((wFlt.filter fun z => decide (z ∈ fltOf o a ws)).map V.str)) := eL
    rw [flt_self] at eL
    have s12 := s1.trans s2
    refine ⟨_, _, dpl (sW _ s12), dpl (.inl (.inl eL)), saneW, saneW, _, rfl, iteB (c := false) (by rw [SeqAt.eqv_refl _ (SeqAt.canLay_of_shaped saneW)]; rfl) (iteF ?_)⟩
    clear eL ew
    -- kept, touched
    refine ⟨(fun σ' H' => Same H H' ∧ ∃ y4 y5 : Option V, σ' = [some (.str o), some (.str a), some (.ref D), some (.ref W), y4, y5]), ?_, ?_⟩
    · refine ⟨_, rfl, W, _, rfl, .inl (sW _ s12), rfl, flat_words _, _, rfl, D, _, rfl, .inl (sD _ s12), rfl, flat_words _, rfl, _, rfl, iteB (c := false) ?_ (iteF ?_)⟩
      · show (!decide (V.bl (inV (.str "kept") _) = V.bl (!inV (.str zLet) _))) = false
        rw [inV_strs, inV_strs, mem_flt (by decide +kernel), sh_k, decide_eq_true rfl]
        rfl
      · refine ⟨_, rfl, W, _, rfl, .inl (sW _ s12), rfl, flat_words _, _, rfl, ite2 (fun c => ?_) (fun c => iteF ⟨s12, _, _, rfl⟩)⟩
        refine ⟨_, rfl, D, _, rfl, .inl (sD _ s12), rfl, flat_words _, _, rfl, ite2 (fun c2 => ?_) (fun c2 => ⟨s12, _, _, rfl⟩)⟩
        exfalso
        have c : decide (("touched" : Str) ∈ fltOf o a ws) = true := by rw [← inV_strs]; exact c
        rw [mem_flt (by decide +kernel)] at c
        rw [sh_t] at c
        have c2 : (!inV (.str zDown) (ws.map V.str)) = true := c2
        rw [inV_strs, decide_eq_true (tch_down c)] at c2
        cases c2
    clear s12 s1 s2
    rintro σ1 H3 ⟨s1, y4, y5, rfl⟩
    -- stuck, used
    refine ⟨(fun σ' H' => Same H H' ∧ ∃ y4 y5 : Option V, σ' = [some (.str o), some (.str a), some (.ref D), some (.ref W), y4, y5]), ?_, ?_⟩
    · refine ⟨_, rfl, W, _, rfl, .inl (sW _ s1), rfl, flat_words _, _, rfl, ite2 (fun c => ?_) (fun c => iteF ?_)⟩
      · refine ⟨_, rfl, D, _, rfl, .inl (sD _ s1), rfl, flat_words _, _, rfl, ite2 (fun c2 => ?_) (fun c2 => ?_)⟩
        · exfalso
          have c : decide (("stuck" : Str) ∈ fltOf o a ws) = true := by rw [← inV_strs]; exact c
          rw [mem_flt (by decide +kernel), sh_s] at c
          have c2 : (!inV (.str zLock) (ws.map V.str)) = true := c2
          rw [inV_strs, Bool.not_eq_true'] at c2
          unfold stuckB at c
          rw [c2] at c
          cases c
        refine ⟨_, rfl, rfl, _, rfl, ite2 (fun d1 => ?_) (fun d1 => iteF ⟨s1, _, _, rfl⟩)⟩
        refine ⟨_, rfl, D, _, rfl, .inl (sD _ s1), rfl, flat_words _, _, rfl, ite2 (fun d2 => ?_) (fun d2 => iteF ⟨s1, _, _, rfl⟩)⟩
        refine ⟨_, rfl, W, _, rfl, .inl (sW _ s1), rfl, flat_words _, _, rfl, ite2 (fun d3 => ?_) (fun d3 => ⟨s1, _, _, rfl⟩)⟩
        exfalso
        have d1 : decide (o = "bare") = true := by rw [← eqA]; exact d1
        have d2 : decide (zLet ∈ ws) = true := by rw [← inV_strs]; exact d2
        have d3 : (!inV (.str "used") ((fltOf o a ws).map V.str)) = true := d3
        rw [inV_strs, mem_flt (by decide +kernel), sh_u] at d3
        unfold usedB at d3
        rw [d1, d2, Bool.true_or] at d3
        cases d3
      · refine ⟨_, rfl, rfl, _, rfl, ite2 (fun d1 => ?_) (fun d1 => iteF ⟨s1, _, _, rfl⟩)⟩
        refine ⟨_, rfl, D, _, rfl, .inl (sD _ s1), rfl, flat_words _, _, rfl, ite2 (fun d2 => ?_) (fun d2 => iteF ⟨s1, _, _, rfl⟩)⟩
        refine ⟨_, rfl, W, _, rfl, .inl (sW _ s1), rfl, flat_words _, _, rfl, ite2 (fun d3 => ?_) (fun d3 => ⟨s1, _, _, rfl⟩)⟩
        exfalso
        have d1 : decide (o = "bare") = true := by rw [← eqA]; exact d1
        have d2 : decide (zLet ∈ ws) = true := by rw [← inV_strs]; exact d2
        have d3 : (!inV (.str "used") ((fltOf o a ws).map V.str)) = true := d3
        rw [inV_strs, mem_flt (by decide +kernel), sh_u] at d3
        unfold usedB at d3
        rw [d1, d2, Bool.true_or] at d3
        cases d3
    rintro σ2 H4 ⟨s4, y6, y7, rfl⟩
    -- in, in order
    refine ⟨(fun σ' H' => Same H H' ∧ ∃ y4 y5 : Option V, σ' = [some (.str o), some (.str a), some (.ref D), some (.ref W), y4, y5]), ?_, ?_⟩
    · refine ⟨_, rfl, rfl, _, rfl, ite2 (fun c => ?_) (fun c => iteF ⟨s4, _, _, rfl⟩)⟩
      have c : a = "in" := by
        have c : decide (V.str a = V.str "in") = true := c
        rw [eqA] at c
        exact of_decide_eq_true c
      refine ⟨_, rfl, (by show 3 ≤ sizeLine; decide), fun l3 hl3 => ?_⟩
      have s5 := same_upd (o := .lst [V.str "mark", V.str "wait", V.str "down"]) hl3
      refine ⟨D, l3, ws, ["mark", "wait", "down"], rfl, sD _ (s4.trans s5), .inl (.inl upd_same), (by decide +kernel), (by decide), fun b H' s' hb => ⟨_, rfl, ite2 (fun e1 => ?_) (fun e1 => iteF ⟨s4.trans (s5.trans s'), _, _, rfl⟩)⟩⟩
      refine ⟨_, rfl, W, _, rfl, .inl (sW _ (s4.trans (s5.trans s'))), rfl, flat_words _, _, rfl, ite2 (fun c2 => ?_) (fun c2 => ⟨s4.trans (s5.trans s'), _, _, rfl⟩)⟩
      exfalso
      have c2 : decide (("touched" : Str) ∈ fltOf o a ws) = true := by rw [← inV_strs]; exact c2
      rw [mem_flt (by decide +kernel), sh_t, c] at c2
      obtain ⟨h1, h2⟩ := hb e1
      obtain ⟨h3, h4⟩ := pair3 (x := zMark) (y := zWait) (z := zDown) h2
      have hm := h1 zMark (by decide +kernel)
      have hwt := h1 zWait (by decide +kernel)
      have n1 := idx_ne hm (show zMark ≠ zWait by decide +kernel)
      have n2 := idx_ne hwt (show zWait ≠ zDown by decide +kernel)
      rw [tch_in (by show ws.idxOf zMark < ws.idxOf zWait; omega) (by show ws.idxOf zWait < ws.idxOf zDown; omega)] at c2
      cases c2
    clear s4
    rintro σ3 H5 ⟨s5, y8, y9, rfl⟩
    -- none
    refine ⟨(fun σ' H' => Same H H' ∧ ∃ y4 y5 : Option V, σ' = [some (.str o), some (.str a), some (.ref D), some (.ref W), y4, y5]), ?_, ?_⟩
    · refine ⟨_, rfl, rfl, _, rfl, ite2 (fun c => ?_) (fun c => iteF ⟨s5, _, _, rfl⟩)⟩
      have c : a = "none" := by
        have c : decide (V.str a = V.str "none") = true := c
        rw [eqA] at c
        exact of_decide_eq_true c
      refine ⟨_, rfl, D, _, rfl, .inl (sD _ s5), rfl, flat_words _, _, rfl, ite2 (fun c2 => ?_) (fun c2 => iteF ⟨s5, _, _, rfl⟩)⟩
      refine ⟨_, rfl, D, _, rfl, .inl (sD _ s5), rfl, flat_words _, _, rfl, ite2 (fun c3 => ?_) (fun c3 => iteF ⟨s5, _, _, rfl⟩)⟩
      refine ⟨_, rfl, W, _, rfl, .inl (sW _ s5), rfl, flat_words _, _, rfl, ite2 (fun c4 => ?_) (fun c4 => ⟨s5, _, _, rfl⟩)⟩
      exfalso
      have c2 : decide (zDown ∈ ws) = true := by rw [← inV_strs]; exact c2
      have c3 : (!inV (.str zEmp) (ws.map V.str)) = true := c3
      rw [inV_strs, Bool.not_eq_true'] at c3
      have c4 : (!inV (.str "touched") ((fltOf o a ws).map V.str)) = true := c4
      rw [inV_strs, mem_flt (by decide +kernel), sh_t, c, tch_none (of_decide_eq_true c2) (of_decide_eq_false c3)] at c4
      cases c4
    rintro σ4 H6 ⟨s6, z1, z2, rfl⟩
    clear s5
    -- behind the let
    refine ⟨(fun σ' H' => Same H H' ∧ ∃ (Bh : Addr) (y5 : Option V), σ' = [some (.str o), some (.str a), some (.ref D), some (.ref W), some (.ref Bh), y5] ∧ H' Bh = some (.lst ((bh ws).map V.str))), ?_, ?_⟩
    · have hi := inV_strs zLet ws
      refine ⟨_, rfl, D, _, rfl, .inl (sD _ s6), rfl, flat_words _, _, rfl, ?_⟩
      by_cases hm : zLet ∈ ws
      · refine iteB (c := true) (by show inV (.str zLet) _ = true; rw [hi, decide_eq_true hm]) (iteT ?_)
        refine ⟨_, rfl, _, rfl, .inl ⟨rfl, _, sD _ s6⟩, D, ws, zLet, rfl, rfl, sD _ s6, hm, _, _, rfl, rfl, _, rfl, D, _, rfl, sD _ s6, fun p hp => ⟨same_st s6 (s6.free hp), p, _, rfl, ?_⟩⟩
        have hlt := idx_mem.mp hm
        have e : cutV (ws.map V.str) (some ((ws.idxOf zLet : Nat) + 1 : Int)) none = (bh ws).map V.str := by
          unfold bh
          rw [if_pos hm, show ((ws.idxOf zLet : Nat) + 1 : Int) = ((ws.idxOf zLet + 1 : Nat) : Int) from rfl]
          have h2 : ws.idxOf zLet + 1 ≤ ws.length := hlt
          have := cutG_hi (ws.map V.str) (r := ((ws.idxOf zLet + 1 : Nat) : Int)) (Int.natCast_nonneg _) (by rw [List.length_map]; omega)
          rw [Int.toNat_natCast, ← List.map_drop] at this
          exact this
        rw [← e]
        exact upd_same
      · refine iteB (c := false) (by show inV (.str zLet) _ = false; rw [hi, decide_eq_false hm]) (iteF ?_)
        refine ⟨Nat.zero_le _, fun p hp => ⟨same_st s6 (s6.free hp), p, _, rfl, ?_⟩⟩
        have e : bh ws = [] := by unfold bh; rw [if_neg hm]
        rw [e]
        exact upd_same
    clear s6
    rintro σ5 H7 ⟨s7, Bh, z3, rfl, eB⟩
    have bl8 : (bh ws).length ≤ 8 := by
      unfold bh
      split
      · rw [List.length_drop]
        have := hw.len
        omega
      · exact Nat.zero_le _
    refine ⟨(fun σ' H' => Same H H' ∧ ∃ (Bh : Addr) (y5 : Option V), σ' = [some (.str o), some (.str a), some (.ref D), some (.ref W), some (.ref Bh), y5] ∧ H' Bh = some (.lst ((bh ws).map V.str))), ?_, ?_⟩
    · refine ⟨_, rfl, Bh, rfl, ⟨_, .inl (.inl eB)⟩, fun L2 hL2 => lc_it (walk_list (xs := (bh ws).map V.str)) (fun j H' => Same H7 H' ∧ H' L2 = some (.lst ((((bh ws).take j).filter fun z => decide (z ∈ wUses)).map V.str))) ⟨same_upd hL2, upd_same⟩ (fun j H' _ h => .inl (.inl (h.1 _ _ eB))) ?_ ?_⟩
      · rintro j xv _ H8 hj ⟨s8, eL2⟩ ⟨rfl, hv⟩
        have hv : ((bh ws).map V.str)[j]? = some xv := hv
        rw [List.getElem?_map] at hv
        obtain ⟨z, hzj, rfl⟩ := Option.map_eq_some_iff.mp hv
        have sn := filt_snoc2 hzj (fun z => decide (z ∈ wUses))
        have hi := inV_strs z wUses
        refine ⟨rfl, _, rfl, (by show 3 ≤ sizeLine; decide), fun lq hlq => ?_⟩
        have s9 := same_upd (o := .lst [V.str "mark", V.str "wait", V.str "empty"]) hlq
        refine ⟨lq, wUses.map V.str, rfl, .inl (.inl (.inl upd_same)), rfl, flat_words _, _, rfl, ite2 (fun c => ?_) (fun c => ?_)⟩
        · have c : inV (.str z) (wUses.map V.str) = true := c
          rw [hi] at c
          refine ⟨_, rfl, _, s9 _ _ eL2, ?_, same_st (s8.trans s9) hL2, ?_⟩
          · rw [List.length_map]
            have h3 : ((bh ws).take j).length ≤ 8 := by rw [List.length_take]; omega
            exact Nat.lt_of_le_of_lt (Nat.le_trans (List.length_filter_le _ _) h3) (small1000 (by decide))
          · rw [sn, if_pos c, List.map_append]
            exact upd_same
        · have c : inV (.str z) (wUses.map V.str) = false := bf c
          rw [hi] at c
          rw [sn, if_neg (by rw [c]; decide), List.append_nil]
          exact ⟨s8.trans s9, s9 _ _ eL2⟩
      · rintro H8 ⟨s8, eL2⟩
        rw [List.length_map, List.take_length] at eL2
        refine ⟨Nat.zero_le _, fun l0 hl0 => ?_⟩
        have s9 := same_upd (o := .lst []) hl0
        have s79 := s7.trans (s8.trans s9)
        have eB9 := (s8.trans s9) _ _ eB
        refine ⟨_, _, dpl (.inl (.inl (s9 _ _ eL2))), .lst (xs := []) (.inl (.inl upd_same)) .nil, strs_sane (fun w hw2 => .inl (uses_pull (of_decide_eq_true (List.mem_filter.mp hw2).2))), rfl, _, rfl, ite2 (fun c => ?_) (fun c => iteF ⟨s79, Bh, _, rfl, eB9⟩)⟩
        have c : (!PyData.eqv (.list (((bh ws).filter fun z => decide (z ∈ wUses)).map PyData.str)) (.list [])) = true := c
        rw [eqv_ne] at c
        refine ⟨_, rfl, W, _, rfl, .inl (sW _ s79), rfl, flat_words _, _, rfl, ite2 (fun c2 => ?_) (fun c2 => ⟨s79, Bh, _, rfl, eB9⟩)⟩
        exfalso
        have c2 : (!inV (.str "used") ((fltOf o a ws).map V.str)) = true := c2
        rw [inV_strs, mem_flt (by decide +kernel), sh_u] at c2
        cases hf : (bh ws).filter fun z => decide (z ∈ wUses) with
        | nil => rw [hf] at c; cases c
        | cons z r =>
          have hz : z ∈ (bh ws).filter fun z => decide (z ∈ wUses) := by rw [hf]; exact List.mem_cons_self ..
          obtain ⟨h1, h2⟩ := List.mem_filter.mp hz
          rw [used_bh hw.1 (of_decide_eq_true h2) h1] at c2
          cases c2
    clear eB s7
    rintro σ6 H8 ⟨s8, Bh2, z4, rfl, eB⟩
    -- tried, in, without a lock
    refine ⟨(fun σ' H' => Same H H' ∧ ∃ (Bh : Addr) (y5 : Option V), σ' = [some (.str o), some (.str a), some (.ref D), some (.ref W), some (.ref Bh), y5] ∧ H' Bh = some (.lst ((bh ws).map V.str))), ?_, ?_⟩
    · refine ⟨_, rfl, rfl, _, rfl, ite2 (fun c => ?_) (fun c => iteF ⟨s8, Bh2, _, rfl, eB⟩)⟩
      have c : o = "tried" := by
        have c : decide (V.str o = V.str "tried") = true := c
        rw [eqA] at c
        exact of_decide_eq_true c
      refine ⟨_, rfl, rfl, _, rfl, ite2 (fun c2 => ?_) (fun c2 => iteF ⟨s8, Bh2, _, rfl, eB⟩)⟩
      have c2 : a = "in" := by
        have c2 : decide (V.str a = V.str "in") = true := c2
        rw [eqA] at c2
        exact of_decide_eq_true c2
      refine ⟨_, rfl, D, _, rfl, .inl (sD _ s8), rfl, flat_words _, _, rfl, ite2 (fun c3 => ?_) (fun c3 => ⟨s8, Bh2, _, rfl, eB⟩)⟩
      have c3 : (!inV (.str zLock) (ws.map V.str)) = true := c3
      rw [inV_strs, Bool.not_eq_true'] at c3
      refine ⟨_, rfl, (by show 4 ≤ sizeLine; decide), fun l3 hl3 => ?_⟩
      have s9 := same_upd (o := .lst [V.str "mark", V.str "wait", V.str "down", V.str "let"]) hl3
      refine ⟨D, l3, ws, ["mark", "wait", "down", "let"], rfl, sD _ (s8.trans s9), .inl (.inl upd_same), (by decide +kernel), (by decide), fun b H' s' hb => ⟨_, rfl, ite2 (fun e1 => ?_) (fun e1 => ⟨s8.trans (s9.trans s'), Bh2, _, rfl, (s9.trans s') _ _ eB⟩)⟩⟩
      obtain ⟨h1, h2⟩ := hb e1
      obtain ⟨h3, h4⟩ := pair3 (x := zMark) (y := zWait) (z := zDown) (List.Pairwise.sublist (List.Sublist.map _ (List.take_sublist 3 (["mark", "wait", "down", "let"] : List Str))) h2)
      obtain ⟨_, h5⟩ := pair3 (x := zWait) (y := zDown) (z := zLet) (List.pairwise_cons.mp h2).2
      have hm := h1 zMark (by decide +kernel)
      have hwt := h1 zWait (by decide +kernel)
      have hdn := h1 zDown (by decide +kernel)
      have hlt := h1 zLet (by decide +kernel)
      have n1 := idx_ne hm (show zMark ≠ zWait by decide +kernel)
      have n2 := idx_ne hwt (show zWait ≠ zDown by decide +kernel)
      have n3 := idx_ne hdn (show zDown ≠ zLet by decide +kernel)
      have s10 := s8.trans (s9.trans s')
      have eB10 := (s9.trans s') _ _ eB
      refine ⟨_, rfl, Nat.zero_le _, fun l0 hl0 => ?_⟩
      have s11 := same_upd (o := .lst []) hl0
      refine ⟨_, _, dpl (sW _ (s10.trans s11)), .lst (xs := []) (.inl (.inl upd_same)) .nil, saneW, rfl, _, rfl, ite2 (fun c4 => ?_) (fun c4 => ?_)⟩
      · exact q _ (s10.trans s11)
      · refine ⟨_, rfl, Bh2, _, rfl, .inl (.inl (.inl (s11 _ _ eB10))), rfl, flat_words _, ?_⟩
        show Q (.bl (inV (.str zEmp) ((bh ws).map V.str))) _
        rw [inV_strs]
        have he : zEmp ∈ bh ws := by
          refine Decidable.byContradiction fun hne => ?_
          have hnil : fltOf o a ws = [] := by
            refine flt_nil ?_ ?_ ?_ hlt
            · rw [c2]
              exact tch_in (by show ws.idxOf zMark < ws.idxOf zWait; omega) (by show ws.idxOf zWait < ws.idxOf zDown; omega)
            · have hb2 : behindLet ws wUses = false := by
                unfold behindLet
                rw [Bool.and_eq_false_iff]
                right
                rw [List.any_eq_false]
                intro z hz
                simp only [List.mem_cons, List.not_mem_nil, or_false] at hz
                rcases hz with rfl | rfl | rfl
                · rw [decide_eq_false (show ¬ ws.idxOf zLet < ws.idxOf zMark by show ¬ ws.idxOf zLet < ws.idxOf zMark; omega), Bool.and_false]
                  decide
                · rw [decide_eq_false (show ¬ ws.idxOf zLet < ws.idxOf zWait by show ¬ ws.idxOf zLet < ws.idxOf zWait; omega), Bool.and_false]
                  decide
                · intro hz
                  obtain ⟨g1, g2⟩ := Bool.and_eq_true_iff.mp hz
                  exact hne ((mem_bh hw.1).mpr ⟨hlt, of_decide_eq_true g1, of_decide_eq_true g2⟩)
              unfold usedB
              rw [hb2, c, decide_eq_false (show ¬ (("tried" : Str) = "bare") by decide +kernel), decide_eq_false (show ¬ (("tried" : Str) = "locked") by decide +kernel), Bool.false_and, Bool.or_false, Bool.or_false, Bool.and_false]
            · unfold stuckB
              rw [c3, Bool.false_and]
          rw [hnil] at c4
          exact absurd (show PyData.eqv (.list (([] : List Str).map PyData.str)) (.list []) = true from rfl) c4
        rw [decide_eq_true he]
        exact q _ (s10.trans s11)
    · rintro σ7 H9 ⟨s9, Bh3, z5, rfl, _⟩
      exact q _ s9
end
end K57

namespace K57
open PySem PySem.Spec PyProof.Rows StX L2 TL GG OO PB
theorem look_rel {env : Env} {x : Str} {k : NameKind} : ∀ {names : List (Str × NameKind)}, names.lookup x = some k →
    (names.map fun (n, k) => if (k == NameKind.free && env.scope.kind == .function && env.kindOf n == some .cell) then (n, NameKind.cell) else (n, k)).lookup x = some k ∨
    (k = .free ∧ (names.map fun (n, k) => if (k == NameKind.free && env.scope.kind == .function && env.kindOf n == some .cell) then (n, NameKind.cell) else (n, k)).lookup x = some .cell)
  | [], h => by simp at h
  | (n, j) :: r, h => by
    have ih := @look_rel env x k r
    rw [List.map_cons]
    rw [List.lookup_cons] at h
    by_cases hx : (x == n) = true
    · rw [hx] at h
      cases Option.some.inj h
      by_cases hc : (k == NameKind.free && env.scope.kind == .function && env.kindOf n == some .cell) = true
      · right
        refine ⟨?_, ?_⟩
        · have := (Bool.and_eq_true_iff.mp (Bool.and_eq_true_iff.mp hc).1).1
          exact eq_of_beq this
        · simp only [hc, if_true, List.lookup_cons, hx]
      · left
        show List.lookup x ((if (k == NameKind.free && env.scope.kind == .function && env.kindOf n == some .cell) = true then (n, NameKind.cell) else (n, k)) :: _) = some k
        rw [if_neg hc, List.lookup_cons, hx]
    · have hx : (x == n) = false := by cases hb : (x == n) <;> simp_all
      rw [hx] at h
      have e : ∀ k' : NameKind, (if (j == NameKind.free && env.scope.kind == .function && env.kindOf n == some .cell) = true then (n, NameKind.cell) else (n, j)).1 = n := fun _ => by split <;> rfl
      rw [List.lookup_cons]
      rw [show (x == (if (j == NameKind.free && env.scope.kind == .function && env.kindOf n == some .cell) = true then (n, NameKind.cell) else (n, j)).1) = false by rw [e k]; exact hx]
      exact ih h
theorem blkOk_rel {N : List Str} {sc scope : Scope} {own : List (Str × Nat)} {env : Env} (h : BlkOk N sc scope own) : BlkOk N (relabel sc env) scope own :=
  ⟨h.kind, h.uniq, h.ix, fun y hy e => by
    rcases h.free y hy e with c | f
    · rcases look_rel (env := env) c with r | ⟨r, _⟩
      · exact .inl r
      · cases r
    · rcases look_rel (env := env) f with r | ⟨_, r⟩
      · exact .inr r
      · exact .inl r, h.own⟩
/-- the scope of the law's outer comprehension -/
def scOne : Scope := match s_law with
  | .FunctionDef (body := .For _ _ (_ :: _ :: _ :: .Assign _ (.BinOp _ _ (.ListComp _ _ sc _) _) _ :: _) _ _ :: _) .. => sc
  | _ => default
section
variable {P : Program} {w : World} {K : PySem.W.Frag} {mg : Str → Option Value} {base : Heap} {dO dA dS : Addr} {C : Addr}
def spLaw (K : PySem.W.Frag) : Sp := fun vs H Q _ => ∃ (a : Addr) (ns : List Int), vs = [.ref a] ∧ SqL K H a (ns.map V.int) ∧ ns.length ≤ 63 ∧ ∀ H', Q (.bl true) H'
/-- rows of pulls, none of them the pool nor the list they stand in -/
def RowsW (p S : Addr) (H : Hp) (rows : List V) : Prop := ∀ x ∈ rows, ∃ (D : Addr) (ws : List Str), x = .ref D ∧ D ≠ p ∧ D ≠ S ∧ H D = some (.lst (ws.map V.str)) ∧ PW ws
theorem RowsW.keep {p S : Addr} {H H' : Hp} {rows : List V} (h : RowsW p S H rows) (k : Keep p H H') : RowsW p S H' rows := fun x hx => by
  obtain ⟨D, ws, h1, h2, h3, h4, h5⟩ := h x hx
  exact ⟨D, ws, h1, h2, h3, k D h2 _ h4, h5⟩
theorem RowsW.put {p S : Addr} {H : Hp} {o : HO} {rows : List V} (h : RowsW p S H rows) : RowsW p S (upd H S o) rows := fun x hx => by
  obtain ⟨D, ws, h1, h2, h3, h4, h5⟩ := h x hx
  exact ⟨D, ws, h1, h2, h3, by rw [upd_ne h3]; exact h4, h5⟩
theorem sc_law : FnScope ["_law_script", "_law_k", "_law_cell", "_law_pool_here", "_law_opens", "_law_asks", "_law_pulls", "_law_some", "_law_left", "_law_word", "_law_at", "_law_row", "_law_one"] ["_law_script"] (defScope s_law) := ⟨rfl, rfl, rfl, by decide +kernel, rfl, by decide +kernel, by decide +kernel⟩
theorem ok_l_law {f : Addr} {fd : FuncData} (F : Fun K "law" "law" s_law f fd) (T : Txt K w mg dO dA dS) (CT : ClT K mg C) {f1 : Addr} {fd1 : FuncData} (F_l_pool : Fun K "_law_pool" "_law_pool" s_l_pool f1 fd1) (b_l_pool : Binds K fd1 ["_law_cell", "_law_salt", "_law_many"] []) (g_l_pool : mg "_law_pool" = some (.ref f1)) (G_l_pool : FnOk P w K mg base CX0 2 f1 fd1 ["_law_cell", "_law_salt", "_law_many"] (spPool K)) {f2 : Addr} {fd2 : FuncData} (F_l_kinds : Fun K "_law_kinds" "_law_kinds" s_l_kinds f2 fd2) (b_l_kinds : Binds K fd2 ["_law_pool_here"] []) (g_l_kinds : mg "_law_kinds" = some (.ref f2)) (G_l_kinds : FnOk P w K mg base CX0 3 f2 fd2 ["_law_pool_here"] (spKinds K)) {f3 : Addr} {fd3 : FuncData} (F_l_pull_words : Fun K "_law_pull_words" "_law_pull_words" s_l_pull_words f3 fd3) (b_l_pull_words : Binds K fd3 ["_law_pool_here"] []) (g_l_pull_words : mg "_law_pull_words" = some (.ref f3)) (G_l_pull_words : FnOk P w K mg base CX0 2 f3 fd3 ["_law_pool_here"] (spPullW K)) {f4 : Addr} {fd4 : FuncData} (F_l_draw : Fun K "_law_draw" "_law_draw" s_l_draw f4 fd4) (b_l_draw : Binds K fd4 ["_law_pool_here", "_law_many"] []) (g_l_draw : mg "_law_draw" = some (.ref f4)) (G_l_draw : FnOk P w K mg base CX0 1 f4 fd4 ["_law_pool_here", "_law_many"] (spDraw K)) {f5 : Addr} {fd5 : FuncData} (F_l_known_right : Fun K "_law_known_right" "_law_known_right" s_l_known_right f5 fd5) (b_l_known_right : Binds K fd5 ["_law_opens", "_law_asks", "_law_pulls", "_law_words"] []) (g_l_known_right : mg "_law_known_right" = some (.ref f5)) (G_l_known_right : FnOk P w K mg base CX0 3 f5 fd5 ["_law_opens", "_law_asks", "_law_pulls", "_law_words"] (spKnown K)) {sm fO : Addr} {mc : Value} (RD : ClX.CRead K C mc) (SM : SMet K C mc "of" sm fO) (R_of : FnR P w K mg base CX0 5 fO (spPlOf K C)) {f_faults : Addr} {fd_faults : FuncData} (M_faults : Meth K C "faults" f_faults) (b_faults : Binds K fd_faults ["self"] []) (G_faults : FnOk P w K mg base CX0 10 f_faults fd_faults ["self"] (spFlt K C)) : FnOk P w K mg base CX0 12 f fd ["_law_script"] (spLaw K) := by
  refine F.ok sc_law (fun vs H Q E h => ?_) (fun cdv A outer s H vs Q E hr h => ?_)
  · obtain ⟨a, ns, rfl, _⟩ := h
    rfl
  · obtain ⟨a, ns, rfl, hS, hlen, q⟩ := h
    refine ⟨_, (pss_cons (ps_for PassesOwn.never rfl (pi_enum (by rfl) T.m_enumerate (pa_cons (pe_op op_cat (pe_slice sl_list (pv 0) po_none (po_some pe_int)) (pe_op op_rep (pe_lst (pa_cons pe_int pa_nil)) (pe_callTy call_int1 (by rfl) T.m_int (by decide +kernel) (pa_cons (pe_cmpR (op_eqD hr.units) (pv 0) (pe_lst pa_nil) (nomark _)) pa_nil)))) pa_nil)) (pg_tup rfl (pgs_cons (pg_name (i := 1) sc_law.nd rfl (.inl rfl)) (pgs_cons (pg_name (i := 2) sc_law.nd rfl (.inl rfl)) pgs_nil))) 
          (pss_cons (ps_set (i := 3) sc_law.nd rfl (.inl rfl) (pe_call G_l_pool (hr.mono (by decide)) (by rfl) g_l_pool F_l_pool.kp b_l_pool .nil pass0 (pa_cons (pv 2) (pa_cons (pe_op op_add pe_int (pv 1)) (pa_cons pe_int pa_nil))))) 
          (pss_cons (ps_asg (pe_call G_l_kinds (hr.mono (by decide)) (by rfl) g_l_kinds F_l_kinds.kp b_l_kinds .nil pass0 (pa_cons (pv 3) pa_nil)) (pg_unl rfl (pgs_cons (pg_name (i := 4) sc_law.nd rfl (.inl rfl)) (pgs_cons (pg_name (i := 5) sc_law.nd rfl (.inl rfl)) pgs_nil)))) 
          (pss_cons (ps_set (i := 6) sc_law.nd rfl (.inr rfl) (pe_call G_l_pull_words (hr.mono (by decide)) (by rfl) g_l_pull_words F_l_pull_words.kp b_l_pull_words .nil pass0 (pa_cons (pv 3) pa_nil))) 
          (pss_cons (ps_set (i := 7) sc_law.nd rfl (.inl rfl) (pe_op op_cat (pe_lst (pa_cons (pv 6) pa_nil)) (pe_lc (own := [("_law_one", 12)]) (g := gName 12) rfl sc_law.nd (pi_list (pe_lst (pa_cons pe_str (pa_cons pe_str (pa_cons pe_str (pa_cons pe_str pa_nil)))))) (blkOk_by (N := ["_law_script", "_law_k", "_law_cell", "_law_pool_here", "_law_opens", "_law_asks", "_law_pulls", "_law_some", "_law_left", "_law_word", "_law_at", "_law_row", "_law_one"]) (sc := defScope s_law) (by decide +kernel)) (fun _ _ _ _ _ => pg_name (i := 12) sc_law.nd rfl (.inr rfl)) (fun _ _ _ _ _ => pts_nil) (fun _ _ _ _ _ => (pe_lc (wi := iList K (tVar 6)) (own := [("_law_word", 9)]) (g := gName 9) rfl sc_law.nd (pi_list (pv 6)) (blkOk_rel (blkOk_by (N := ["_law_script", "_law_k", "_law_cell", "_law_pool_here", "_law_opens", "_law_asks", "_law_pulls", "_law_some", "_law_left", "_law_word", "_law_at", "_law_row", "_law_one"]) (sc := scOne) (by decide +kernel))) (fun _ _ _ _ _ => pg_name (i := 9) sc_law.nd rfl (.inl rfl)) (fun _ _ _ _ _ => (pts_one (pt_cmpR op_ne (pv 9) (pv 12) (nomark _)))) (fun _ _ _ _ _ => (pv 9))))))) 
          (pss_cons (ps_setLc (i := 8) (own := [("_law_word", 9)]) (g := gName 9) rfl sc_law.nd rfl rfl (sw_true rfl rfl rfl (by decide +kernel)) (pi_list (pe_lst (pa_cons pe_str (pa_cons pe_str (pa_cons pe_str (pa_cons pe_str (pa_cons pe_str (pa_cons pe_str pa_nil)))))))) (blkOk_by (N := ["_law_script", "_law_k", "_law_cell", "_law_pool_here", "_law_opens", "_law_asks", "_law_pulls", "_law_some", "_law_left", "_law_word", "_law_at", "_law_row", "_law_one"]) (sc := defScope s_law) (by decide +kernel)) (fun _ _ _ _ _ => pg_name (i := 9) sc_law.nd rfl (.inl rfl)) (fun _ _ _ _ _ => (pts_one (pt_cmpR (r := rIn K true) op_notIn_seq (pv 9) (pv 6) (by rfl)))) (fun _ _ _ _ _ => (pv 9))) 
          (pss_cons (ps_for PassesOwn.never rfl (pi_list (pv 8)) (pg_name (i := 9) sc_law.nd rfl (.inl rfl)) 
            (pss_cons (ps_set (i := 10) sc_law.nd rfl (.inl rfl) (pe_call G_l_draw (hr.mono (by decide)) (by rfl) g_l_draw F_l_draw.kp b_l_draw .nil pass0 (pa_cons (pv 3) (pa_cons (pe_op op_add (pe_callB call_len_seq (by rfl) T.m_len PySem.boot_len (pa_cons (pv 6) pa_nil)) pe_int) pa_nil)))) 
            (pss_one (ps_expr (pe_bm PySem.F.plainAttrs_list PySem.F.slot_list_append PySem.F.type_list_append mt_append (pv 7) (pa_cons (pe_op op_cat (pe_op op_cat (pe_slice sl_list (pv 6) po_none (po_some (pv 10))) (pe_lst (pa_cons (pv 9) pa_nil))) (pe_slice sl_list (pv 6) (po_some (pv 10)) po_none)) pa_nil)))))) 
          (pss_one (ps_for PassesOwn.never rfl (pi_list (pv 7)) (pg_name (i := 11) sc_law.nd rfl (.inl rfl)) 
            (pss_one (ps_if (pt_not (pt_val (pe_call G_l_known_right (hr.mono (by decide)) (by rfl) g_l_known_right F_l_known_right.kp b_l_known_right .nil pass0 (pa_cons (pv 4) (pa_cons (pv 5) (pa_cons (pv 11) (pa_cons (pe_meth0 (E := E0) (pe_smethS (E := fun _ => E0) (pe_glob (v := .ref C) rfl CT.mgC rfl) RD SM R_of (hr.mono (by decide)) (pat pass0) (pa_cons (pv 4) (pa_cons (pv 5) (pa_cons (pv 11) pa_nil)))) CT.cl M_faults G_faults (hr.mono (by decide)) b_faults .nil pass0) pa_nil))))))) 
              (pss_one (ps_ret pe_bl)) pss_nil))))))))))) 
        (pss_one (ps_ret pe_bl))), ?_⟩
    refine ⟨_, rfl, _, rfl, a, _, rfl, hS, fun t24 n24 => ?_⟩
    have s0 := same_upd (o := .lst (cutV (ns.map V.int) none (some (8 : Int)))) n24
    have ec : (upd H t24 (.lst (cutV (ns.map V.int) none (some (8 : Int))))) t24 = some (.lst (cutV (ns.map V.int) none (some (8 : Int)))) := upd_same
    generalize upd H t24 (.lst (cutV (ns.map V.int) none (some (8 : Int)))) = H25 at s0 ec ⊢
    refine ⟨(by show 1 ≤ sizeLine; decide), fun t25 n25 => ?_⟩
    have sa := same_upd (o := .lst [V.int 7]) n25
    replace s0 := s0.trans sa
    replace ec := sa _ _ ec
    have el : (upd H25 t25 (.lst [V.int 7])) t25 = some (.lst [V.int 7]) := upd_same
    clear sa
    generalize upd H25 t25 (.lst [V.int 7]) = H26 at s0 ec el ⊢
    refine ⟨_, rfl, Nat.zero_le _, fun t26 n26 => ?_⟩
    have sa := same_upd (o := .lst []) n26
    replace s0 := s0.trans sa
    replace ec := sa _ _ ec
    replace el := sa _ _ el
    have ee : (upd H26 t26 (.lst [])) t26 = some (.lst []) := upd_same
    clear sa
    generalize upd H26 t26 (.lst []) = H27 at s0 ec el ee ⊢
    refine ⟨_, _, .lst (s0.seq hS) (dp_ints ns), .lst (xs := []) (.inl (.inl ee)) .nil, ints_lay ns, rfl, .inr ⟨_, rfl, t25, _, [V.int 7], rfl, rfl, el, ?z1, ?z2, ?z3, fun t27 n27 => ?_⟩⟩
    case z1 => split <;> decide
    case z2 => split <;> decide
    case z3 => split <;> decide
    have sa := same_upd (o := .lst (List.replicate (if PyData.eqv (.list (ns.map PyData.int)) (.list []) = true then (1 : Int) else 0).toNat [V.int 7]).flatten) n27
    replace s0 := s0.trans sa
    replace ec := sa _ _ ec
    have er : (upd H27 t27 (.lst (List.replicate (if PyData.eqv (.list (ns.map PyData.int)) (.list []) = true then (1 : Int) else 0).toNat [V.int 7]).flatten)) t27 = some (.lst (List.replicate (if PyData.eqv (.list (ns.map PyData.int)) (.list []) = true then (1 : Int) else 0).toNat [V.int 7]).flatten) := upd_same
    clear sa
    generalize upd H27 t27 (.lst (List.replicate (if PyData.eqv (.list (ns.map PyData.int)) (.list []) = true then (1 : Int) else 0).toNat [V.int 7]).flatten) = H28 at s0 ec er ⊢
    have hrl : (List.replicate (if PyData.eqv (.list (ns.map PyData.int)) (.list []) = true then (1 : Int) else 0).toNat [V.int 7]).flatten.length ≤ 1 := by
      split <;> decide
    have hcl : (cutV (ns.map V.int) none (some (8 : Int))).length ≤ ns.length := by
      have h := List.length_map (f := V.int) (as := ns)
      unfold cutV
      rw [List.length_take, List.length_drop]
      omega
    refine ⟨t24, t27, _, _, rfl, rfl, ec, er, ?z4, fun t28 n28 => ?_⟩
    case z4 =>
      exact Nat.le_of_lt (small1000 (by omega))
    obtain ⟨cells, hcells⟩ : ∃ cells : List V, cells = cutV (ns.map V.int) none (some (8 : Int)) ++ (List.replicate (if PyData.eqv (.list (ns.map PyData.int)) (.list []) = true then (1 : Int) else 0).toNat [V.int 7]).flatten := ⟨_, rfl⟩
    have hxs : ∀ x ∈ cells, ∃ c, x = V.int c := by
      intro x hx
      rw [hcells, List.mem_append] at hx
      rcases hx with hx | hx
      · obtain ⟨i, hi⟩ := List.getElem?_of_mem hx
        obtain ⟨c, _, e⟩ := List.mem_map.mp (cut_mem hi)
        exact ⟨c, e.symm⟩
      · obtain ⟨l, h1, h2⟩ := List.mem_flatten.mp hx
        rw [(List.mem_replicate.mp h1).2, List.mem_singleton] at h2
        exact ⟨7, h2⟩
    have hxl : cells.length ≤ 100 := by
      rw [hcells, List.length_append]
      omega
    rw [← hcells]
    replace s0 := s0.trans (same_upd (o := .lst cells) n28)
    have ep : (upd H28 t28 (.lst cells)) t28 = some (.lst cells) := upd_same
    generalize upd H28 t28 (.lst cells) = HC at s0 ep ⊢
    clear ec er hrl hcells
    refine ⟨t28, cells, rfl, .inl (.inl ep), ?_⟩
    refine for_it walk_enum (fun i σ H' => Same HC H' ∧ ∃ y1 y2 y3 y4 y5 y6 y7 y8 y9 y10 y11 y12 : Option V, σ = [some (.ref a), y1, y2, y3, y4, y5, y6, y7, y8, y9, y10, y11, y12]) ⟨Same.refl _, _, _, _, _, _, _, _, _, _, _, _, _, rfl⟩ (fun i σ H' _ h => .inl (.inl (h.1 _ _ ep))) ?_ ?_
    · rintro i x σ Ha Hb hi ⟨s6, y1, y2, y3, y4, y5, y6, y7, y8, y9, y10, y11, y12, rfl⟩ ⟨t, kk, x, rfl, ht, rfl, hk, hx⟩
      obtain ⟨c, rfl⟩ := hxs x (List.mem_of_getElem? hx)
      have ek : kk = .int (i : Nat) := (Option.some.inj hk).symm
      subst ek
      have hi100 : i < 100 := by omega
      have s7 := s6.trans (same_upd (o := .tup [.int (i : Nat), .int c]) ht)
      refine ⟨t, _, rfl, .inl (.inl upd_same), rfl, _, _, rfl, _, [], rfl, rfl, ?_⟩
      generalize upd Ha t (.tup [.int (i : Nat), .int c]) = Hc at s7 ⊢
      refine ⟨_, rfl, _, rfl, _, _, rfl, rfl, c, _, _, rfl, ⟨by omega, by omega⟩, ⟨by decide, by decide⟩, fun R H3 p sR k sH => ?_⟩
      refine ⟨_, rfl, p, R, rfl, k, fun R4 H4 DK o as g4 eK ho ha => ?_⟩
      refine ⟨DK, _, rfl, .inl (.inl (g4.rest.1 _ _ eK)), rfl, _, _, rfl, _, [], rfl, rfl, ?_⟩
      refine ⟨_, rfl, p, R4, rfl, g4.rest, fun R5 H5 D ws g5 eD hw => ?_⟩
      have g45 := g4.trans g5
      have s8 : Same HC R5 := s7.trans (sR.trans g45.same)
      have k5 := g45.rest
      have eD5 : H5 D = some (.lst (ws.map V.str)) := k5.1 _ _ eD
      have nDp : D ≠ p := ne_of_none eD k5.2.1
      have h8 := hw.len
      clear g4 g5 g45 eK k sR sH s6 s7
      refine ⟨_, rfl, (by show 1 ≤ sizeLine; decide), fun l1 hl1 => ?_⟩
      have s6 := same_upd (o := .lst [V.ref D]) hl1
      have e1 := upd_same (H := H5) (a := l1) (o := .lst [V.ref D])
      generalize upd H5 l1 (.lst [V.ref D]) = H6 at s6 e1 ⊢
      refine ⟨(by show 4 ≤ sizeLine; decide), fun lo hlo => ?_⟩
      have s7 := same_upd (o := .lst [V.str "out", V.str "empty", V.str "down", V.str "let"]) hlo
      have elo := upd_same (H := H6) (a := lo) (o := .lst [V.str "out", V.str "empty", V.str "down", V.str "let"])
      generalize upd H6 lo (.lst [V.str "out", V.str "empty", V.str "down", V.str "let"]) = H7 at s7 elo ⊢
      have s57 := s6.trans s7
      have eD7 := s57 _ _ eD5
      obtain ⟨d0, n0, kk0, ep5, _⟩ := k5.2.2
      have ep7 := s57 _ _ ep5
      refine ⟨lo, rfl, ⟨_, .inl (.inl elo)⟩, fun L hL => lc_it (walk_list (xs := [V.str "out", V.str "empty", V.str "down", V.str "let"])) (fun j H' => Same H7 H' ∧ ∃ rs : List V, H' L = some (.lst rs) ∧ rs.length = j ∧ ∀ x ∈ rs, ∃ (D' : Addr) (ws' : List Str), x = .ref D' ∧ H7 D' = none ∧ D' ≠ L ∧ H' D' = some (.lst (ws'.map V.str)) ∧ PW ws') ⟨same_upd hL, [], upd_same, rfl, (fun x hx => nomatch hx)⟩ (fun j H' _ h => .inl (.inl (h.1 _ _ elo))) ?_ ?_⟩
      · rintro j xv _ H8 hj ⟨s8', rs, eL, hlr, hrs⟩ ⟨rfl, hv⟩
        obtain ⟨z, rfl, hz⟩ : ∃ z, xv = .str z ∧ z ∈ (["out", "empty", "down", "let"] : List Str) := mem_strs (ws := ["out", "empty", "down", "let"]) (List.mem_of_getElem? hv)
        have hzl : (!decide (zLock = z)) = true := by
          simp only [List.mem_cons, List.not_mem_nil, or_false] at hz
          rcases hz with rfl | rfl | rfl | rfl <;> decide +kernel
        have hj4 : j < 4 := hj
        refine ⟨rfl, yes_then ⟨_, rfl, D, rfl, ⟨_, .inl (.inl (s8' _ _ eD7))⟩, fun L2 hL2 => lc_it (walk_list (xs := ws.map V.str)) (fun i2 H' => Same H8 H' ∧ H' L2 = some (.lst (((ws.take i2).filter fun w => !decide (w = z)).map V.str))) ⟨same_upd hL2, upd_same⟩ (fun i2 H' _ h => .inl (.inl (h.1 _ _ (s8' _ _ eD7)))) ?_ ?_⟩⟩
        · rintro i2 yv _ H9 hi2 ⟨s9, eL2⟩ ⟨rfl, hv2⟩
          have hv2 : (ws.map V.str)[i2]? = some yv := hv2
          rw [List.getElem?_map] at hv2
          obtain ⟨w0, hw0, rfl⟩ := Option.map_eq_some_iff.mp hv2
          have sn := filt_snoc2 hw0 (fun w => !decide (w = z))
          refine ⟨rfl, _, rfl, _, rfl, rfl, _, rfl, ite2 (fun cc => ?_) (fun cc => ?_)⟩
          · have cc : (!decide (V.str w0 = V.str z)) = true := cc
            rw [eqA] at cc
            refine ⟨_, rfl, _, eL2, ?_, same_st s9 hL2, ?_⟩
            · rw [List.length_map]
              have h3 : (ws.take i2).length ≤ 8 := by rw [List.length_take]; omega
              exact Nat.lt_of_le_of_lt (Nat.le_trans (List.length_filter_le _ _) h3) (small1000 (by decide))
            · rw [sn, if_pos cc, List.map_append]
              exact upd_same
          · have cc : (!decide (V.str w0 = V.str z)) = false := bf cc
            rw [eqA] at cc
            rw [sn, if_neg (by rw [cc]; decide), List.append_nil]
            exact ⟨s9, eL2⟩
        · rintro H9 ⟨s9, eL2⟩
          rw [List.length_map, List.take_length] at eL2
          have nL2 : L2 ≠ L := (ne_of_none eL hL2).symm
          refine ⟨rs, s9 _ _ eL, Nat.lt_of_le_of_lt (by omega : _ ≤ 4) (small1000 (by decide)), same_st (s8'.trans s9) hL, rs ++ [.ref L2], upd_same, by rw [List.length_append, hlr]; rfl, fun x hx => ?_⟩
          rcases List.mem_append.mp hx with hx | hx
          · obtain ⟨D', ws', h1, h2, h3, h4, h5⟩ := hrs x hx
            exact ⟨D', ws', h1, h2, h3, by rw [upd_ne h3]; exact s9 _ _ h4, h5⟩
          · exact ⟨L2, _, List.mem_singleton.mp hx, s8'.free hL2, nL2, by rw [upd_ne nL2]; exact eL2, pw_del hw hzl⟩
      rintro H8 ⟨s8', rs, eL, hlr, hrs⟩
      have hlr : rs.length = 4 := hlr
      have s58 := s57.trans s8'
      have eD8 := s8' _ _ eD7
      refine ⟨l1, L, _, _, rfl, rfl, (s7.trans s8') _ _ e1, eL, Nat.le_of_lt (small1000 (by rw [List.length_singleton]; omega)), fun S hS => ?_⟩
      have hSp : S ≠ p := (ne_of_none (s8' _ _ ep7) hS).symm
      have gS : Go p R5 H8 R5 (upd H8 S (.lst ([V.ref D] ++ rs))) := go_hid (Go.same_heap k5 s58).rest hS
      have hR5S : R5 S = none := (Go.same_heap k5 s58).rest.1.free hS
      have rows0 : RowsW p S (upd H8 S (.lst ([V.ref D] ++ rs))) ([V.ref D] ++ rs) := fun x hx => by
        rcases List.mem_append.mp hx with hx | hx
        · have nDS : D ≠ S := ne_of_none eD8 hS
          exact ⟨D, ws, List.mem_singleton.mp hx, nDp, nDS, by rw [upd_ne nDS]; exact eD8, hw⟩
        · obtain ⟨D', ws', h1, h2, h3, h4, h5⟩ := hrs x hx
          have nS : D' ≠ S := ne_of_none h4 hS
          exact ⟨D', ws', h1, (ne_of_none ep7 h2).symm, nS, by rw [upd_ne nS]; exact h4, h5⟩
      have eS := upd_same (H := H8) (a := S) (o := .lst ([V.ref D] ++ rs))
      have hrl : ([V.ref D] ++ rs).length ≤ 5 := by rw [List.length_append, List.length_singleton]; omega
      generalize [V.ref D] ++ rs = rows at gS rows0 eS hrl ⊢
      generalize upd H8 S (.lst rows) = HS at gS rows0 eS ⊢
      have eDS : HS D = some (.lst (ws.map V.str)) := gS.rest.1 _ _ eD
      -- what is left
      refine ⟨(by show 6 ≤ sizeLine; decide), fun ls hls => ?_⟩
      have sl := same_upd (o := .lst [V.str "out", V.str "mark", V.str "wait", V.str "empty", V.str "down", V.str "let"]) hls
      have els := upd_same (H := HS) (a := ls) (o := .lst [V.str "out", V.str "mark", V.str "wait", V.str "empty", V.str "down", V.str "let"])
      generalize upd HS ls (.lst [V.str "out", V.str "mark", V.str "wait", V.str "empty", V.str "down", V.str "let"]) = HT at sl els ⊢
      refine ⟨ls, rfl, ⟨_, .inl (.inl els)⟩, fun Lf hLf => lc_it (walk_list (xs := [V.str "out", V.str "mark", V.str "wait", V.str "empty", V.str "down", V.str "let"])) (fun j H' => Same HT H' ∧ H' Lf = some (.lst (((wSix.take j).filter fun w => !decide (w ∈ ws)).map V.str))) ⟨same_upd hLf, upd_same⟩ (fun j H' _ h => .inl (.inl (h.1 _ _ els))) ?_ ?_⟩
      · rintro j xv _ H9 hj ⟨s9, eLf⟩ ⟨rfl, hv⟩
        have hv : (wSix.map V.str)[j]? = some xv := hv
        rw [List.getElem?_map] at hv
        obtain ⟨z, hzj, rfl⟩ := Option.map_eq_some_iff.mp hv
        have sn := filt_snoc2 hzj (fun w => !decide (w ∈ ws))
        have hin := inV_strs z ws
        refine ⟨rfl, _, rfl, _, rfl, D, _, rfl, .inl (.inl (.inl ((sl.trans s9) _ _ eDS))), rfl, flat_words _, _, rfl, ite2 (fun cc => ?_) (fun cc => ?_)⟩
        · have cc : (!inV (.str z) (ws.map V.str)) = true := cc
          rw [hin] at cc
          refine ⟨_, rfl, _, eLf, ?_, same_st s9 hLf, ?_⟩
          · rw [List.length_map]
            have h3 : (wSix.take j).length ≤ 6 := by rw [List.length_take]; exact Nat.min_le_right _ _
            exact Nat.lt_of_le_of_lt (Nat.le_trans (List.length_filter_le _ _) h3) (small1000 (by decide))
          · rw [sn, if_pos cc, List.map_append]
            exact upd_same
        · have cc : (!inV (.str z) (ws.map V.str)) = false := bf cc
          rw [hin] at cc
          rw [sn, if_neg (by rw [cc]; decide), List.append_nil]
          exact ⟨s9, eLf⟩
      rintro H9 ⟨s9, eLf⟩
      have eLf : H9 Lf = some (.lst ((wSix.filter fun w => !decide (w ∈ ws)).map V.str)) := eLf
      have sl9 := sl.trans s9
      have hlf : (wSix.filter fun w => !decide (w ∈ ws)).length ≤ 6 := List.length_filter_le _ _
      have hlm : ∀ w ∈ wSix.filter (fun w => !decide (w ∈ ws)), w ∈ wSix ∧ w ∉ ws := fun w hm => by
        obtain ⟨h1, h2⟩ := List.mem_filter.mp hm
        rw [Bool.not_eq_true'] at h2
        exact ⟨h1, of_decide_eq_false h2⟩
      generalize (wSix.filter fun w => !decide (w ∈ ws)) = lf at eLf hlf hlm
      have nLp : Lf ≠ p := by
        obtain ⟨_, _, _, epS, _⟩ := gS.rest.2.2
        exact (ne_of_none (sl _ _ epS) hLf).symm
      have nLS : Lf ≠ S := (ne_of_none (sl _ _ eS) hLf).symm
      have g9 : Go p R5 H8 R5 H9 := gS.trans (Go.same_heap gS.rest sl9)
      have rows9 : RowsW p S H9 rows := rows0.keep fun b _ o2 e => sl9 b o2 e
      have eS9 := sl9 _ _ eS
      refine ⟨_, rfl, Lf, rfl, ⟨_, .inl (.inl eLf)⟩, for_it (walk_list (xs := lf.map V.str)) (fun j σ H' => ∃ (R' : Hp) (rows : List V), Go p R5 H8 R' H' ∧ R' S = none ∧ H' S = some (.lst rows) ∧ H' Lf = some (.lst (lf.map V.str)) ∧ RowsW p S H' rows ∧ rows.length ≤ 5 + j ∧ ∃ y9 y10 y11 y12 : Option V, σ = [some (.ref a), some (.int (i : Nat)), some (.int c), some (.ref p), some (.str o), some (.str as), some (.ref D), some (.ref S), some (.ref Lf), y9, y10, y11, y12]) ⟨R5, rows, g9, hR5S, eS9, eLf, rows9, hrl, _, _, _, _, rfl⟩ (fun j σ H' _ h => ?_) ?_ ?_⟩
      · obtain ⟨R', rows', _, _, _, h4, _⟩ := h
        exact .inl (.inl h4)
      · rintro j xv σ _ H10 hj ⟨R', rows', g, hRS, eS', eLf', hrows, hrl', y9, y10, y11, y12, rfl⟩ ⟨rfl, hv⟩
        have hj6 : j < 6 := by rw [List.length_map] at hj; omega
        have hv : (lf.map V.str)[j]? = some xv := hv
        rw [List.getElem?_map] at hv
        obtain ⟨w0, hw0, rfl⟩ := Option.map_eq_some_iff.mp hv
        obtain ⟨h6, hnw⟩ := hlm w0 (List.mem_of_getElem? hw0)
        have eDR : R' D = some (.lst (ws.map V.str)) := g.same _ _ eD
        have ld : LD K R' (.ref D) (ws.map PyData.str) := ⟨D, _, rfl, eDR, dp_strs ws⟩
        refine ⟨_, rfl, _, rfl, D, _, rfl, .inl (.inl (.inl (g.rest.1 _ _ eDR))), _, _, rfl, rfl, ?_⟩
        rw [List.length_map]
        refine ⟨p, _, R', rfl, by omega, g.rest, fun r0 H11 r0l r0u g1 => ?_⟩
        obtain ⟨n, rfl, hn⟩ : ∃ n : Nat, r0 = (n : Int) ∧ n ≤ ws.length := ⟨r0.toNat, by rw [Int.toNat_of_nonneg r0l], by omega⟩
        refine ⟨_, rfl, .inl ⟨rfl, _, .inl (.inl (g1.keep S hSp _ eS'))⟩, ?_⟩
        refine ⟨_, rfl, _, rfl, _, rfl, sliceL g1.rest ld fun x8 R8 H12 g2 ld8 => ?_⟩
        refine ⟨_, rfl, (by show 1 ≤ sizeLine; decide), fun q1 hq1 => ?_⟩
        obtain ⟨g3, ld9⟩ := new1v (K := K) (u := .str w0) (ds := .str w0) g2.rest (.str w0) hq1
        rw [cutG_lo _ (Int.natCast_nonneg n) (by rw [List.length_map]; omega), Int.toNat_natCast, ← List.map_take] at ld8
        have le8 : (ws.take n).length ≤ 8 := by rw [List.length_take]; omega
        have le9 : (ws.drop n).length ≤ 8 := by rw [List.length_drop]; omega
        refine catL g3.rest (ld8.same g3.same) ld9 (by rw [List.length_map, List.length_singleton]; omega) fun x10 R10 H13 g4 ld10 => ?_
        have g24 := g2.trans (g3.trans g4)
        refine ⟨_, rfl, _, rfl, _, rfl, sliceLo g4.rest (ld.same g24.same) fun x11 R11 H14 g5 ld11 => ?_⟩
        rw [cutG_hi _ (Int.natCast_nonneg n) (by rw [List.length_map]; omega), Int.toNat_natCast, ← List.map_drop] at ld11
        refine catL g5.rest (ld10.same g5.same) ld11 (by rw [List.length_append, List.length_map, List.length_map, List.length_singleton]; omega) fun x12 R12 H15 g6 ld12 => ?_
        have e12 : (ws.take n).map PyData.str ++ [PyData.str w0] ++ (ws.drop n).map PyData.str = (ws.take n ++ w0 :: ws.drop n).map PyData.str := by
          rw [List.map_append, List.map_cons, List.append_assoc]
          rfl
        rw [e12] at ld12
        obtain ⟨D9, rfl, eD9⟩ := ldW ld12
        have gg := g1.trans (g24.trans (g5.trans g6))
        have eS15 := gg.keep S hSp _ eS'
        have eLf15 := gg.keep Lf nLp _ eLf'
        have hR12S : R12 S = none := gg.fresh S _ eS' hRS
        refine ⟨S, rows', _, rfl, rfl, eS15, Nat.lt_of_le_of_lt (by omega : _ ≤ 20) (small1000 (by decide)), ?_⟩
        obtain ⟨gp, ep2⟩ := go_put2 (.lst (rows' ++ [V.ref D9])) (g.trans gg) hS hR12S hSp
        have n9p : D9 ≠ p := ne_of_none eD9 gg.rest.2.1
        have n9S : D9 ≠ S := ne_of_none eD9 hR12S
        refine ⟨R12, rows' ++ [V.ref D9], gp, hR12S, ep2, by rw [upd_ne nLS]; exact eLf15, fun x hx => ?_, by rw [List.length_append, List.length_singleton]; omega, _, _, _, _, rfl⟩
        rcases List.mem_append.mp hx with hx | hx
        · exact (hrows.keep gg.keep).put x hx
        · exact ⟨D9, _, List.mem_singleton.mp hx, n9p, n9S, by rw [upd_ne n9S]; exact gg.rest.1 _ _ eD9, pw_ins hw h6 hnw n⟩
      · rintro σ H10 ⟨R', rows', g, hRS, eS', eLf', hrows, hrl', y9, y10, y11, y12, rfl⟩
        have sF : Same HC H10 := s8.trans (g.same.trans g.rest.1)
        refine ⟨_, rfl, S, rfl, ⟨_, .inl (.inl eS')⟩, for_it (walk_list (xs := rows')) (fun j σ H' => Same H10 H' ∧ ∃ y9 y10 y11 y12 : Option V, σ = [some (.ref a), some (.int (i : Nat)), some (.int c), some (.ref p), some (.str o), some (.str as), some (.ref D), some (.ref S), some (.ref Lf), y9, y10, y11, y12]) ⟨Same.refl _, _, _, _, _, rfl⟩ (fun j σ H' _ h => .inl (.inl (h.1 _ _ eS'))) ?_ ?_⟩
        · rintro j xv σ _ H11 hj ⟨s11, y9, y10, y11, y12, rfl⟩ ⟨rfl, hv⟩
          obtain ⟨D', ws', rfl, _, _, e', hw'⟩ := hrows xv (List.mem_of_getElem? hv)
          have e11 := s11 _ _ e'
          refine ⟨_, rfl, _, rfl, _, rfl, rfl, _, rfl, _, rfl, _, rfl, D', o, as, ws', rfl, .inr (.inl (.inl e11)), ho, ha, hw', fun H13 r s13 nr hpl => ?_⟩
          obtain ⟨dx, pp, ob, f1, _⟩ := id hpl
          refine ⟨r, dx, _, rfl, f1, (plF_no o as pp (by decide +kernel) (by decide +kernel) (by decide +kernel) : (plF o as pp).lookup ("faults" : Str) = none), r, o, as, ws', rfl, hpl, hw', fun H14 W s14 nW eW => ?_⟩
          refine ⟨D', W, o, as, ws', rfl, .inl (.inl ((s13.trans s14) _ _ e11)), .inl (.inl eW), hw', fun H15 s15 => ⟨_, rfl, iteF ⟨s11.trans (s13.trans (s14.trans s15)), _, _, _, _, rfl⟩⟩⟩
        · rintro σ H11 ⟨s11, y9, y10, y11, y12, rfl⟩
          exact ⟨sF.trans s11, _, _, _, _, _, _, _, _, _, _, _, _, rfl⟩
    · rintro σ Ha ⟨s6, y1, y2, y3, y4, y5, y6, y7, y8, y9, y10, y11, y12, rfl⟩
      exact q _
end
end K57

namespace K57
open PySem PySem.Spec PyProof.Rows StX L2 TL GG OO PB
theorem tup_ofV {K : PySem.W.Frag} {a : Addr} {od : Option Addr} {its : Array Value} {n : Nat} {sl : Array (Option Value)} {xs : List V} (h : K.lookup a = some ⟨.type "tuple", od, .seq its n, sl⟩) (hv : its.toList.map absV = xs.map some) (hl : xs.length ≤ 1000) : ∀ H, SqT K H a xs := fun H => by
  have r := vals_abs its.toList _ hv
  refine .inr ⟨_, its, n, h, rfl, rfl, ?_, r⟩
  have e := r.length
  simp only [Array.length_toList] at e
  exact Nat.le_of_lt (small1000 (by rw [← e]; exact hl))
theorem ns_of {P : Params} {z : Str} : ∀ (l : List DictEntry) (ks : List Str), l.map He.keyOf = He.keysIn P ks → (match l.find? (·.key.isStr z) with
      | some e => some (some e.val)
      | none => if l.any (·.refKey) then none else some none) = some (((ks.zip (l.map (·.val))).find? fun p => p.1 == z).map (·.2)) ∧ l.any (·.refKey) = false
  | [], [], _ => ⟨rfl, rfl⟩
  | [], _ :: _, h => by cases h
  | _ :: _, [], h => by cases h
  | e :: r, k :: ks, h => by
    have h1 : He.keyOf e :: r.map He.keyOf = some (k, PyData.keyHash P k) :: He.keysIn P ks := h
    injection h1 with h2 h3
    obtain ⟨i1, i2⟩ := ns_of (z := z) r ks h3
    obtain ⟨eh, ek, ev⟩ := e
    unfold He.keyOf at h2
    cases ek with
    | str x t =>
      have hx : x = k := (Prod.mk.inj (Option.some.inj h2)).1
      subst hx
      refine ⟨?_, by rw [List.any_cons, i2]; rfl⟩
      by_cases hz : (x == z) = true
      · rw [List.find?_cons_of_pos (p := fun e : DictEntry => e.key.isStr z) (show ((⟨eh, .str x t, ev⟩ : DictEntry).key.isStr z) = true from hz), List.map_cons, List.zip_cons_cons, List.find?_cons_of_pos (p := fun q : Str × Value => q.1 == z) hz]
        rfl
      · rw [List.find?_cons_of_neg (p := fun e : DictEntry => e.key.isStr z) (show ¬ ((⟨eh, .str x t, ev⟩ : DictEntry).key.isStr z) = true from hz), List.map_cons, List.zip_cons_cons, List.find?_cons_of_neg (p := fun q : Str × Value => q.1 == z) hz, List.any_cons]
        exact i1
    | _ => cases h2
theorem dc_of {K : PySem.W.Frag} {w : World} {d : Addr} {ks : List Str} {es : Array DictEntry} {n : Nat} (at_ : K.lookup d = some ⟨.type "dict", none, .dict es n, #[]⟩) (hk : es.toList.map He.keyOf = He.keysIn w.params ks) (lo : (d == sysModules) = false) : Dc K w d ks := by
  have hz : ∀ z, PySem.W.nsIn K d z = some (((ks.zip (es.toList.map (·.val))).find? fun p => p.1 == z).map (·.2)) := fun z => by
    unfold PySem.W.nsIn
    rw [at_]
    exact (ns_of (z := z) es.toList ks hk).1
  have hl : ks.length = es.toList.length := by
    have := congrArg List.length hk
    unfold He.keysIn at this
    rw [List.length_map, List.length_map] at this
    exact this.symm
  refine ⟨⟨es, n, at_, He.keysLit_of hk, lo⟩, fun z h => ?_, fun z h => ?_⟩
  · rw [hz z]
    have : (ks.zip (es.toList.map (·.val))).find? (fun p => p.1 == z) = none := by
      rw [List.find?_eq_none]
      intro p hp hpz
      have h1 := (List.of_mem_zip (a := p.1) (b := p.2) hp).1
      have h2 : p.1 = z := by simpa using hpz
      exact h (h2 ▸ h1)
    rw [this]
    rfl
  · rw [hz z]
    cases hf : (ks.zip (es.toList.map (·.val))).find? (fun p => p.1 == z) with
    | some p => exact ⟨p.2, rfl⟩
    | none =>
      exfalso
      rw [List.find?_eq_none] at hf
      obtain ⟨i, hi⟩ := List.getElem?_of_mem h
      have hil := (List.getElem?_eq_some_iff.mp hi).1
      have hv : (es.toList.map (·.val))[i]? = some ((es.toList[i]'(by omega)).val) := by
        rw [List.getElem?_map, List.getElem?_eq_getElem (by omega : i < es.toList.length)]
        rfl
      have hm : (z, (es.toList[i]'(by omega)).val) ∈ ks.zip (es.toList.map (·.val)) := List.mem_of_getElem? (i := i) (List.getElem?_zip_eq_some.mpr ⟨hi, hv⟩)
      exact hf _ hm (by simp)
theorem te_of {K : PySem.W.Frag} {S : Addr} (ex : PySem.W.subIn K (.ref S) (.type "BaseException") = some true) (ic : PySem.W.isClsIn K S = true) (ty : PySem.W.typeIn K (.ref S) = some (.type "type")) (ss : PySem.W.subIn K (.ref S) (.ref S) = some true) : PySem.W.exmOne K (.ref S) (.ref S) = some true := by
  have e1 : (PySem.W.subIn K (.ref S) (.type "BaseException") == some true) = true := by rw [ex] <;> rfl
  have e2 : ((PySem.W.clsIn K S).isSome && PySem.W.typeIn K (.ref S) == some (.type "type")) = true := by
    have h2' : (PySem.W.clsIn K S).isSome = true := ic
    rw [h2', ty] <;> rfl
  show (if (PySem.W.subIn K (.ref S) (.type "BaseException") == some true) = true then (if ((PySem.W.clsIn K S).isSome && PySem.W.typeIn K (.ref S) == some (.type "type")) = true then PySem.W.subIn K (.ref S) (.ref S) else none) else none) = some true
  rw [if_pos e1, if_pos e2]
  exact ss
end K57

namespace K57
open PySem PySem.Spec PyProof.Rows StX L2 TL GG OO PB
theorem all_mk {l : PySem.W.OpenLaw} {w : World} {K : PySem.W.Frag} {h : Heap} {mg : Str → Option Value} {fa : Addr} {dO dA dS tU tF U MU C sCof pCopens pCasks f1 f2 f3 f4 f5 f6 f7 f8 f9 f10 f11 f12 f13 f14 f15 f16 f17 f18 f19 f20 f21 f22 f23 f24 f25 f26 f27 f28 f29 f30 f31 : Addr} {esdO esdA esdS : Array DictEntry} {ndO ndA ndS tntU tntF : Nat} {totU totF ddU od1 an1 od2 an2 od3 an3 od4 an4 od5 an5 od6 an6 od7 an7 od8 an8 od9 an9 od10 an10 od11 an11 od12 an12 od13 an13 od14 an14 od15 an15 od16 an16 od17 an17 od18 an18 od19 an19 od20 an20 od21 an21 od22 an22 od23 an23 od24 an24 od25 an25 od26 an26 od27 an27 od28 an28 od29 an29 od30 an30 od31 an31 : Option Addr} {titU titF : Array Value} {tstU tstF sl1 sl2 sl3 sl4 sl5 sl6 sl7 sl8 sl9 sl10 sl11 sl12 sl13 sl14 sl15 sl16 sl17 sl18 sl19 sl20 sl21 sl22 sl23 sl24 sl25 sl26 sl27 sl28 sl29 sl30 sl31 : Array (Option Value)} {nnU qU : Str} {bsU subU rsCof rpCopens rpCasks : List Value} {snU : List Str} {abU : Bool} {colU : Option Bool} {u0U u1U u2U u3U u5U : Option Value} {oc1 kV1 dc1 pm1 cd1 ct1 oc2 kV2 dc2 pm2 cd2 ct2 oc3 kV3 dc3 pm3 cd3 ct3 oc4 kV4 dc4 pm4 cd4 ct4 oc5 kV5 dc5 pm5 cd5 ct5 oc6 kV6 dc6 pm6 cd6 ct6 oc7 kV7 dc7 pm7 cd7 ct7 oc8 kV8 dc8 pm8 cd8 ct8 oc9 kV9 dc9 pm9 cd9 ct9 oc10 kV10 dc10 pm10 cd10 ct10 oc11 kV11 dc11 pm11 cd11 ct11 oc12 kV12 dc12 pm12 cd12 ct12 oc13 kV13 dc13 pm13 cd13 ct13 oc14 kV14 dc14 pm14 cd14 ct14 oc15 kV15 dc15 pm15 cd15 ct15 oc16 kV16 dc16 pm16 cd16 ct16 oc17 kV17 dc17 pm17 cd17 ct17 oc18 kV18 dc18 pm18 cd18 ct18 oc19 kV19 dc19 pm19 cd19 ct19 oc20 kV20 dc20 pm20 cd20 ct20 oc21 kV21 dc21 pm21 cd21 ct21 oc22 kV22 dc22 pm22 cd22 ct22 oc23 kV23 dc23 pm23 cd23 ct23 oc24 kV24 dc24 pm24 cd24 ct24 oc25 kV25 dc25 pm25 cd25 ct25 oc26 kV26 dc26 pm26 cd26 ct26 oc27 kV27 dc27 pm27 cd27 ct27 oc28 kV28 dc28 pm28 cd28 ct28 oc29 kV29 dc29 pm29 cd29 ct29 oc30 kV30 dc30 pm30 cd30 ct30 oc31 kV31 dc31 pm31 cd31 ct31 : Value} (X : K.In h) (G : h.Ns mainGlobals mg) (hfa : mg "law" = some (.ref fa))
    (z_max : PySem.W.nsIn K mainGlobals "max" = some none)
    (z_range : PySem.W.nsIn K mainGlobals "range" = some none)
    (z_len : PySem.W.nsIn K mainGlobals "len" = some none)
    (z_int : PySem.W.nsIn K mainGlobals "int" = some none)
    (z_isinstance : PySem.W.nsIn K mainGlobals "isinstance" = some none)
    (z_str : PySem.W.nsIn K mainGlobals "str" = some none)
    (z_list : PySem.W.nsIn K mainGlobals "list" = some none)
    (z_tuple : PySem.W.nsIn K mainGlobals "tuple" = some none)
    (z_repr : PySem.W.nsIn K mainGlobals "repr" = some none)
    (z_enumerate : PySem.W.nsIn K mainGlobals "enumerate" = some none)
    (z_min : PySem.W.nsIn K mainGlobals "min" = some none)
    (z_bool : PySem.W.nsIn K mainGlobals "bool" = some none)
    (z_any : PySem.W.nsIn K mainGlobals "any" = some none)
    (z_all : PySem.W.nsIn K mainGlobals "all" = some none)
    (z_sorted : PySem.W.nsIn K mainGlobals "sorted" = some none)
    (y_dO : PySem.W.nsIn K mainGlobals "_OPENS" = some (some (.ref dO)))
    (x_dO : K.lookup dO = some ⟨.type "dict", none, .dict esdO ndO, #[]⟩)
    (q_dO : esdO.toList.map He.keyOf = He.keysIn w.params wOps)
    (lo_dO : (dO == sysModules) = false)
    (y_dA : PySem.W.nsIn K mainGlobals "_ASKS" = some (some (.ref dA)))
    (x_dA : K.lookup dA = some ⟨.type "dict", none, .dict esdA ndA, #[]⟩)
    (q_dA : esdA.toList.map He.keyOf = He.keysIn w.params wAsks)
    (lo_dA : (dA == sysModules) = false)
    (y_dS : PySem.W.nsIn K mainGlobals "_STEPS" = some (some (.ref dS)))
    (x_dS : K.lookup dS = some ⟨.type "dict", none, .dict esdS ndS, #[]⟩)
    (q_dS : esdS.toList.map He.keyOf = He.keysIn w.params wPulls)
    (lo_dS : (dS == sysModules) = false)
    (y_tU : PySem.W.nsIn K mainGlobals "_USES" = some (some (.ref tU)))
    (x_tU : K.lookup tU = some ⟨.type "tuple", totU, .seq titU tntU, tstU⟩)
    (v_tU : titU.toList.map absV = (wUses.map V.str).map some)
    (y_tF : PySem.W.nsIn K mainGlobals "FAULT_WORDS" = some (some (.ref tF)))
    (x_tF : K.lookup tF = some ⟨.type "tuple", totF, .seq titF tntF, tstF⟩)
    (v_tF : titF.toList.map absV = (wFlt.map V.str).map some)
    (aU : PySem.W.nsIn K mainGlobals "UnknownName" = some (some (.ref U)))
    (xU : K.lookup U = some (excClassObj nnU qU U MU bsU [.type "LookupError", .type "Exception", .type "BaseException", .type "object"] true snU subU abU colU ddU u0U u1U u2U u3U u5U "LookupError.__new__"))
    (saU : PySem.W.findIn K (.ref U) "__setattr__" = some (some (.builtin "object.__setattr__")))
    (exU : PySem.W.subIn K (.ref U) (.type "BaseException") = some true)
    (tyU : PySem.W.typeIn K (.ref U) = some (.type "type"))
    (kpU : PySem.W.keepIn K (.ref U) = true)
    (noU : PySem.W.findIn K (.ref U) "name" = some none)
    (gaU : PySem.W.findIn K (.ref U) "__getattribute__" = some (some (.builtin "BaseException.__getattribute__")))
    (ggU : PySem.W.findIn K (.ref U) "__getattr__" = some none)
    (hdU : PySem.W.hasDictIn K U = true)
    (iiU : PySem.W.findIn K (.ref U) "__init__" = some (some (.ref f19)))
    (tiU : PySem.W.typeIn K (.ref f19) = some (.type "function"))
    (clU : PySem.W.findIn K (.ref U) "__class__" = some (some (.builtin "object.__class__")))
    (moU : PySem.W.mroIn K U (.type "object") = some true)
    (icU : PySem.W.isClsIn K U = true)
    (ssU : PySem.W.subIn K (.ref U) (.ref U) = some true)
    (aC : PySem.W.nsIn K mainGlobals "Plain" = some (some (.ref C)))
    (pgC : PySem.W.plainGet K C Str.empty = true)
    (hdC : PySem.W.hasDictIn K C = true)
    (poC : PySem.W.plainOver K C = true)
    (saC : PySem.W.findIn K (.ref C) "__setattr__" = some (some (.builtin "object.__setattr__")))
    (nC_opens : PySem.W.findIn K (.ref C) "_opens" = some none)
    (nC_asks : PySem.W.findIn K (.ref C) "_asks" = some none)
    (nC_pulls : PySem.W.findIn K (.ref C) "_pulls" = some none)
    (mkC : PySem.W.makesIn K C = true)
    (kpC : PySem.W.keepIn K (.ref C) = true)
    (rdC : PySem.W.readsIn K C (.type "type") = true)
    (gtC : PySem.W.specialIn K (.ref C) "__getattribute__" = some (some (.builtin "type.__getattribute__")))
    (b1sCof : PySem.W.findCls K (.ref C) (.type "type") "of" = some (.get (.builtin "staticmethod.__get__") (.ref sCof) .none (.ref C)))
    (b2sCof : PySem.W.recIn K sCof "staticmethod" = some (.ref f21 :: rsCof))
    (b1pCopens : PySem.W.findIn K (.ref C) "opens" = some (some (.ref pCopens)))
    (b2pCopens : PySem.W.specialIn K (.ref pCopens) "__get__" = some (some (.builtin "property.__get__")))
    (b3pCopens : PySem.W.takesIn K (.ref pCopens) = some true)
    (b4pCopens : PySem.W.recIn K pCopens "property" = some (.ref f30 :: rpCopens))
    (b1pCasks : PySem.W.findIn K (.ref C) "asks" = some (some (.ref pCasks)))
    (b2pCasks : PySem.W.specialIn K (.ref pCasks) "__get__" = some (some (.builtin "property.__get__")))
    (b3pCasks : PySem.W.takesIn K (.ref pCasks) = some true)
    (b4pCasks : PySem.W.recIn K pCasks "property" = some (.ref f31 :: rpCasks))
    (a1 : PySem.W.nsIn K mainGlobals "_is_pull" = some (some (.ref f1)))
    (l1 : K.lookup f1 = some ⟨oc1, od1, .func (PySem.W.fnOf "_is_pull" "_is_pull" (defArgs s_is_pull) (defBody s_is_pull) (defScope s_is_pull) .none kV1 dc1 pm1 an1 cd1 ct1), sl1⟩)
    (c1 : PySem.W.codeIn K cd1 "_is_pull" = true)
    (k1 : PySem.W.keepIn K (.ref f1) = true)
    (a2 : PySem.W.nsIn K mainGlobals "_is_touched" = some (some (.ref f2)))
    (l2 : K.lookup f2 = some ⟨oc2, od2, .func (PySem.W.fnOf "_is_touched" "_is_touched" (defArgs s_is_touched) (defBody s_is_touched) (defScope s_is_touched) .none kV2 dc2 pm2 an2 cd2 ct2), sl2⟩)
    (c2 : PySem.W.codeIn K cd2 "_is_touched" = true)
    (k2 : PySem.W.keepIn K (.ref f2) = true)
    (a3 : PySem.W.nsIn K mainGlobals "_is_touched_locked" = some (some (.ref f3)))
    (l3 : K.lookup f3 = some ⟨oc3, od3, .func (PySem.W.fnOf "_is_touched_locked" "_is_touched_locked" (defArgs s_is_touched_locked) (defBody s_is_touched_locked) (defScope s_is_touched_locked) .none kV3 dc3 pm3 an3 cd3 ct3), sl3⟩)
    (c3 : PySem.W.codeIn K cd3 "_is_touched_locked" = true)
    (k3 : PySem.W.keepIn K (.ref f3) = true)
    (a4 : PySem.W.nsIn K mainGlobals "_spans_around_wait" = some (some (.ref f4)))
    (l4 : K.lookup f4 = some ⟨oc4, od4, .func (PySem.W.fnOf "_spans_around_wait" "_spans_around_wait" (defArgs s_spans_around_wait) (defBody s_spans_around_wait) (defScope s_spans_around_wait) .none kV4 dc4 pm4 an4 cd4 ct4), sl4⟩)
    (c4 : PySem.W.codeIn K cd4 "_spans_around_wait" = true)
    (k4 : PySem.W.keepIn K (.ref f4) = true)
    (a5 : PySem.W.nsIn K mainGlobals "_is_touched_between" = some (some (.ref f5)))
    (l5 : K.lookup f5 = some ⟨oc5, od5, .func (PySem.W.fnOf "_is_touched_between" "_is_touched_between" (defArgs s_is_touched_between) (defBody s_is_touched_between) (defScope s_is_touched_between) .none kV5 dc5 pm5 an5 cd5 ct5), sl5⟩)
    (c5 : PySem.W.codeIn K cd5 "_is_touched_between" = true)
    (k5 : PySem.W.keepIn K (.ref f5) = true)
    (a6 : PySem.W.nsIn K mainGlobals "_is_used" = some (some (.ref f6)))
    (l6 : K.lookup f6 = some ⟨oc6, od6, .func (PySem.W.fnOf "_is_used" "_is_used" (defArgs s_is_used) (defBody s_is_used) (defScope s_is_used) .none kV6 dc6 pm6 an6 cd6 ct6), sl6⟩)
    (c6 : PySem.W.codeIn K cd6 "_is_used" = true)
    (k6 : PySem.W.keepIn K (.ref f6) = true)
    (a7 : PySem.W.nsIn K mainGlobals "_is_stuck" = some (some (.ref f7)))
    (l7 : K.lookup f7 = some ⟨oc7, od7, .func (PySem.W.fnOf "_is_stuck" "_is_stuck" (defArgs s_is_stuck) (defBody s_is_stuck) (defScope s_is_stuck) .none kV7 dc7 pm7 an7 cd7 ct7), sl7⟩)
    (c7 : PySem.W.codeIn K cd7 "_is_stuck" = true)
    (k7 : PySem.W.keepIn K (.ref f7) = true)
    (a8 : PySem.W.nsIn K mainGlobals "_is_empty_locked" = some (some (.ref f8)))
    (l8 : K.lookup f8 = some ⟨oc8, od8, .func (PySem.W.fnOf "_is_empty_locked" "_is_empty_locked" (defArgs s_is_empty_locked) (defBody s_is_empty_locked) (defScope s_is_empty_locked) .none kV8 dc8 pm8 an8 cd8 ct8), sl8⟩)
    (c8 : PySem.W.codeIn K cd8 "_is_empty_locked" = true)
    (k8 : PySem.W.keepIn K (.ref f8) = true)
    (a9 : PySem.W.nsIn K mainGlobals "_is_pulled_behind_let" = some (some (.ref f9)))
    (l9 : K.lookup f9 = some ⟨oc9, od9, .func (PySem.W.fnOf "_is_pulled_behind_let" "_is_pulled_behind_let" (defArgs s_is_pulled_behind_let) (defBody s_is_pulled_behind_let) (defScope s_is_pulled_behind_let) .none kV9 dc9 pm9 an9 cd9 ct9), sl9⟩)
    (c9 : PySem.W.codeIn K cd9 "_is_pulled_behind_let" = true)
    (k9 : PySem.W.keepIn K (.ref f9) = true)
    (a10 : PySem.W.nsIn K mainGlobals "_law_numbers" = some (some (.ref f10)))
    (l10 : K.lookup f10 = some ⟨oc10, od10, .func (PySem.W.fnOf "_law_numbers" "_law_numbers" (defArgs s_l_numbers) (defBody s_l_numbers) (defScope s_l_numbers) .none kV10 dc10 pm10 an10 cd10 ct10), sl10⟩)
    (c10 : PySem.W.codeIn K cd10 "_law_numbers" = true)
    (k10 : PySem.W.keepIn K (.ref f10) = true)
    (a11 : PySem.W.nsIn K mainGlobals "_law_pool" = some (some (.ref f11)))
    (l11 : K.lookup f11 = some ⟨oc11, od11, .func (PySem.W.fnOf "_law_pool" "_law_pool" (defArgs s_l_pool) (defBody s_l_pool) (defScope s_l_pool) .none kV11 dc11 pm11 an11 cd11 ct11), sl11⟩)
    (c11 : PySem.W.codeIn K cd11 "_law_pool" = true)
    (k11 : PySem.W.keepIn K (.ref f11) = true)
    (a12 : PySem.W.nsIn K mainGlobals "_law_draw" = some (some (.ref f12)))
    (l12 : K.lookup f12 = some ⟨oc12, od12, .func (PySem.W.fnOf "_law_draw" "_law_draw" (defArgs s_l_draw) (defBody s_l_draw) (defScope s_l_draw) .none kV12 dc12 pm12 an12 cd12 ct12), sl12⟩)
    (c12 : PySem.W.codeIn K cd12 "_law_draw" = true)
    (k12 : PySem.W.keepIn K (.ref f12) = true)
    (a13 : PySem.W.nsIn K mainGlobals "_law_pick" = some (some (.ref f13)))
    (l13 : K.lookup f13 = some ⟨oc13, od13, .func (PySem.W.fnOf "_law_pick" "_law_pick" (defArgs s_l_pick) (defBody s_l_pick) (defScope s_l_pick) .none kV13 dc13 pm13 an13 cd13 ct13), sl13⟩)
    (c13 : PySem.W.codeIn K cd13 "_law_pick" = true)
    (k13 : PySem.W.keepIn K (.ref f13) = true)
    (a14 : PySem.W.nsIn K mainGlobals "_law_pull_words" = some (some (.ref f14)))
    (l14 : K.lookup f14 = some ⟨oc14, od14, .func (PySem.W.fnOf "_law_pull_words" "_law_pull_words" (defArgs s_l_pull_words) (defBody s_l_pull_words) (defScope s_l_pull_words) .none kV14 dc14 pm14 an14 cd14 ct14), sl14⟩)
    (c14 : PySem.W.codeIn K cd14 "_law_pull_words" = true)
    (k14 : PySem.W.keepIn K (.ref f14) = true)
    (a15 : PySem.W.nsIn K mainGlobals "_law_kinds" = some (some (.ref f15)))
    (l15 : K.lookup f15 = some ⟨oc15, od15, .func (PySem.W.fnOf "_law_kinds" "_law_kinds" (defArgs s_l_kinds) (defBody s_l_kinds) (defScope s_l_kinds) .none kV15 dc15 pm15 an15 cd15 ct15), sl15⟩)
    (c15 : PySem.W.codeIn K cd15 "_law_kinds" = true)
    (k15 : PySem.W.keepIn K (.ref f15) = true)
    (a16 : PySem.W.nsIn K mainGlobals "_law_in_order" = some (some (.ref f16)))
    (l16 : K.lookup f16 = some ⟨oc16, od16, .func (PySem.W.fnOf "_law_in_order" "_law_in_order" (defArgs s_l_in_order) (defBody s_l_in_order) (defScope s_l_in_order) .none kV16 dc16 pm16 an16 cd16 ct16), sl16⟩)
    (c16 : PySem.W.codeIn K cd16 "_law_in_order" = true)
    (k16 : PySem.W.keepIn K (.ref f16) = true)
    (a17 : PySem.W.nsIn K mainGlobals "_law_known_right" = some (some (.ref f17)))
    (l17 : K.lookup f17 = some ⟨oc17, od17, .func (PySem.W.fnOf "_law_known_right" "_law_known_right" (defArgs s_l_known_right) (defBody s_l_known_right) (defScope s_l_known_right) .none kV17 dc17 pm17 an17 cd17 ct17), sl17⟩)
    (c17 : PySem.W.codeIn K cd17 "_law_known_right" = true)
    (k17 : PySem.W.keepIn K (.ref f17) = true)
    (a18 : PySem.W.nsIn K mainGlobals "law" = some (some (.ref f18)))
    (l18 : K.lookup f18 = some ⟨oc18, od18, .func (PySem.W.fnOf "law" "law" (defArgs s_law) (defBody s_law) (defScope s_law) .none kV18 dc18 pm18 an18 cd18 ct18), sl18⟩)
    (c18 : PySem.W.codeIn K cd18 "law" = true)
    (k18 : PySem.W.keepIn K (.ref f18) = true)
    (l19 : K.lookup f19 = some ⟨oc19, od19, .func (PySem.W.fnOf "__init__" "UnknownName.__init__" (defArgs sUN_init) (defBody sUN_init) (defScope sUN_init) .none kV19 dc19 pm19 an19 cd19 ct19), sl19⟩)
    (c19 : PySem.W.codeIn K cd19 "UnknownName.__init__" = true)
    (k19 : PySem.W.keepIn K (.ref f19) = true)
    (a20 : PySem.W.findIn K (.ref C) "__init__" = some (some (.ref f20)))
    (i20 : PySem.W.isFn K (.ref f20) = true)
    (fn20 : PySem.W.fnIn K f20 = true)
    (l20 : K.lookup f20 = some ⟨oc20, od20, .func (PySem.W.fnOf "__init__" "Plain.__init__" (defArgs sPl_init) (defBody sPl_init) (defScope sPl_init) .none kV20 dc20 pm20 an20 cd20 ct20), sl20⟩)
    (c20 : PySem.W.codeIn K cd20 "Plain.__init__" = true)
    (k20 : PySem.W.keepIn K (.ref f20) = true)
    (l21 : K.lookup f21 = some ⟨oc21, od21, .func (PySem.W.fnOf "of" "Plain.of" (defArgs sPl_of) (defBody sPl_of) (defScope sPl_of) .none kV21 dc21 pm21 an21 cd21 ct21), sl21⟩)
    (c21 : PySem.W.codeIn K cd21 "Plain.of" = true)
    (k21 : PySem.W.keepIn K (.ref f21) = true)
    (a22 : PySem.W.findIn K (.ref C) "ahead" = some (some (.ref f22)))
    (i22 : PySem.W.isFn K (.ref f22) = true)
    (fn22 : PySem.W.fnIn K f22 = true)
    (l22 : K.lookup f22 = some ⟨oc22, od22, .func (PySem.W.fnOf "ahead" "Plain.ahead" (defArgs sPl_ahead) (defBody sPl_ahead) (defScope sPl_ahead) .none kV22 dc22 pm22 an22 cd22 ct22), sl22⟩)
    (c22 : PySem.W.codeIn K cd22 "Plain.ahead" = true)
    (k22 : PySem.W.keepIn K (.ref f22) = true)
    (a23 : PySem.W.findIn K (.ref C) "behind" = some (some (.ref f23)))
    (i23 : PySem.W.isFn K (.ref f23) = true)
    (fn23 : PySem.W.fnIn K f23 = true)
    (l23 : K.lookup f23 = some ⟨oc23, od23, .func (PySem.W.fnOf "behind" "Plain.behind" (defArgs sPl_behind) (defBody sPl_behind) (defScope sPl_behind) .none kV23 dc23 pm23 an23 cd23 ct23), sl23⟩)
    (c23 : PySem.W.codeIn K cd23 "Plain.behind" = true)
    (k23 : PySem.W.keepIn K (.ref f23) = true)
    (a24 : PySem.W.findIn K (.ref C) "gaps" = some (some (.ref f24)))
    (i24 : PySem.W.isFn K (.ref f24) = true)
    (fn24 : PySem.W.fnIn K f24 = true)
    (l24 : K.lookup f24 = some ⟨oc24, od24, .func (PySem.W.fnOf "gaps" "Plain.gaps" (defArgs sPl_gaps) (defBody sPl_gaps) (defScope sPl_gaps) .none kV24 dc24 pm24 an24 cd24 ct24), sl24⟩)
    (c24 : PySem.W.codeIn K cd24 "Plain.gaps" = true)
    (k24 : PySem.W.keepIn K (.ref f24) = true)
    (a25 : PySem.W.findIn K (.ref C) "openings" = some (some (.ref f25)))
    (i25 : PySem.W.isFn K (.ref f25) = true)
    (fn25 : PySem.W.fnIn K f25 = true)
    (l25 : K.lookup f25 = some ⟨oc25, od25, .func (PySem.W.fnOf "openings" "Plain.openings" (defArgs sPl_openings) (defBody sPl_openings) (defScope sPl_openings) .none kV25 dc25 pm25 an25 cd25 ct25), sl25⟩)
    (c25 : PySem.W.codeIn K cd25 "Plain.openings" = true)
    (k25 : PySem.W.keepIn K (.ref f25) = true)
    (a26 : PySem.W.findIn K (.ref C) "_starts_behind_empty" = some (some (.ref f26)))
    (i26 : PySem.W.isFn K (.ref f26) = true)
    (fn26 : PySem.W.fnIn K f26 = true)
    (l26 : K.lookup f26 = some ⟨oc26, od26, .func (PySem.W.fnOf "_starts_behind_empty" "Plain._starts_behind_empty" (defArgs sPl_starts) (defBody sPl_starts) (defScope sPl_starts) .none kV26 dc26 pm26 an26 cd26 ct26), sl26⟩)
    (c26 : PySem.W.codeIn K cd26 "Plain._starts_behind_empty" = true)
    (k26 : PySem.W.keepIn K (.ref f26) = true)
    (a27 : PySem.W.findIn K (.ref C) "__len__" = some (some (.ref f27)))
    (i27 : PySem.W.isFn K (.ref f27) = true)
    (fn27 : PySem.W.fnIn K f27 = true)
    (l27 : K.lookup f27 = some ⟨oc27, od27, .func (PySem.W.fnOf "__len__" "Plain.__len__" (defArgs sPl_len) (defBody sPl_len) (defScope sPl_len) .none kV27 dc27 pm27 an27 cd27 ct27), sl27⟩)
    (c27 : PySem.W.codeIn K cd27 "Plain.__len__" = true)
    (k27 : PySem.W.keepIn K (.ref f27) = true)
    (a28 : PySem.W.findIn K (.ref C) "__contains__" = some (some (.ref f28)))
    (i28 : PySem.W.isFn K (.ref f28) = true)
    (fn28 : PySem.W.fnIn K f28 = true)
    (l28 : K.lookup f28 = some ⟨oc28, od28, .func (PySem.W.fnOf "__contains__" "Plain.__contains__" (defArgs sPl_contains) (defBody sPl_contains) (defScope sPl_contains) .none kV28 dc28 pm28 an28 cd28 ct28), sl28⟩)
    (c28 : PySem.W.codeIn K cd28 "Plain.__contains__" = true)
    (k28 : PySem.W.keepIn K (.ref f28) = true)
    (a29 : PySem.W.findIn K (.ref C) "faults" = some (some (.ref f29)))
    (i29 : PySem.W.isFn K (.ref f29) = true)
    (fn29 : PySem.W.fnIn K f29 = true)
    (l29 : K.lookup f29 = some ⟨oc29, od29, .func (PySem.W.fnOf "faults" "Plain.faults" (defArgs sPl_faults) (defBody sPl_faults) (defScope sPl_faults) .none kV29 dc29 pm29 an29 cd29 ct29), sl29⟩)
    (c29 : PySem.W.codeIn K cd29 "Plain.faults" = true)
    (k29 : PySem.W.keepIn K (.ref f29) = true)
    (l30 : K.lookup f30 = some ⟨oc30, od30, .func (PySem.W.fnOf "opens" "Plain.opens" (defArgs sPl_opens) (defBody sPl_opens) (defScope sPl_opens) .none kV30 dc30 pm30 an30 cd30 ct30), sl30⟩)
    (c30 : PySem.W.codeIn K cd30 "Plain.opens" = true)
    (k30 : PySem.W.keepIn K (.ref f30) = true)
    (l31 : K.lookup f31 = some ⟨oc31, od31, .func (PySem.W.fnOf "asks" "Plain.asks" (defArgs sPl_asks) (defBody sPl_asks) (defScope sPl_asks) .none kV31 dc31 pm31 an31 cd31 ct31), sl31⟩)
    (c31 : PySem.W.codeIn K cd31 "Plain.asks" = true)
    (k31 : PySem.W.keepIn K (.ref f31) = true)
    : ∃ fd : FuncData, (∀ (s : Shared) (v : Value), BindsTo s fd ⟨[v], []⟩ [("_law_script", v)]) ∧ ∀ base : Heap, K.In base → base.Ns mainGlobals mg → FnOk l.prog w K mg base CX0 12 fa fd ["_law_script"] (spLaw K) := by
  have e := hfa.symm.trans (PySem.W.mg_of X G a18)
  cases e
  have T : Txt K w mg dO dA dS := { m_max := PySem.W.mg_none_of X G z_max, m_range := PySem.W.mg_none_of X G z_range, m_len := PySem.W.mg_none_of X G z_len, m_int := PySem.W.mg_none_of X G z_int, m_isinstance := PySem.W.mg_none_of X G z_isinstance, m_str := PySem.W.mg_none_of X G z_str, m_list := PySem.W.mg_none_of X G z_list, m_tuple := PySem.W.mg_none_of X G z_tuple, m_repr := PySem.W.mg_none_of X G z_repr, m_enumerate := PySem.W.mg_none_of X G z_enumerate, m_min := PySem.W.mg_none_of X G z_min, m_bool := PySem.W.mg_none_of X G z_bool, m_any := PySem.W.mg_none_of X G z_any, m_all := PySem.W.mg_none_of X G z_all, m_sorted := PySem.W.mg_none_of X G z_sorted, c_OPENS := PySem.W.mg_of X G y_dO, c_ASKS := PySem.W.mg_of X G y_dA, c_STEPS := PySem.W.mg_of X G y_dS, k_OPENS := dc_of x_dO q_dO lo_dO, k_ASKS := dc_of x_dA q_dA lo_dA, k_STEPS := dc_of x_dS q_dS lo_dS }
  have U7 : Txt7 K mg tU := ⟨PySem.W.mg_of X G y_tU, tup_ofV x_tU v_tU (by decide)⟩
  have TF : TxtF mg K tF := ⟨PySem.W.mg_of X G y_tF, tup_ofV x_tF v_tF (by decide)⟩
  have TU : ExB K mg "UnknownName" U f19 := { g := PySem.W.mg_of X G aU, cls := ⟨_, _, _, _, _, _, _, _, _, _, _, _, _, _, _, _, _, _, _, xU, (rfl : PySem.W.excTail [.type "LookupError", .type "Exception", .type "BaseException", .type "object"] _ = true), PySem.F.excBase_LookupError, fun self => PySem.F.store_LookupError.passes self, by decide⟩, sa := saU, ex := exU, kC := kpU, ga := gaU, gg := ggU, hd := hdU, i := iiU, t := tiU, cl := clU, mo := moU }
  have EU : XfC K U := ⟨gaU, ggU, exU, hdU⟩
  have teU : PySem.W.exmOne K (.ref U) (.ref U) = some true := te_of exU icU tyU ssU
  have clC : Cls K C := ⟨pgC, hdC, poC, saC⟩
  have MC : Mk K C f20 := ⟨mkC, a20, i20, kpC⟩
  have RDC : ClX.CRead K C (.type "type") := ⟨rdC, gtC⟩
  have SM_pl_of : SMet K C (.type "type") "of" sCof f21 := ⟨b1sCof, ⟨_, b2sCof⟩, k21⟩
  have PP_pl_opens : PropOf K C "opens" pCopens f30 := ⟨b1pCopens, b2pCopens, b3pCopens, ⟨_, b4pCopens⟩⟩
  have PP_pl_asks : PropOf K C "asks" pCasks f31 := ⟨b1pCasks, b2pCasks, b3pCasks, ⟨_, b4pCasks⟩⟩
  have F_is_pull := fun_mk (st := s_is_pull) l1 c1 k1
  have b_is_pull := F_is_pull.binds (ps := ["value"]) fun _ _ _ _ _ _ us hl => match us, hl with | [_], _ => rfl
  have g_is_pull := PySem.W.mg_of X G a1
  have F_is_touched := fun_mk (st := s_is_touched) l2 c2 k2
  have b_is_touched := F_is_touched.binds (ps := ["plain"]) fun _ _ _ _ _ _ us hl => match us, hl with | [_], _ => rfl
  have g_is_touched := PySem.W.mg_of X G a2
  have F_is_touched_locked := fun_mk (st := s_is_touched_locked) l3 c3 k3
  have b_is_touched_locked := F_is_touched_locked.binds (ps := ["plain", "opening", "gap"]) fun _ _ _ _ _ _ us hl => match us, hl with | [_, _, _], _ => rfl
  have g_is_touched_locked := PySem.W.mg_of X G a3
  have F_spans_around_wait := fun_mk (st := s_spans_around_wait) l4 c4 k4
  have b_spans_around_wait := F_spans_around_wait.binds (ps := ["plain", "opening"]) fun _ _ _ _ _ _ us hl => match us, hl with | [_, _], _ => rfl
  have g_spans_around_wait := PySem.W.mg_of X G a4
  have F_is_touched_between := fun_mk (st := s_is_touched_between) l5 c5 k5
  have b_is_touched_between := F_is_touched_between.binds (ps := ["plain", "opening", "span"]) fun _ _ _ _ _ _ us hl => match us, hl with | [_, _, _], _ => rfl
  have g_is_touched_between := PySem.W.mg_of X G a5
  have F_is_used := fun_mk (st := s_is_used) l6 c6 k6
  have b_is_used := F_is_used.binds (ps := ["plain"]) fun _ _ _ _ _ _ us hl => match us, hl with | [_], _ => rfl
  have g_is_used := PySem.W.mg_of X G a6
  have F_is_stuck := fun_mk (st := s_is_stuck) l7 c7 k7
  have b_is_stuck := F_is_stuck.binds (ps := ["plain"]) fun _ _ _ _ _ _ us hl => match us, hl with | [_], _ => rfl
  have g_is_stuck := PySem.W.mg_of X G a7
  have F_is_empty_locked := fun_mk (st := s_is_empty_locked) l8 c8 k8
  have b_is_empty_locked := F_is_empty_locked.binds (ps := ["plain"]) fun _ _ _ _ _ _ us hl => match us, hl with | [_], _ => rfl
  have g_is_empty_locked := PySem.W.mg_of X G a8
  have F_is_pulled_behind_let := fun_mk (st := s_is_pulled_behind_let) l9 c9 k9
  have b_is_pulled_behind_let := F_is_pulled_behind_let.binds (ps := ["plain", "words"]) fun _ _ _ _ _ _ us hl => match us, hl with | [_, _], _ => rfl
  have g_is_pulled_behind_let := PySem.W.mg_of X G a9
  have F_l_numbers := fun_mk (st := s_l_numbers) l10 c10 k10
  have b_l_numbers := F_l_numbers.binds (ps := ["_law_cell", "_law_salt", "_law_sizes"]) fun _ _ _ _ _ _ us hl => match us, hl with | [_, _, _], _ => rfl
  have g_l_numbers := PySem.W.mg_of X G a10
  have F_l_pool := fun_mk (st := s_l_pool) l11 c11 k11
  have b_l_pool := F_l_pool.binds (ps := ["_law_cell", "_law_salt", "_law_many"]) fun _ _ _ _ _ _ us hl => match us, hl with | [_, _, _], _ => rfl
  have g_l_pool := PySem.W.mg_of X G a11
  have F_l_draw := fun_mk (st := s_l_draw) l12 c12 k12
  have b_l_draw := F_l_draw.binds (ps := ["_law_pool_here", "_law_many"]) fun _ _ _ _ _ _ us hl => match us, hl with | [_, _], _ => rfl
  have g_l_draw := PySem.W.mg_of X G a12
  have F_l_pick := fun_mk (st := s_l_pick) l13 c13 k13
  have b_l_pick := F_l_pick.binds (ps := ["_law_pool_here", "_law_some"]) fun _ _ _ _ _ _ us hl => match us, hl with | [_, _], _ => rfl
  have g_l_pick := PySem.W.mg_of X G a13
  have F_l_pull_words := fun_mk (st := s_l_pull_words) l14 c14 k14
  have b_l_pull_words := F_l_pull_words.binds (ps := ["_law_pool_here"]) fun _ _ _ _ _ _ us hl => match us, hl with | [_], _ => rfl
  have g_l_pull_words := PySem.W.mg_of X G a14
  have F_l_kinds := fun_mk (st := s_l_kinds) l15 c15 k15
  have b_l_kinds := F_l_kinds.binds (ps := ["_law_pool_here"]) fun _ _ _ _ _ _ us hl => match us, hl with | [_], _ => rfl
  have g_l_kinds := PySem.W.mg_of X G a15
  have F_l_in_order := fun_mk (st := s_l_in_order) l16 c16 k16
  have b_l_in_order := F_l_in_order.binds (ps := ["_law_pulls", "_law_words"]) fun _ _ _ _ _ _ us hl => match us, hl with | [_, _], _ => rfl
  have g_l_in_order := PySem.W.mg_of X G a16
  have F_l_known_right := fun_mk (st := s_l_known_right) l17 c17 k17
  have b_l_known_right := F_l_known_right.binds (ps := ["_law_opens", "_law_asks", "_law_pulls", "_law_words"]) fun _ _ _ _ _ _ us hl => match us, hl with | [_, _, _, _], _ => rfl
  have g_l_known_right := PySem.W.mg_of X G a17
  have F_law := fun_mk (st := s_law) l18 c18 k18
  have F_un_init := fun_mk (st := sUN_init) l19 c19 k19
  have b_un_init := F_un_init.binds (ps := ["self", "name"]) fun _ _ _ _ _ _ us hl => match us, hl with | [_, _], _ => rfl
  have F_pl_init := fun_mk (st := sPl_init) l20 c20 k20
  have F_pl_of := fun_mk (st := sPl_of) l21 c21 k21
  have b_pl_of := F_pl_of.binds (ps := ["opens", "asks", "pulls"]) fun _ _ _ _ _ _ us hl => match us, hl with | [_, _, _], _ => rfl
  have F_pl_ahead := fun_mk (st := sPl_ahead) l22 c22 k22
  have b_pl_ahead := F_pl_ahead.binds (ps := ["self", "word"]) fun _ _ _ _ _ _ us hl => match us, hl with | [_, _], _ => rfl
  have F_pl_behind := fun_mk (st := sPl_behind) l23 c23 k23
  have b_pl_behind := F_pl_behind.binds (ps := ["self", "word"]) fun _ _ _ _ _ _ us hl => match us, hl with | [_, _], _ => rfl
  have F_pl_gaps := fun_mk (st := sPl_gaps) l24 c24 k24
  have b_pl_gaps := F_pl_gaps.binds (ps := ["self"]) fun _ _ _ _ _ _ us hl => match us, hl with | [_], _ => rfl
  have F_pl_openings := fun_mk (st := sPl_openings) l25 c25 k25
  have b_pl_openings := F_pl_openings.binds (ps := ["self"]) fun _ _ _ _ _ _ us hl => match us, hl with | [_], _ => rfl
  have F_pl_starts := fun_mk (st := sPl_starts) l26 c26 k26
  have b_pl_starts := F_pl_starts.binds (ps := ["self"]) fun _ _ _ _ _ _ us hl => match us, hl with | [_], _ => rfl
  have F_pl_len := fun_mk (st := sPl_len) l27 c27 k27
  have b_pl_len := F_pl_len.binds (ps := ["self"]) fun _ _ _ _ _ _ us hl => match us, hl with | [_], _ => rfl
  have F_pl_contains := fun_mk (st := sPl_contains) l28 c28 k28
  have b_pl_contains := F_pl_contains.binds (ps := ["self", "value"]) fun _ _ _ _ _ _ us hl => match us, hl with | [_, _], _ => rfl
  have F_pl_faults := fun_mk (st := sPl_faults) l29 c29 k29
  have b_pl_faults := F_pl_faults.binds (ps := ["self"]) fun _ _ _ _ _ _ us hl => match us, hl with | [_], _ => rfl
  have F_pl_opens := fun_mk (st := sPl_opens) l30 c30 k30
  have b_pl_opens := F_pl_opens.binds (ps := ["self"]) fun _ _ _ _ _ _ us hl => match us, hl with | [_], _ => rfl
  have F_pl_asks := fun_mk (st := sPl_asks) l31 c31 k31
  have b_pl_asks := F_pl_asks.binds (ps := ["self"]) fun _ _ _ _ _ _ us hl => match us, hl with | [_], _ => rfl
  have CT : ClT K mg C := ⟨PySem.W.mg_of X G aC, clC, nC_opens, nC_asks, nC_pulls⟩
  have M_ahead : Meth K C "ahead" f22 := ⟨a22, i22, k22⟩
  have M_behind : Meth K C "behind" f23 := ⟨a23, i23, k23⟩
  have M_gaps : Meth K C "gaps" f24 := ⟨a24, i24, k24⟩
  have M_openings : Meth K C "openings" f25 := ⟨a25, i25, k25⟩
  have M_starts : Meth K C "_starts_behind_empty" f26 := ⟨a26, i26, k26⟩
  have M_faults : Meth K C "faults" f29 := ⟨a29, i29, k29⟩
  refine ⟨PySem.W.fnOf "law" "law" (defArgs s_law) (defBody s_law) (defScope s_law) .none kV18 dc18 pm18 an18 cd18 ct18, fun s v => .of_eq rfl, fun base _ _ => ?_⟩
  have G_is_pull : FnOk l.prog w K mg base CX0 1 f1 _ ["value"] ((spIsPull K)) := ok_is_pull F_is_pull T
  have G_un_init : FnOk l.prog w K mg base CX0 1 f19 _ ["self", "name"] (spExI U "name") := ok_un_init F_un_init TU noU
  have G_pl_init : FnR l.prog w K mg base (L2.CX l.prog w) 3 f20 (spStar 3 (spPlI C)) := ok_pl_init F_pl_init T CT F_is_pull b_is_pull g_is_pull G_is_pull
  have G_pl_of : FnOk l.prog w K mg base CX0 5 f21 _ ["opens", "asks", "pulls"] ((spPlOf K C)) := ok_pl_of F_pl_of CT MC G_pl_init
  have R_pl_of := (G_pl_of.raw b_pl_of .nil).imp fun vs H Q E h => by rw [List.append_nil]; exact h
  have G_pl_ahead : FnOk l.prog w K mg base (L2.CX l.prog w) 3 f22 _ ["self", "word"] ((spAh K C U 0)) := ok_pl_ahead F_pl_ahead T CT F_is_pull b_is_pull g_is_pull G_is_pull TU tyU b_un_init G_un_init
  have G_pl_behind : FnOk l.prog w K mg base (L2.CX l.prog w) 4 f23 _ ["self", "word"] ((spAh K C U 1)) := ok_pl_behind F_pl_behind CT M_ahead b_pl_ahead G_pl_ahead
  have G_pl_gaps : FnOk l.prog w K mg base CX0 5 f24 _ ["self"] ((spPs K C fun _ ws => gapsOf ws)) := ok_pl_gaps F_pl_gaps T CT M_ahead b_pl_ahead G_pl_ahead M_behind b_pl_behind G_pl_behind
  have G_pl_starts : FnOk l.prog w K mg base CX0 6 f26 _ ["self"] ((spSt K C)) := ok_pl_starts F_pl_starts T CT M_ahead b_pl_ahead G_pl_ahead M_behind b_pl_behind G_pl_behind M_gaps b_pl_gaps G_pl_gaps
  have G_pl_openings : FnOk l.prog w K mg base CX0 7 f25 _ ["self"] ((spPs K C opsOf)) := ok_pl_openings F_pl_openings T CT M_ahead b_pl_ahead G_pl_ahead M_starts b_pl_starts G_pl_starts
  have G_pl_opens : FnOk l.prog w K mg base CX0 1 f30 _ ["self"] (getSp C "_opens") := ok_pl_opens F_pl_opens CT
  have G_pl_asks : FnOk l.prog w K mg base CX0 1 f31 _ ["self"] (getSp C "_asks") := ok_pl_asks F_pl_asks CT
  have G_pl_len : FnOk l.prog w K mg base CX0 1 f27 _ ["self"] ((spLenP C)) := ok_pl_len F_pl_len T CT
  have R_pl_len := (G_pl_len.raw b_pl_len .nil).imp fun vs H Q E h => by rw [List.append_nil]; exact h
  have G_pl_contains : FnOk l.prog w K mg base CX0 2 f28 _ ["self", "value"] ((spCont K C)) := ok_pl_contains F_pl_contains T CT F_is_pull b_is_pull g_is_pull G_is_pull
  have R_pl_contains := (G_pl_contains.raw b_pl_contains .nil).imp fun vs H Q E h => by rw [List.append_nil]; exact h
  have M : PlM l.prog w K mg base C U := ⟨clC, ⟨_, _, _, PP_pl_opens, b_pl_opens, G_pl_opens⟩, ⟨_, _, _, PP_pl_asks, b_pl_asks, G_pl_asks⟩, ⟨_, a27, i27, R_pl_len⟩, ⟨_, a28, i28, R_pl_contains⟩, ⟨_, _, M_ahead, b_pl_ahead, G_pl_ahead⟩, ⟨_, _, M_behind, b_pl_behind, G_pl_behind⟩, ⟨_, _, M_gaps, b_pl_gaps, G_pl_gaps⟩, ⟨_, _, M_openings, b_pl_openings, G_pl_openings⟩⟩
  have G_is_touched_locked : FnOk l.prog w K mg base CX0 6 f3 _ ["plain", "opening", "gap"] ((spTL K C)) := ok_is_touched_locked F_is_touched_locked T M
  have G_spans_around_wait : FnOk l.prog w K mg base CX0 6 f4 _ ["plain", "opening"] ((spSpans K C)) := ok_spans_around_wait F_spans_around_wait T M
  have G_is_touched_between : FnOk l.prog w K mg base CX0 6 f5 _ ["plain", "opening", "span"] ((spTB K C)) := ok_is_touched_between F_is_touched_between T M
  have G_is_touched : FnOk l.prog w K mg base CX0 9 f2 _ ["plain"] ((spB K C tch)) := ok_is_touched F_is_touched T M F_is_touched_locked b_is_touched_locked g_is_touched_locked G_is_touched_locked F_is_touched_between b_is_touched_between g_is_touched_between G_is_touched_between F_spans_around_wait b_spans_around_wait g_spans_around_wait G_spans_around_wait
  have G_is_pulled_behind_let : FnOk l.prog w K mg base CX0 6 f9 _ ["plain", "words"] ((spBL K C)) := ok_is_pulled_behind_let F_is_pulled_behind_let T M
  have G_is_empty_locked : FnOk l.prog w K mg base CX0 6 f8 _ ["plain"] ((spB0 C fun _ _ ws => emptyL ws)) := ok_is_empty_locked F_is_empty_locked T M
  have G_is_used : FnOk l.prog w K mg base CX0 7 f6 _ ["plain"] ((spB K C fun o _ ws => usedB o ws)) := ok_is_used F_is_used T M U7 F_is_pulled_behind_let b_is_pulled_behind_let g_is_pulled_behind_let G_is_pulled_behind_let
  have G_is_stuck : FnOk l.prog w K mg base CX0 8 f7 _ ["plain"] ((spB K C stuckB)) := ok_is_stuck F_is_stuck T M U7 F_is_pulled_behind_let b_is_pulled_behind_let g_is_pulled_behind_let G_is_pulled_behind_let F_is_empty_locked b_is_empty_locked g_is_empty_locked G_is_empty_locked
  have G_pl_faults : FnOk l.prog w K mg base CX0 10 f29 _ ["self"] ((spFlt K C)) := ok_pl_faults F_pl_faults T CT TF F_is_touched b_is_touched g_is_touched G_is_touched F_is_used b_is_used g_is_used G_is_used F_is_stuck b_is_stuck g_is_stuck G_is_stuck
  have G_l_numbers : FnOk l.prog w K mg base CX0 1 f10 _ ["_law_cell", "_law_salt", "_law_sizes"] ((spNum K)) := ok_num F_l_numbers T.m_max T.m_range T.m_len
  have G_l_pool : FnOk l.prog w K mg base CX0 2 f11 _ ["_law_cell", "_law_salt", "_law_many"] ((spPool K)) := ok_l_pool F_l_pool T.toBlt F_l_numbers b_l_numbers g_l_numbers G_l_numbers
  have G_l_draw : FnOk l.prog w K mg base CX0 1 f12 _ ["_law_pool_here", "_law_many"] ((spDraw K)) := ok_l_draw F_l_draw T.toBlt
  have G_l_pick : FnOk l.prog w K mg base CX0 2 f13 _ ["_law_pool_here", "_law_some"] ((spPick K)) := ok_l_pick F_l_pick T.toBlt F_l_draw b_l_draw g_l_draw G_l_draw
  have G_l_pull_words : FnOk l.prog w K mg base CX0 2 f14 _ ["_law_pool_here"] ((spPullW K)) := ok_l_pull_words F_l_pull_words T F_l_draw b_l_draw g_l_draw G_l_draw
  have G_l_kinds : FnOk l.prog w K mg base CX0 3 f15 _ ["_law_pool_here"] ((spKinds K)) := ok_l_kinds F_l_kinds T F_l_pick b_l_pick g_l_pick G_l_pick
  have G_l_in_order : FnOk l.prog w K mg base CX0 1 f16 _ ["_law_pulls", "_law_words"] ((spIO K)) := ok_l_in_order F_l_in_order T
  have G_l_known_right : FnOk l.prog w K mg base CX0 3 f17 _ ["_law_opens", "_law_asks", "_law_pulls", "_law_words"] ((spKnown K)) := ok_l_known_right F_l_known_right T F_l_in_order b_l_in_order g_l_in_order G_l_in_order
  exact ok_l_law F_law T CT F_l_pool b_l_pool g_l_pool G_l_pool F_l_kinds b_l_kinds g_l_kinds G_l_kinds F_l_pull_words b_l_pull_words g_l_pull_words G_l_pull_words F_l_draw b_l_draw g_l_draw G_l_draw F_l_known_right b_l_known_right g_l_known_right G_l_known_right RDC SM_pl_of R_pl_of M_faults b_pl_faults G_pl_faults
theorem walk {l : PySem.W.OpenLaw} {q : Program} {loose : List Str} {XP : (Str → Option Value) → Heap → Prop} {YP : World → Heap → Prop} {d : DefRec} {K : Params → PySem.W.Frag} (hn : l.most = some 63) (hdf : d.params.defaults = [])
    (hY : ∀ (w : World) (h : Heap), YP w h → (K w.params).In h)
    (F : ∀ (w : World) (mg : Str → Option Value) (fa : Addr) (h : Heap), (K w.params).In h → h.Ns mainGlobals mg → mg d.name = some (.ref fa) →
      ∃ fd : FuncData, (∀ (s : Shared) (u : Value), BindsTo s fd ⟨[u], []⟩ [("_law_script", u)]) ∧ ∀ base : Heap, (K w.params).In base → base.Ns mainGlobals mg → FnOk l.prog w (K w.params) mg base CX0 12 fa fd ["_law_script"] (spLaw (K w.params))) :
    PySem.W.WalkO q loose XP YP l.row.toRowW d [] (fun f vs => PySem.call f vs) :=
  L2.walk_of (n := 63) (k := 12) (x := "_law_script") (CX := fun _ => CX0) (sp := fun w => spLaw (K w.params)) hn (by decide) hdf ⟨rfl, by decide, by decide⟩ hY F (fun _ _ a ns hl _ hS => ⟨a, ns, rfl, hS, hl, fun _ => rfl⟩) fun _ _ _ _ _ z => z
end K57

open PySem PySem.W PyProof.Rows in
set_option maxRecDepth 100000 in
set_option maxHeartbeats 0 in
theorem PySem.Challenge.cw_pulledout_k57_whole_plain_books_known_holds : PySem.Challenge.rw_pulledout_k57_whole_plain_books_known.Holds := by
  w_on; o_law; k_head; (case hw => w_witness2)
  k_fill
  refine K57.walk (l := PySem.Challenge.rw_pulledout_k57_whole_plain_books_known) rfl rfl (fun w h Y => PySem.W.kIn_of Y) ?F
  case F =>
    intro w mg fa h KX G hmg
    refine' K57.all_mk KX G hmg ?z_max ?z_range ?z_len ?z_int ?z_isinstance ?z_str ?z_list ?z_tuple ?z_repr ?z_enumerate ?z_min ?z_bool ?z_any ?z_all ?z_sorted ?y_dO ?x_dO ?q_dO ?lo_dO ?y_dA ?x_dA ?q_dA ?lo_dA ?y_dS ?x_dS ?q_dS ?lo_dS ?y_tU ?x_tU ?v_tU ?y_tF ?x_tF ?v_tF ?aU ?xU ?saU ?exU ?tyU ?kpU ?noU ?gaU ?ggU ?hdU ?iiU ?tiU ?clU ?moU ?icU ?ssU ?aC ?pgC ?hdC ?poC ?saC ?nC_opens ?nC_asks ?nC_pulls ?mkC ?kpC ?rdC ?gtC ?b1sCof ?b2sCof ?b1pCopens ?b2pCopens ?b3pCopens ?b4pCopens ?b1pCasks ?b2pCasks ?b3pCasks ?b4pCasks ?a1 ?l1 ?c1 ?k1 ?a2 ?l2 ?c2 ?k2 ?a3 ?l3 ?c3 ?k3 ?a4 ?l4 ?c4 ?k4 ?a5 ?l5 ?c5 ?k5 ?a6 ?l6 ?c6 ?k6 ?a7 ?l7 ?c7 ?k7 ?a8 ?l8 ?c8 ?k8 ?a9 ?l9 ?c9 ?k9 ?a10 ?l10 ?c10 ?k10 ?a11 ?l11 ?c11 ?k11 ?a12 ?l12 ?c12 ?k12 ?a13 ?l13 ?c13 ?k13 ?a14 ?l14 ?c14 ?k14 ?a15 ?l15 ?c15 ?k15 ?a16 ?l16 ?c16 ?k16 ?a17 ?l17 ?c17 ?k17 ?a18 ?l18 ?c18 ?k18 ?l19 ?c19 ?k19 ?a20 ?i20 ?fn20 ?l20 ?c20 ?k20 ?l21 ?c21 ?k21 ?a22 ?i22 ?fn22 ?l22 ?c22 ?k22 ?a23 ?i23 ?fn23 ?l23 ?c23 ?k23 ?a24 ?i24 ?fn24 ?l24 ?c24 ?k24 ?a25 ?i25 ?fn25 ?l25 ?c25 ?k25 ?a26 ?i26 ?fn26 ?l26 ?c26 ?k26 ?a27 ?i27 ?fn27 ?l27 ?c27 ?k27 ?a28 ?i28 ?fn28 ?l28 ?c28 ?k28 ?a29 ?i29 ?fn29 ?l29 ?c29 ?k29 ?l30 ?c30 ?k30 ?l31 ?c31 ?k31
    (case z_max => k_is)
    (case z_range => k_is)
    (case z_len => k_is)
    (case z_int => k_is)
    (case z_isinstance => k_is)
    (case z_str => k_is)
    (case z_list => k_is)
    (case z_tuple => k_is)
    (case z_repr => k_is)
    (case z_enumerate => k_is)
    (case z_min => k_is)
    (case z_bool => k_is)
    (case z_any => k_is)
    (case z_all => k_is)
    (case z_sorted => k_is)
    (case y_dO => k_is)
    (case x_dO => k_is)
    (case q_dO => rfl)
    (case lo_dO => rfl)
    (case y_dA => k_is)
    (case x_dA => k_is)
    (case q_dA => rfl)
    (case lo_dA => rfl)
    (case y_dS => k_is)
    (case x_dS => k_is)
    (case q_dS => rfl)
    (case lo_dS => rfl)
    (case y_tU => k_is)
    (case x_tU => k_is)
    (case v_tU => rfl)
    (case y_tF => k_is)
    (case x_tF => k_is)
    (case v_tF => rfl)
    (case aU => k_is)
    (case xU => k_is)
    (case saU => k_is)
    (case exU => k_is)
    (case tyU => k_is)
    (case kpU => k_is)
    (case noU => k_is)
    (case gaU => k_is)
    (case ggU => k_is)
    (case hdU => k_is)
    (case iiU => k_is)
    (case tiU => k_is)
    (case clU => k_is)
    (case moU => k_is)
    (case icU => k_is)
    (case ssU => first | rfl | k_is)
    (case aC => k_is)
    (case pgC => k_is)
    (case hdC => k_is)
    (case poC => k_is)
    (case saC => k_is)
    (case nC_opens => k_is)
    (case nC_asks => k_is)
    (case nC_pulls => k_is)
    (case mkC => k_is)
    (case kpC => k_is)
    (case rdC => k_is)
    (case gtC => k_is)
    (case b1sCof => k_is)
    (case b2sCof => k_is)
    (case b1pCopens => k_is)
    (case b2pCopens => k_is)
    (case b3pCopens => k_is)
    (case b4pCopens => k_is)
    (case b1pCasks => k_is)
    (case b2pCasks => k_is)
    (case b3pCasks => k_is)
    (case b4pCasks => k_is)
    (case a1 => k_is)
    (case l1 => k_is)
    (case c1 => k_is)
    (case k1 => k_is)
    (case a2 => k_is)
    (case l2 => k_is)
    (case c2 => k_is)
    (case k2 => k_is)
    (case a3 => k_is)
    (case l3 => k_is)
    (case c3 => k_is)
    (case k3 => k_is)
    (case a4 => k_is)
    (case l4 => k_is)
    (case c4 => k_is)
    (case k4 => k_is)
    (case a5 => k_is)
    (case l5 => k_is)
    (case c5 => k_is)
    (case k5 => k_is)
    (case a6 => k_is)
    (case l6 => k_is)
    (case c6 => k_is)
    (case k6 => k_is)
    (case a7 => k_is)
    (case l7 => k_is)
    (case c7 => k_is)
    (case k7 => k_is)
    (case a8 => k_is)
    (case l8 => k_is)
    (case c8 => k_is)
    (case k8 => k_is)
    (case a9 => k_is)
    (case l9 => k_is)
    (case c9 => k_is)
    (case k9 => k_is)
    (case a10 => k_is)
    (case l10 => k_is)
    (case c10 => k_is)
    (case k10 => k_is)
    (case a11 => k_is)
    (case l11 => k_is)
    (case c11 => k_is)
    (case k11 => k_is)
    (case a12 => k_is)
    (case l12 => k_is)
    (case c12 => k_is)
    (case k12 => k_is)
    (case a13 => k_is)
    (case l13 => k_is)
    (case c13 => k_is)
    (case k13 => k_is)
    (case a14 => k_is)
    (case l14 => k_is)
    (case c14 => k_is)
    (case k14 => k_is)
    (case a15 => k_is)
    (case l15 => k_is)
    (case c15 => k_is)
    (case k15 => k_is)
    (case a16 => k_is)
    (case l16 => k_is)
    (case c16 => k_is)
    (case k16 => k_is)
    (case a17 => k_is)
    (case l17 => k_is)
    (case c17 => k_is)
    (case k17 => k_is)
    (case a18 => k_is)
    (case l18 => k_is)
    (case c18 => k_is)
    (case k18 => k_is)
    (case l19 => k_is)
    (case c19 => k_is)
    (case k19 => k_is)
    (case a20 => k_is)
    (case i20 => k_is)
    (case fn20 => k_is)
    (case l20 => k_is)
    (case c20 => k_is)
    (case k20 => k_is)
    (case l21 => k_is)
    (case c21 => k_is)
    (case k21 => k_is)
    (case a22 => k_is)
    (case i22 => k_is)
    (case fn22 => k_is)
    (case l22 => k_is)
    (case c22 => k_is)
    (case k22 => k_is)
    (case a23 => k_is)
    (case i23 => k_is)
    (case fn23 => k_is)
    (case l23 => k_is)
    (case c23 => k_is)
    (case k23 => k_is)
    (case a24 => k_is)
    (case i24 => k_is)
    (case fn24 => k_is)
    (case l24 => k_is)
    (case c24 => k_is)
    (case k24 => k_is)
    (case a25 => k_is)
    (case i25 => k_is)
    (case fn25 => k_is)
    (case l25 => k_is)
    (case c25 => k_is)
    (case k25 => k_is)
    (case a26 => k_is)
    (case i26 => k_is)
    (case fn26 => k_is)
    (case l26 => k_is)
    (case c26 => k_is)
    (case k26 => k_is)
    (case a27 => k_is)
    (case i27 => k_is)
    (case fn27 => k_is)
    (case l27 => k_is)
    (case c27 => k_is)
    (case k27 => k_is)
    (case a28 => k_is)
    (case i28 => k_is)
    (case fn28 => k_is)
    (case l28 => k_is)
    (case c28 => k_is)
    (case k28 => k_is)
    (case a29 => k_is)
    (case i29 => k_is)
    (case fn29 => k_is)
    (case l29 => k_is)
    (case c29 => k_is)
    (case k29 => k_is)
    (case l30 => k_is)
    (case c30 => k_is)
    (case k30 => k_is)
    (case l31 => k_is)
    (case c31 => k_is)
    (case k31 => k_is)

