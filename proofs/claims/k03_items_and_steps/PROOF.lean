import PyProof.Rows.All
import Wide.All
import OpenK.AllK
import Wide.FinOn
import HandS.Base
import HandS.Call
import HandS.List
import HandS.Comp
import HandS.Ends
import HandS.Dict
import HandS.Iter
import HandS.Text
import HandS.Words
import HandS.IsInst
import HandS.Style
import HandS.Walk
import HandS.TupAny
import PySem.Challenge.RW_pulledout_k03_items_and_steps
set_option Elab.async false
set_option linter.all false
set_option maxRecDepth 100000
set_option maxHeartbeats 4000000
/-! The names and the integers of the program, by the hand layer. -/
namespace K03
open PySem PySem.Spec PyProof.Rows L2
/-! ### the text -/
def topS (i : Nat) : Stmt := PySem.Challenge.pw_pulledout_k03_items_and_steps.main.body.getD i (.Pass ⟨0, 0, 0, 0⟩)
abbrev sIsName : Stmt := topS 2
abbrev sIsItem : Stmt := topS 13
abbrev sIsStep : Stmt := topS 14
abbrev sIsUse : Stmt := topS 15
abbrev sWayItem : Stmt := topS 16
abbrev sHead : Stmt := topS 17
abbrev sAsk : Stmt := topS 18
abbrev sBare : Stmt := topS 19
abbrev sNamed : Stmt := topS 20
abbrev sWord : Stmt := topS 21
abbrev sNum : Stmt := topS 23
abbrev sPool : Stmt := topS 24
abbrev sDraw : Stmt := topS 25
abbrev sPick : Stmt := topS 26
abbrev slName : Stmt := topS 27
abbrev slInner : Stmt := topS 28
abbrev slItem : Stmt := topS 29
abbrev slStep : Stmt := topS 30
abbrev slUsed : Stmt := topS 31
abbrev slRight : Stmt := topS 32
abbrev slBent : Stmt := topS 33
abbrev sLaw : Stmt := topS 34
theorem scNum : FnScope ["_law_cell", "_law_salt", "_law_sizes", "_law_whole", "_law_left", "_law_result", "_law_k", "_law_one"] ["_law_cell", "_law_salt", "_law_sizes"] (defScope sNum) := ⟨rfl, rfl, rfl, by decide +kernel, rfl, by decide +kernel, by decide +kernel⟩
/-! ### heaps -/
theorem same_upd {H : Hp} {p : Addr} {o : HO} (h : H p = none) : Same H (upd H p o) := fun b x e => by
  rw [upd_ne (ne_of_none e h)]
  exact e
/-- behind a store into a new object all that stood before stands -/
theorem same_st {H H1 : Hp} {p : Addr} {o : HO} (s : Same H H1) (h : H p = none) : Same H (upd H1 p o) := fun b x e => by
  rw [upd_ne (ne_of_none e h)]
  exact s b x e
section
variable {P : Program} {w : World} {K : PySem.W.Frag} {mg : Str → Option Value} {base : Heap}
/-! ### the law's numbers -/
/-- each number lies below its size -/
def Below (zs ns : List Int) : Prop := ∀ (i : Nat) (z n : Int), zs[i]? = some z → ns[i]? = some n → 0 ≤ n ∧ n < z
def spNum (K : PySem.W.Frag) : Sp := fun vs H Q _ => ∃ (c s : Int) (a : Addr) (zs : List Int), vs = [.int c, .int s, .ref a] ∧ SqL K H a (zs.map V.int) ∧ (0 ≤ s ∧ s ≤ 100000) ∧ zs.length ≤ 1000 ∧ (∀ z ∈ zs, 0 < z ∧ z < 1000000) ∧
  ∀ (H' : Hp) (p : Addr) (ns : List Int), Same H H' → H p = none → H' p = some (.lst (ns.map V.int)) → ns.length = zs.length → Below zs ns → Q (.ref p) H'
theorem below_snoc {zs ns : List Int} {z n : Int} (h : Below zs ns) (hz : zs[ns.length]? = some z) (h0 : 0 ≤ n) (h1 : n < z) : Below zs (ns ++ [n]) := by
  intro i y m hy hm
  by_cases hi : i < ns.length
  · rw [List.getElem?_append_left hi] at hm
    exact h i y m hy hm
  · rw [List.getElem?_append_right (by omega)] at hm
    have e : i - ns.length = 0 := by
      have q := (List.getElem?_eq_some_iff.mp hm).1
      simp at q
      omega
    have ei : i = ns.length := by omega
    subst ei
    rw [e] at hm
    have em : n = m := Option.some.inj hm
    have ey : z = y := Option.some.inj (hz.symm.trans hy)
    subst em ey
    exact ⟨h0, h1⟩
theorem small_mod (x : Int) : (x % 2147483629).natAbs < 2 ^ 64 := by
  have h1 := Int.emod_nonneg x (show (2147483629 : Int) ≠ 0 by decide)
  have h2 := Int.emod_lt_of_pos x (show (0 : Int) < 2147483629 by decide)
  omega
theorem ok_num {f : Addr} {fd : FuncData} (F : Fun K "_law_numbers" "_law_numbers" sNum f fd) (mm : mg "max" = none) (mr : mg "range" = none) (ml : mg "len" = none) : FnOk P w K mg base CX0 1 f fd ["_law_cell", "_law_salt", "_law_sizes"] (spNum K) := by
  refine F.ok scNum (fun vs H Q E h => ?_) (fun cdv A outer s H vs Q E hr h => ?_)
  · obtain ⟨c, s, a, zs, rfl, _⟩ := h
    rfl
  · obtain ⟨c, sa, a, zs, rfl, hS, ⟨hs0, hs1⟩, hlen, hz, q⟩ := h
    refine ⟨_, (pss_cons (ps_set (i := 3) scNum.nd rfl (.inl rfl) (pe_callB (call_max2 rfl) (by rfl) mm (by decide +kernel) (pa_cons (pv 0) (pa_cons (pe_op op_sub (pe_un un_neg pe_int) (pv 0)) pa_nil)))) 
        (pss_cons (ps_set (i := 4) scNum.nd rfl (.inl rfl) (pv 3)) 
        (pss_cons (ps_set (i := 5) scNum.nd rfl (.inl rfl) (pe_lst pa_nil)) 
        (pss_cons (ps_for PassesOwn.never rfl (pi_range1 rfl mr (pa_cons (pe_callB call_len_seq (by rfl) ml PySem.boot_len (pa_cons (pv 2) pa_nil)) pa_nil)) (pg_name (i := 6) scNum.nd rfl (.inl rfl)) 
          (pss_one (ps_if (PW.pt (pw_and (pt_cmpR op_ge (pv 3) (pe_op op_pow pe_int pe_int) (nomark _)) (pw_and1 (pt_cmpR op_gt (pv 4) pe_int (nomark _))))) 
            (pss_cons (ps_expr (pe_bm PySem.F.plainAttrs_list PySem.F.slot_list_append PySem.F.type_list_append mt_append (pv 5) (pa_cons (pe_op op_mod (pv 4) (pe_ix ix_list (pv 2) (pv 6) (fun _ _ => rfl))) pa_nil))) 
            (pss_one (ps_set (i := 4) scNum.nd rfl (.inl rfl) (pe_op op_fdivN (pv 4) (pe_ix ix_list (pv 2) (pv 6) (fun _ _ => rfl)))))) 
            (pss_cons (ps_set (i := 7) scNum.nd rfl (.inl rfl) (pe_op op_mod (pe_op op_pow (pe_op op_add (pe_op op_add (pe_op op_mod (pv 3) pe_int) (pe_op op_mul pe_int (pv 1))) pe_int) pe_int) pe_int)) 
            (pss_cons (ps_set (i := 7) scNum.nd rfl (.inl rfl) (pe_op op_mod (pe_op op_mul (pe_op op_add (pv 7) (pe_op op_mul pe_int (pe_op op_add (pv 6) pe_int))) (pe_op op_add (pv 6) pe_int)) pe_int)) 
            (pss_cons (ps_set (i := 7) scNum.nd rfl (.inl rfl) (pe_op op_mod (pe_op op_mul (pe_op op_mod (pe_op op_pow (pv 7) pe_int) pe_int) pe_int) pe_int)) 
            (pss_one (ps_expr (pe_bm PySem.F.plainAttrs_list PySem.F.slot_list_append PySem.F.type_list_append mt_append (pv 5) (pa_cons (pe_op op_mod (pe_op op_fdivN (pv 7) pe_int) (pe_ix ix_list (pv 2) (pv 6) (fun _ _ => rfl))) pa_nil)))))))))) 
        (pss_one (ps_ret (pv 5))))))), ?_⟩
    -- whole = max(cell, -1 - cell); left = whole; result = []
    refine ⟨_, rfl, _, rfl, _, rfl, _, _, rfl, rfl, _, _, rfl, _, rfl, ?_⟩
    generalize hwh : (if -1 - c > c then -1 - c else c) = wh
    refine ⟨Nat.zero_le _, fun p hp => ?_⟩
    have s0 : Same H (upd H p (.lst [])) := same_upd hp
    refine ⟨_, rfl, a, zs.map V.int, rfl, .inl (s0.seq hS), _, rfl, by rw [List.length_map]; omega, by rw [List.length_map]; omega, for_range (lo := 0) (fun i σ H' => ∃ (left : Int) (ns : List Int) (y6 y7 : Option V), σ = [some (.int c), some (.int sa), some (.ref a), some (.int wh), some (.int left), some (.ref p), y6, y7] ∧ Same H H' ∧ H' p = some (.lst (ns.map V.int)) ∧ ns.length = i ∧ Below zs ns)
      ⟨wh, [], none, none, rfl, s0, upd_same, rfl, fun i z n _ h => by simp at h⟩ ?_ ?_⟩
    · rintro i σ H' hi ⟨left, ns, y6, y7, rfl, s1, hp1, hn, hb⟩
      have hi2 : i < zs.length := by
        rw [List.length_map] at hi
        omega
      have hzi : zs[i]? = some zs[i] := List.getElem?_eq_getElem hi2
      obtain ⟨hz0, hz1⟩ := hz zs[i] (List.getElem_mem hi2)
      have hat : atI (zs.map V.int) (0 + (i : Int)) = some (.int zs[i]) := by
        rw [Int.zero_add]
        exact atI_nat (by rw [List.getElem?_map, hzi]; rfl)
      have fin : ∀ (r : Int), 0 ≤ r → r < zs[i] → ns.length < sizeLine ∧ Same H (upd H' p (.lst (ns.map V.int ++ [V.int r]))) ∧ (upd H' p (.lst (ns.map V.int ++ [V.int r]))) p = some (.lst ((ns ++ [r]).map V.int)) ∧ (ns ++ [r]).length = i + 1 ∧ Below zs (ns ++ [r]) := fun r h0 h1 =>
        ⟨small1000 (by omega), same_st s1 hp, by rw [upd_same, List.map_append]; rfl, by rw [List.length_append, List.length_singleton, hn], below_snoc hb (by rw [hn]; exact hzi) h0 h1⟩
      refine ⟨_, rfl, _, _, rfl, rfl, ⟨by decide, by decide, by decide⟩, _, _, rfl, rfl, _, rfl, ite2 (fun _ => ⟨_, rfl, _, _, rfl, rfl, _, rfl, ite2 (fun _ => ?thn) (fun _ => ?els1)⟩) (fun _ => iteF ?els2)⟩
      case thn =>
        obtain ⟨f1, f2, f3, f4, f5⟩ := fin (left % zs[i]) (Int.emod_nonneg _ (by omega)) (Int.emod_lt_of_pos _ hz0)
        refine ⟨_, rfl, .inl ⟨rfl, _, .inl (.inl hp1)⟩, _, rfl, _, rfl, _, rfl, a, zs.map V.int, _, _, rfl, rfl, s1.seq hS, hat, _, _, rfl, rfl, hz0, p, _, _, rfl, rfl, hp1, (by rw [List.length_map]; exact f1), ?_⟩
        refine ⟨_, rfl, _, rfl, _, rfl, a, zs.map V.int, _, _, rfl, rfl, f2.seq hS, hat, _, _, rfl, rfl, ⟨by omega, by omega⟩, ?_⟩
        exact ⟨_, _, _, _, rfl, f2, f3, f4, f5⟩
      all_goals
        refine ⟨_, rfl, _, _, rfl, rfl, by show (0 : Int) < 2147483629; decide, _, rfl, _, _, rfl, rfl, .inl ⟨by decide, by decide⟩, _, _, rfl, rfl, _, _, rfl, rfl, _, _, rfl, rfl, ⟨by decide, by decide, ?b1⟩, _, _, rfl, rfl, by show (0 : Int) < 2147483647; decide, ?_⟩
        case b1 =>
          have h1 := Int.emod_nonneg wh (show (2147483629 : Int) ≠ 0 by decide)
          have h2 := Int.emod_lt_of_pos wh (show (0 : Int) < 2147483629 by decide)
          show (wh % 2147483629 + 7919 * sa + 1).natAbs < 2 ^ 64
          omega
        refine ⟨_, rfl, _, rfl, _, _, rfl, rfl, _, _, rfl, rfl, .inl ⟨by decide, by decide⟩, _, _, rfl, rfl, _, rfl, _, _, rfl, rfl, _, _, rfl, rfl, .inr ⟨?b2, ?b3⟩, _, _, rfl, rfl, by show (0 : Int) < 2147483629; decide, ?_⟩
        case b2 =>
          show -(2 ^ 64) < (0 + (i : Int)) + 3
          omega
        case b3 =>
          show (0 + (i : Int)) + 3 < 2 ^ 64
          omega
        refine ⟨_, rfl, _, _, rfl, rfl, ⟨by decide, by decide, small_mod _⟩, _, _, rfl, rfl, by show (0 : Int) < 2147483647; decide, _, _, rfl, rfl, .inr ⟨by decide, by decide⟩, _, _, rfl, rfl, by show (0 : Int) < 2147483629; decide, ?_⟩
        have fe := fun r : Int => fin (r % zs[i]) (Int.emod_nonneg _ (by omega)) (Int.emod_lt_of_pos _ hz0)
        refine ⟨_, rfl, .inl ⟨rfl, _, .inl (.inl hp1)⟩, _, rfl, _, _, rfl, rfl, ⟨by decide, by decide⟩, _, rfl, _, rfl, a, zs.map V.int, _, _, rfl, rfl, s1.seq hS, hat, _, _, rfl, rfl, hz0, p, _, _, rfl, rfl, hp1, (by rw [List.length_map]; exact (fe 0).1), ?_⟩
        exact ⟨_, _, _, _, rfl, (fe _).2.1, (fe _).2.2.1, (fe _).2.2.2.1, (fe _).2.2.2.2⟩
    · rintro σ H' ⟨left, ns, y6, y7, rfl, s1, hp1, hn, hb⟩
      exact ⟨_, rfl, q H' p ns s1 hp hp1 (by rw [hn, List.length_map]; omega) hb⟩
end
end K03

namespace K03
open PySem PySem.Spec PyProof.Rows L2 TL
/-! ### data -/
def tyName : PyData → String
  | .none => "NoneType"
  | .bool _ => "bool"
  | .int _ => "int"
  | .str _ => "str"
  | .list _ => "list"
  | .tuple _ => "tuple"
  | .dict _ => "dict"
def isTup : PyData → Bool
  | .tuple _ => true
  | _ => false
def isStr : PyData → Bool
  | .str _ => true
  | _ => false
theorem isi_tup {K : PySem.W.Frag} (d : PyData) : PySem.W.kitOne K (.type (tyName d)) (.type "tuple") = some (isTup d) := by
  cases d
  · exact kit_ty (show kitB "NoneType" "tuple" = some false by decide +kernel)
  · exact kit_ty (show kitB "bool" "tuple" = some false by decide +kernel)
  · exact kit_ty (show kitB "int" "tuple" = some false by decide +kernel)
  · exact kit_ty (show kitB "str" "tuple" = some false by decide +kernel)
  · exact kit_ty (show kitB "list" "tuple" = some false by decide +kernel)
  · exact kit_ty (show kitB "tuple" "tuple" = some true by decide +kernel)
  · exact kit_ty (show kitB "dict" "tuple" = some false by decide +kernel)
theorem isi_str {K : PySem.W.Frag} (d : PyData) : PySem.W.kitOne K (.type (tyName d)) (.type "str") = some (isStr d) := by
  cases d
  · exact kit_ty (show kitB "NoneType" "str" = some false by decide +kernel)
  · exact kit_ty (show kitB "bool" "str" = some false by decide +kernel)
  · exact kit_ty (show kitB "int" "str" = some false by decide +kernel)
  · exact kit_ty (show kitB "str" "str" = some true by decide +kernel)
  · exact kit_ty (show kitB "list" "str" = some false by decide +kernel)
  · exact kit_ty (show kitB "tuple" "str" = some false by decide +kernel)
  · exact kit_ty (show kitB "dict" "str" = some false by decide +kernel)
theorem Rd.same {H H' : Hp} {a : Addr} {o : HO} (s : Same H H') (h : Rd H a o) : Rd H' a o := by
  rcases h with h | ⟨u, h⟩
  · exact .inl (s _ _ h)
  · exact .inr ⟨u, s _ _ h⟩
theorem Same.seqT {K : PySem.W.Frag} {H H' : Hp} {a : Addr} {xs : List V} (e : Same H H') (h : SqT K H a xs) : SqT K H' a xs := by
  rcases h with h | h
  · exact .inl (Rd.same e h)
  · exact .inr h
mutual
theorem dp_same {K : PySem.W.Frag} {H H' : Hp} (e : Same H H') : ∀ (d : PyData) (v : V), Dp K H v d → Dp K H' v d
  | .none, _, h => by cases h; exact .non
  | .bool b, _, h => by cases h; exact .bl b
  | .int i, _, h => by cases h; exact .int i
  | .str x, _, h => by cases h; exact .str x
  | .list ds, _, h => by
    cases h with
    | lst hs ha => exact .lst (Same.seq e hs) (dpAll_same e ds _ ha)
  | .tuple ds, _, h => by
    cases h with
    | tup hs ha => exact .tup (Same.seqT e hs) (dpAll_same e ds _ ha)
  | .dict _, _, h => by cases h
theorem dpAll_same {K : PySem.W.Frag} {H H' : Hp} (e : Same H H') : ∀ (ds : List PyData) (vs : List V), DpAll K H vs ds → DpAll K H' vs ds
  | [], _, h => by cases h; exact .nil
  | d :: ds, _, h => by
    cases h with
    | cons h1 h2 => exact .cons (dp_same e d _ h1) (dpAll_same e ds _ h2)
end
theorem dpAll_len {K : PySem.W.Frag} {H : Hp} : ∀ {vs : List V} {ds : List PyData}, DpAll K H vs ds → vs.length = ds.length
  | _, _, .nil => rfl
  | _, _, .cons _ h => by rw [List.length_cons, List.length_cons, dpAll_len h]
theorem dpAll_get {K : PySem.W.Frag} {H : Hp} : ∀ {vs : List V} {ds : List PyData} {i : Nat} {v : V}, DpAll K H vs ds → vs[i]? = some v → ∃ d, ds[i]? = some d ∧ Dp K H v d
  | _, _, 0, _, .cons (d := d) h _, e => by
    have e : _ = _ := Option.some.inj e
    subst e
    exact ⟨d, rfl, h⟩
  | _, _, i + 1, _, .cons _ h, e => dpAll_get (i := i) h e
theorem dp_ty {K : PySem.W.Frag} {H : Hp} {v : V} {d : PyData} (h : Dp K H v d) : TyX K H v (.type (tyName d)) := by
  cases h with
  | non => exact .base .non
  | bl b => exact .base (.bl b)
  | int i => exact .base (.int i)
  | str x => exact .base (.str x)
  | lst hs _ =>
    rcases hs with (h | ⟨o, h⟩) | ⟨o, its, n, h1, h2, _⟩
    · exact .base (.lst h)
    · exact .base (.frz h)
    · exact .kList h1 h2
  | tup hs _ =>
    rcases hs with (h | ⟨o, h⟩) | ⟨o, its, n, h1, h2, _⟩
    · exact .base (.tup h)
    · exact .fTuple h
    · exact .kTuple h1 h2
mutual
/-- sane texts, nothing long -/
def okD : PyData → Bool
  | .str z => decide (z.length ≤ 1000) && z.cps.all (· < 0x110000)
  | .list ds | .tuple ds => decide (ds.length ≤ 1000) && okAll ds
  | .dict _ => false
  | _ => true
def okAll : List PyData → Bool
  | [] => true
  | d :: ds => okD d && okAll ds
end
mutual
theorem can_ok : ∀ d : PyData, okD d = true → PyData.canLay0 d = true
  | .none, _ => rfl
  | .bool _, _ => rfl
  | .int _, _ => rfl
  | .str z, h => (Bool.and_eq_true_iff.mp h).2
  | .list ds, h => canAll_ok ds (Bool.and_eq_true_iff.mp h).2
  | .tuple ds, h => canAll_ok ds (Bool.and_eq_true_iff.mp h).2
theorem canAll_ok : ∀ ds : List PyData, okAll ds = true → PyData.canLayAll0 ds = true
  | [], _ => rfl
  | d :: ds, h => by
    have h := Bool.and_eq_true_iff.mp h
    show (PyData.canLay0 d && PyData.canLayAll0 ds) = true
    rw [can_ok d h.1, canAll_ok ds h.2]
    rfl
end
theorem okAll_iff {ds : List PyData} : okAll ds = true ↔ ∀ d ∈ ds, okD d = true := by
  induction ds with
  | nil => simp [okAll]
  | cons d r ih => simp [okAll, ih]
theorem depthAll_le {ds : List PyData} {n : Nat} : PyData.depthAll ds ≤ n ↔ ∀ d ∈ ds, PyData.depth d ≤ n := by
  induction ds with
  | nil => simp [PyData.depthAll]
  | cons d r ih => simp [PyData.depthAll, ih, Nat.max_le]
def Good (n : Nat) (d : PyData) : Prop := okD d = true ∧ PyData.depth d ≤ n
theorem Good.lay {n : Nat} {d : PyData} (h : Good n d) (hn : n ≤ 64) : SeqAt.shaped d = true := by
  unfold SeqAt.shaped
  rw [Bool.and_eq_true, decide_eq_true_eq]
  exact ⟨can_ok d h.1, Nat.le_trans h.2 hn⟩
theorem Good.tup {n : Nat} {ds : List PyData} : Good (n + 1) (.tuple ds) ↔ ds.length ≤ 1000 ∧ ∀ d ∈ ds, Good n d := by
  unfold Good
  show (decide (ds.length ≤ 1000) && okAll ds) = true ∧ PyData.depthAll ds + 1 ≤ n + 1 ↔ _
  rw [Bool.and_eq_true, decide_eq_true_eq, okAll_iff, Nat.add_le_add_iff_right, depthAll_le]
  exact ⟨fun h => ⟨h.1.1, fun d hd => ⟨h.1.2 d hd, h.2 d hd⟩⟩, fun h => ⟨⟨h.1, fun d hd => (h.2 d hd).1⟩, fun d hd => (h.2 d hd).2⟩⟩
theorem Good.lst {n : Nat} {ds : List PyData} : Good (n + 1) (.list ds) ↔ ds.length ≤ 1000 ∧ ∀ d ∈ ds, Good n d := Good.tup
theorem Good.mono {n m : Nat} {d : PyData} (h : Good n d) (k : n ≤ m) : Good m d := ⟨h.1, Nat.le_trans h.2 k⟩
/-- a value that stands for the data d; or any dict -/
def Val (K : PySem.W.Frag) (H : Hp) (x : V) (d : PyData) : Prop := (Dp K H x d ∧ Good 60 d) ∨ (d = .dict [] ∧ ∃ (a : Addr) (kvs : List (Key × V)), x = .ref a ∧ H a = some (.dK kvs))
theorem Val.ty {K : PySem.W.Frag} {H : Hp} {x : V} {d : PyData} (h : Val K H x d) : TyX K H x (.type (tyName d)) := by
  rcases h with h | ⟨rfl, a, kvs, rfl, h⟩
  · exact dp_ty h.1
  · exact .base (.dK h)
theorem Val.str {K : PySem.W.Frag} {H : Hp} {x : V} {z : Str} (h : Val K H x (.str z)) : x = .str z ∧ z.length ≤ 1000 ∧ (∀ c ∈ z.cps.toList, c < 1114112) := by
  rcases h with ⟨h, g⟩ | ⟨h, _⟩
  · cases h
    obtain ⟨h1, h2⟩ := Bool.and_eq_true_iff.mp g.1
    refine ⟨rfl, of_decide_eq_true h1, fun c hc => ?_⟩
    rw [← Array.all_toList, List.all_eq_true] at h2
    exact of_decide_eq_true (h2 c hc)
  · cases h
theorem Val.tup {K : PySem.W.Frag} {H : Hp} {x : V} {ds : List PyData} (h : Val K H x (.tuple ds)) : ∃ (a : Addr) (xs : List V), x = .ref a ∧ SqT K H a xs ∧ DpAll K H xs ds ∧ xs.length = ds.length ∧ ds.length ≤ 1000 ∧ ∀ (i : Nat) (d : PyData), ds[i]? = some d → ∃ v, xs[i]? = some v ∧ Val K H v d := by
  rcases h with ⟨h, g⟩ | ⟨h, _⟩
  · cases h with
    | @tup a xs _ hs ha =>
      obtain ⟨g1, g2⟩ := (Good.tup (n := 59)).mp g
      have hl := dpAll_len ha
      refine ⟨_, _, rfl, hs, ha, hl, g1, fun i d hd => ?_⟩
      have hi : i < ds.length := (List.getElem?_eq_some_iff.mp hd).1
      have hi2 : i < xs.length := by omega
      obtain ⟨d', hd', hp⟩ := dpAll_get ha (List.getElem?_eq_getElem hi2)
      have e : d' = d := Option.some.inj (hd'.symm.trans hd)
      subst e
      exact ⟨_, List.getElem?_eq_getElem hi2, .inl ⟨hp, (g2 d' (List.mem_of_getElem? hd)).mono (by decide)⟩⟩
  · cases h
theorem Val.same {K : PySem.W.Frag} {H H' : Hp} {x : V} {d : PyData} (h : Val K H x d) (s : Same H H') : Val K H' x d := by
  rcases h with ⟨h, g⟩ | ⟨rfl, a, kvs, rfl, h⟩
  · exact .inl ⟨dp_same s d x h, g⟩
  · exact .inr ⟨rfl, a, kvs, rfl, s _ _ h⟩
/-! ### what the program tells -/
def letB (c : Nat) : Bool := !decide ([c] < [97]) && !decide ([122] < [c])
def isName (z : Str) : Bool := decide (1 ≤ (z.length : Int)) && decide ((z.length : Int) ≤ 8) && z.cps.toList.all letB
def isNameP : PyData → Bool
  | .str z => isName z
  | _ => false
def isWordP (ws : List Str) : PyData → Bool
  | .str z => ws.any (· == z)
  | _ => false
def isBareP (ws : List Str) : PyData → Bool
  | .tuple [d] => isWordP ws d
  | _ => false
def isNamedP (ws : List Str) : PyData → Bool
  | .tuple [d, e] => isWordP ws d && isNameP e
  | _ => false
def headP (ws : List Str) : PyData → Bool
  | .tuple (d :: _) => isWordP ws d
  | _ => false
abbrev wOpen : List Str := ["look", "hold", "try"]
abbrev wBare : List Str := ["let", "enter", "leave", "touch", "use", "lock", "unlock"]
abbrev wNamed : List Str := ["start"]
abbrev wAsk : List Str := ["ask"]
abbrev wSteps : List Str := ["out", "wait", "empty", "down", "let", "lock", "unlock"]
abbrev wNSteps : List Str := ["mark", "bar", "forget", "idle"]
abbrev wUItems : List Str := ["hold", "enter", "leave", "ask", "use", "start"]
abbrev wUSteps : List Str := ["mark", "wait", "empty", "bar", "forget", "idle", "let"]
def isWayItemP (d : PyData) : Bool := isBareP wBare d || isNamedP wNamed d
def isWayOutP : PyData → Bool
  | .tuple ds => decide (ds.length ≤ 4) && ds.all isWayItemP
  | _ => false
def isAskP : PyData → Bool
  | .tuple [w, m, o] => isWordP wAsk w && (isNameP m && isWayOutP o)
  | _ => false
def isItemP (d : PyData) : Bool := isBareP wOpen d || (isWayItemP d || isAskP d)
def isStepP (d : PyData) : Bool := isBareP wSteps d || isNamedP wNSteps d
def isUseP (d : PyData) : Bool := (isItemP d && headP wUItems d) || (isStepP d && headP wUSteps d)
/-! ### the promises -/
def spChk (K : PySem.W.Frag) (g : PyData → Bool) : Sp := fun vs H Q _ => ∃ (x : V) (d : PyData), vs = [x] ∧ Val K H x d ∧ ∀ H', Same H H' → Q (.bl (g d)) H'
def spChkW (K : PySem.W.Frag) (g : List Str → PyData → Bool) : Sp := fun vs H Q _ => ∃ (x : V) (d : PyData) (a : Addr) (ws : List Str), vs = [x, .ref a] ∧ Val K H x d ∧ SqT K H a (ws.map V.str) ∧ ∀ H', Same H H' → Q (.bl (g ws d)) H'
/-- what the module's names hold -/
structure Txt (K : PySem.W.Frag) (mg : Str → Option Value) (lt0 lt1 : Tok) (t0 t1 t2 t3 t4 t5 t6 t7 : Addr) : Prop where
  m_max : mg "max" = none
  m_range : mg "range" = none
  m_len : mg "len" = none
  m_isinstance : mg "isinstance" = none
  m_str : mg "str" = none
  m_int : mg "int" = none
  m_all : mg "all" = none
  m_tuple : mg "tuple" = none
  m_list : mg "list" = none
  m_enumerate : mg "enumerate" = none
  c_LONGEST_NAME : mg "_LONGEST_NAME" = some (.int 8 lt0)
  c_MOST_IN_WAY_OUT : mg "_MOST_IN_WAY_OUT" = some (.int 4 lt1)
  c_OPENERS : mg "_OPENERS" = some (.ref t0)
  c_BARE_ITEMS : mg "_BARE_ITEMS" = some (.ref t1)
  c_NAMED_ITEMS : mg "_NAMED_ITEMS" = some (.ref t2)
  c_ASKS : mg "_ASKS" = some (.ref t3)
  c_BARE_STEPS : mg "_BARE_STEPS" = some (.ref t4)
  c_NAMED_STEPS : mg "_NAMED_STEPS" = some (.ref t5)
  c_USING_ITEMS : mg "_USING_ITEMS" = some (.ref t6)
  c_USING_STEPS : mg "_USING_STEPS" = some (.ref t7)
  w0 : ∀ H, SqT K H t0 (wOpen.map V.str)
  w1 : ∀ H, SqT K H t1 (wBare.map V.str)
  w2 : ∀ H, SqT K H t2 (wNamed.map V.str)
  w3 : ∀ H, SqT K H t3 (wAsk.map V.str)
  w4 : ∀ H, SqT K H t4 (wSteps.map V.str)
  w5 : ∀ H, SqT K H t5 (wNSteps.map V.str)
  w6 : ∀ H, SqT K H t6 (wUItems.map V.str)
  w7 : ∀ H, SqT K H t7 (wUSteps.map V.str)
theorem inV_words {z : Str} : ∀ ws : List Str, inV (.str z) (ws.map V.str) = ws.any (· == z) := fun ws => by
  unfold inV
  rw [List.any_map]
  rfl
theorem flat_words : ∀ ws : List Str, (ws.map V.str).all flatV = true := fun ws => by
  rw [List.all_map, List.all_eq_true]
  intro x _
  rfl
end K03

namespace K03
open PySem PySem.Spec PyProof.Rows L2 TL
theorem snoc_let {z : Str} {i c : Nat} (hc : z.cps[i]? = some c) : ((z.cps.toList.take (i + 1)).map letB).map V.bl = ((z.cps.toList.take i).map letB).map V.bl ++ [V.bl (letB c)] := by
  have h : z.cps.toList[i]? = some c := by rw [Array.getElem?_toList]; exact hc
  rw [List.take_add_one, h, List.map_append, List.map_append]
  rfl
theorem yes_then {A B : Hp → Prop} {σ : L2.St} {H : Hp} (h : A H) : tYes σ H (fun b H3 => if b = true then A H3 else B H3) := by
  show (if true = true then A H else B H)
  rw [if_pos rfl]
  exact h
section
variable {P : Program} {w : World} {K : PySem.W.Frag} {mg : Str → Option Value} {base : Heap} {lt0 lt1 : Tok} {t0 t1 t2 t3 t4 t5 t6 t7 : Addr}
theorem sc_is_name : FnScope ["value", "letter"] ["value"] (defScope sIsName) := ⟨rfl, rfl, rfl, by decide +kernel, rfl, by decide +kernel, by decide +kernel⟩
theorem ok_is_name {f : Addr} {fd : FuncData} (F : Fun K "is_name" "is_name" sIsName f fd) (T : Txt K mg lt0 lt1 t0 t1 t2 t3 t4 t5 t6 t7) : FnOk P w K mg base CX0 1 f fd ["value"] (spChk K isNameP) := by
  refine F.ok sc_is_name (fun vs H Q E h => ?_) (fun cdv A outer s H vs Q E hr h => ?_)
  · obtain ⟨x, d, rfl, _⟩ := h
    rfl
  · obtain ⟨x, d, rfl, hv, q⟩ := h
    refine ⟨_, (pss_cons (ps_if (PW.pt (pw_or (pt_not (pt_val (pe_callB call_isi (by rfl) T.m_isinstance (by decide +kernel) (pa_cons (pv 0) (pa_cons (pe_bltn (v := .ty "str") (u := .type "str") (by rfl) T.m_str (by decide +kernel) rfl) pa_nil))))) (pw_or1 (pt_not (pt_chain op_le op_le pe_int (pe_callB call_len_str (by rfl) T.m_len PySem.boot_len (pa_cons (pv 0) pa_nil)) (pe_glob (v := .int 8) rfl T.c_LONGEST_NAME ⟨_, rfl⟩)))))) 
          (pss_one (ps_ret pe_bl)) pss_nil) 
        (pss_one (ps_ret (pe_callB (cr_all rfl) (by rfl) T.m_all (by decide +kernel) (pa_cons (pe_lc (own := [("letter", 1)]) (g := gName 1) rfl sc_is_name.nd (pi_str (pv 0)) (blkOk_by (N := ["value", "letter"]) (sc := defScope sIsName) (by decide +kernel)) (fun _ _ _ _ _ => pg_name (i := 1) sc_is_name.nd rfl (.inl rfl)) (fun _ _ _ _ _ => pts_nil) (fun _ _ _ _ _ => (pe_chain op_le_str op_le_str pe_str (pv 1) pe_str))) pa_nil))))), ?_⟩
    cases hd : isStr d with
    | false =>
      have e : isNameP d = false := by cases d <;> first | rfl | cases hd
      have := q H (Same.refl H)
      rw [e] at this
      exact ⟨_, rfl, _, _, _, _, false, rfl, .ty "str", hv.ty, hd ▸ isi_str d, _, rfl, iteT (iteT this)⟩
    | true =>
      obtain ⟨z, rfl⟩ : ∃ z, d = .str z := by cases d <;> first | exact ⟨_, rfl⟩ | cases hd
      obtain ⟨rfl, hz, _⟩ := hv.str
      have q : ∀ H', Same H H' → Q (.bl (isName z)) H' := q
      refine ⟨_, rfl, _, _, _, _, true, rfl, .ty "str", .base (.str z), kit_ty (by decide +kernel), _, rfl, iteF ⟨_, rfl, z, rfl, Nat.le_of_lt (small1000 hz), _, _, rfl, rfl, _, rfl, ite2 (fun h1 => ⟨_, _, rfl, rfl, _, rfl, ite2 (fun h2 => ?f2) (fun h2 => ?go)⟩) (fun h1 => ⟨_, rfl, iteT ?f1⟩)⟩⟩
      case f1 =>
        have e : isName z = false := by
          unfold isName
          simp only [Bool.not_eq_true] at h1
          rw [h1]
          rfl
        have := q H (Same.refl H)
        rw [e] at this
        exact this
      case f2 =>
        have h2' : decide ((z.length : Int) ≤ 8) = false := by simpa using h2
        have e : isName z = false := by
          unfold isName
          rw [h2', Bool.and_false]
          rfl
        have := q H (Same.refl H)
        rw [e] at this
        exact this
      case go =>
        have h2' : decide ((z.length : Int) ≤ 8) = true := by simpa using h2
        refine ⟨_, rfl, z, rfl, fun D hD => lc_it walk_str (fun i H' => Same H H' ∧ H' D = some (.lst (((z.cps.toList.take i).map letB).map V.bl))) ⟨same_upd hD, upd_same⟩ (fun _ _ _ _ => trivial) ?_ ?_⟩
        · rintro i x H1 H2 hi ⟨s1, h1⟩ ⟨rfl, c, hc, rfl⟩
          have hlt : (((z.cps.toList.take i).map letB).map V.bl).length < sizeLine := by
            rw [List.length_map, List.length_map, List.length_take]
            exact Nat.lt_of_le_of_lt (Nat.min_le_right _ _) (small1000 hz)
          have fin : ∀ r : Bool, r = letB c → ∃ acc, H2 D = some (.lst acc) ∧ acc.length < sizeLine ∧ Same H (upd H2 D (.lst (acc ++ [V.bl r]))) ∧ upd H2 D (.lst (acc ++ [V.bl r])) D = some (.lst (((z.cps.toList.take (i + 1)).map letB).map V.bl)) := fun r hr =>
            ⟨_, h1, hlt, same_st s1 hD, by rw [upd_same, snoc_let hc, hr]⟩
          refine ⟨rfl, yes_then ?_⟩
          refine ⟨_, rfl, _, _, rfl, rfl, _, rfl, ite2 (fun g1 => ⟨_, _, rfl, rfl, fin _ ?_⟩) (fun g1 => fin _ ?_)⟩
          · show (!decide ([122] < [c])) = letB c
            have g1' : (!decide ([c] < [97])) = true := g1
            unfold letB
            rw [g1', Bool.true_and]
          · have g1' : (!decide ([c] < [97])) = false := by
              cases e : (!decide ([c] < [97])) with
              | true => exact absurd e g1
              | false => rfl
            unfold letB
            rw [g1', Bool.false_and]
        · rintro H1 ⟨s1, h1⟩
          refine ⟨D, z.cps.toList.map letB, rfl, .inl (.inl (by rw [h1, List.take_of_length_le (Nat.le_of_eq (Array.length_toList ..))])), ?_⟩
          have e : (z.cps.toList.map letB).all id = isName z := by
            unfold isName
            have h1' : decide (1 ≤ (z.length : Int)) = true := by assumption
            rw [h1', h2', List.all_map]
            rfl
          rw [e]
          exact q H1 s1
theorem sc_is_word : FnScope ["value", "words"] ["value", "words"] (defScope sWord) := ⟨rfl, rfl, rfl, by decide +kernel, rfl, by decide +kernel, by decide +kernel⟩
theorem ok_is_word {f : Addr} {fd : FuncData} (F : Fun K "_is_word" "_is_word" sWord f fd) (T : Txt K mg lt0 lt1 t0 t1 t2 t3 t4 t5 t6 t7) : FnOk P w K mg base CX0 1 f fd ["value", "words"] (spChkW K isWordP) := by
  refine F.ok sc_is_word (fun vs H Q E h => ?_) (fun cdv A outer s H vs Q E hr h => ?_)
  · obtain ⟨x, d, a, ws, rfl, _⟩ := h
    rfl
  · obtain ⟨x, d, a, ws, rfl, hv, hw, q⟩ := h
    refine ⟨_, (pss_one (ps_ret (pe_and (pe_callB call_isi (by rfl) T.m_isinstance (by decide +kernel) (pa_cons (pv 0) (pa_cons (pe_bltn (v := .ty "str") (u := .type "str") (by rfl) T.m_str (by decide +kernel) rfl) pa_nil))) (pe_one (pe_cmpR op_in_seq (pv 0) (pv 1) (by rfl)))))), ?_⟩
    refine ⟨_, rfl, _, _, _, _, _, rfl, .ty "str", hv.ty, isi_str d, _, rfl, ite2 (fun hd => ?_) (fun hd => ?_)⟩
    · obtain ⟨z, rfl⟩ : ∃ z, d = .str z := by cases d <;> first | exact ⟨_, rfl⟩ | cases hd
      obtain ⟨rfl, hz, _⟩ := hv.str
      refine ⟨_, rfl, _, rfl, a, _, rfl, .inr hw, rfl, flat_words ws, ?_⟩
      have := q H (Same.refl H)
      show Q (.bl (inV (.str z) (ws.map V.str))) H
      rw [inV_words]
      exact this
    · have e : isWordP ws d = false := by cases d <;> first | rfl | exact absurd rfl hd
      have := q H (Same.refl H)
      rw [e] at this
      exact this
theorem sc_is_bare : FnScope ["value", "words"] ["value", "words"] (defScope sBare) := ⟨rfl, rfl, rfl, by decide +kernel, rfl, by decide +kernel, by decide +kernel⟩
theorem ok_is_bare {f : Addr} {fd : FuncData} (F : Fun K "_is_bare" "_is_bare" sBare f fd) (T : Txt K mg lt0 lt1 t0 t1 t2 t3 t4 t5 t6 t7) {f1 : Addr} {fd1 : FuncData} (F_is_word : Fun K "_is_word" "_is_word" sWord f1 fd1) (b_is_word : Binds K fd1 ["value", "words"] []) (g_is_word : mg "_is_word" = some (.ref f1)) (G_is_word : FnOk P w K mg base CX0 1 f1 fd1 ["value", "words"] (spChkW K isWordP)) : FnOk P w K mg base CX0 2 f fd ["value", "words"] (spChkW K isBareP) := by
  refine F.ok sc_is_bare (fun vs H Q E h => ?_) (fun cdv A outer s H vs Q E hr h => ?_)
  · obtain ⟨x, d, a, ws, rfl, _⟩ := h
    rfl
  · obtain ⟨x, d, a, ws, rfl, hv, hw, q⟩ := h
    refine ⟨_, (pss_one (ps_ret (pe_and (pe_callB call_isi (by rfl) T.m_isinstance (by decide +kernel) (pa_cons (pv 0) (pa_cons (pe_bltn (v := .ty "tuple") (u := .type "tuple") (by rfl) T.m_tuple (by decide +kernel) rfl) pa_nil))) (pe_and (pe_cmpR op_eq (pe_callB call_len_seq (by rfl) T.m_len PySem.boot_len (pa_cons (pv 0) pa_nil)) pe_int (nomark _)) (pe_one (pe_call G_is_word hr (by rfl) g_is_word F_is_word.kp b_is_word .nil pass0 (pa_cons (pe_ix ix_tup (pv 0) pe_int (fun _ _ => rfl)) (pa_cons (pv 1) pa_nil)))))))), ?_⟩
    refine ⟨_, rfl, _, _, _, _, _, rfl, .ty "tuple", hv.ty, isi_tup d, _, rfl, ite2 (fun hd => ?_) (fun hd => ?_)⟩
    · obtain ⟨ds, rfl⟩ : ∃ ds, d = .tuple ds := by cases d <;> first | exact ⟨_, rfl⟩ | cases hd
      obtain ⟨b, xs, rfl, hs, ha, hl, h1000, hget⟩ := hv.tup
      refine ⟨_, rfl, b, xs, rfl, .inr hs, rfl, _, rfl, ite2 (fun h1 => ?_) (fun h1 => ?_)⟩
      · have h1 : xs.length = 1 := by
          have := V.int.inj (of_decide_eq_true h1)
          omega
        obtain ⟨e, rfl⟩ : ∃ e, ds = [e] := List.length_eq_one_iff.mp (by omega)
        obtain ⟨v, hx, hve⟩ := hget 0 e rfl
        exact ⟨_, rfl, b, xs, _, _, rfl, rfl, hs, atI_nat hx, _, rfl, v, e, a, ws, rfl, hve, hw, fun H' s' => q H' s'⟩
      · have e : isBareP ws (.tuple ds) = false := by
          have h1 : xs.length ≠ 1 := fun z => h1 (decide_eq_true (by rw [z]; rfl))
          match ds, hl with
          | [], _ => rfl
          | [_], hl => exact absurd hl h1
          | _ :: _ :: _, _ => rfl
        have := q H (Same.refl H)
        rw [e] at this
        exact this
    · have e : isBareP ws d = false := by cases d <;> first | rfl | exact absurd rfl hd
      have := q H (Same.refl H)
      rw [e] at this
      exact this
theorem sc_is_named : FnScope ["value", "words"] ["value", "words"] (defScope sNamed) := ⟨rfl, rfl, rfl, by decide +kernel, rfl, by decide +kernel, by decide +kernel⟩
theorem ok_is_named {f : Addr} {fd : FuncData} (F : Fun K "_is_named" "_is_named" sNamed f fd) (T : Txt K mg lt0 lt1 t0 t1 t2 t3 t4 t5 t6 t7) {f1 : Addr} {fd1 : FuncData} (F_is_word : Fun K "_is_word" "_is_word" sWord f1 fd1) (b_is_word : Binds K fd1 ["value", "words"] []) (g_is_word : mg "_is_word" = some (.ref f1)) (G_is_word : FnOk P w K mg base CX0 1 f1 fd1 ["value", "words"] (spChkW K isWordP)) {f2 : Addr} {fd2 : FuncData} (F_is_name : Fun K "is_name" "is_name" sIsName f2 fd2) (b_is_name : Binds K fd2 ["value"] []) (g_is_name : mg "is_name" = some (.ref f2)) (G_is_name : FnOk P w K mg base CX0 1 f2 fd2 ["value"] (spChk K isNameP)) : FnOk P w K mg base CX0 2 f fd ["value", "words"] (spChkW K isNamedP) := by
  refine F.ok sc_is_named (fun vs H Q E h => ?_) (fun cdv A outer s H vs Q E hr h => ?_)
  · obtain ⟨x, d, a, ws, rfl, _⟩ := h
    rfl
  · obtain ⟨x, d, a, ws, rfl, hv, hw, q⟩ := h
    refine ⟨_, (pss_cons (ps_if (PW.pt (pw_or (pt_not (pt_val (pe_callB call_isi (by rfl) T.m_isinstance (by decide +kernel) (pa_cons (pv 0) (pa_cons (pe_bltn (v := .ty "tuple") (u := .type "tuple") (by rfl) T.m_tuple (by decide +kernel) rfl) pa_nil))))) (pw_or1 (pt_cmpR op_ne (pe_callB call_len_seq (by rfl) T.m_len PySem.boot_len (pa_cons (pv 0) pa_nil)) pe_int (nomark _))))) 
          (pss_one (ps_ret pe_bl)) pss_nil) 
        (pss_one (ps_ret (pe_and (pe_call G_is_word hr (by rfl) g_is_word F_is_word.kp b_is_word .nil pass0 (pa_cons (pe_ix ix_tup (pv 0) pe_int (fun _ _ => rfl)) (pa_cons (pv 1) pa_nil))) (pe_one (pe_call G_is_name hr (by rfl) g_is_name F_is_name.kp b_is_name .nil pass0 (pa_cons (pe_ix ix_tup (pv 0) pe_int (fun _ _ => rfl)) pa_nil))))))), ?_⟩
    cases hd : isTup d with
    | false =>
      have e : isNamedP ws d = false := by cases d <;> first | rfl | cases hd
      have := q H (Same.refl H)
      rw [e] at this
      exact ⟨_, rfl, _, _, _, _, false, rfl, .ty "tuple", hv.ty, hd ▸ isi_tup d, _, rfl, iteT (iteT this)⟩
    | true =>
      obtain ⟨ds, rfl⟩ : ∃ ds, d = .tuple ds := by cases d <;> first | exact ⟨_, rfl⟩ | cases hd
      obtain ⟨b, xs, rfl, hs, ha, hl, h1000, hget⟩ := hv.tup
      refine ⟨_, rfl, _, _, _, _, true, rfl, .ty "tuple", hv.ty, isi_tup _, _, rfl, iteF ⟨_, rfl, b, xs, rfl, .inr hs, rfl, _, rfl, ite2 (fun h1 => ?_) (fun h1 => ?_)⟩⟩
      · have e : isNamedP ws (.tuple ds) = false := by
          have h1 : xs.length ≠ 2 := fun z => by
            rw [z] at h1
            exact absurd h1 (by decide)
          match ds, hl with
          | [], _ => rfl
          | [_], _ => rfl
          | [_, _], hl => exact absurd hl h1
          | _ :: _ :: _ :: _, _ => rfl
        have := q H (Same.refl H)
        rw [e] at this
        exact this
      · have h1 : xs.length = 2 := by
          by_cases z : xs.length = 2
          · exact z
          · exfalso
            refine h1 ?_
            show (!decide (V.int (xs.length : Int) = V.int 2)) = true
            rw [decide_eq_false (fun k => z (by have := V.int.inj k; omega))]
            rfl
        obtain ⟨e, g, rfl⟩ : ∃ e g, ds = [e, g] := by
          match ds, hl with
          | [e, g], _ => exact ⟨e, g, rfl⟩
          | [], hl => rw [h1] at hl; cases hl
          | [_], hl => rw [h1] at hl; cases hl
          | _ :: _ :: _ :: _, hl => rw [h1] at hl; cases hl
        obtain ⟨v, hx, hve⟩ := hget 0 e rfl
        obtain ⟨v2, hx2, hve2⟩ := hget 1 g rfl
        refine ⟨_, rfl, b, xs, _, _, rfl, rfl, hs, atI_nat hx, _, rfl, v, e, a, ws, rfl, hve, hw, fun H' s' => ⟨_, rfl, ite2 (fun h2 => ?_) (fun h2 => ?_)⟩⟩
        · refine ⟨_, rfl, b, xs, _, _, rfl, rfl, Same.seqT s' hs, atI_nat hx2, v2, g, rfl, hve2.same s', fun H'' s'' => ?_⟩
          have := q H'' (s'.trans s'')
          have e : isNamedP ws (.tuple [e, g]) = isNameP g := by
            show (isWordP ws e && isNameP g) = _
            rw [h2, Bool.true_and]
          rw [e] at this
          exact this
        · have := q H' s'
          have e : isNamedP ws (.tuple [e, g]) = false := by
            show (isWordP ws e && isNameP g) = _
            rw [(by simpa using h2 : isWordP ws e = false), Bool.false_and]
          rw [e] at this
          exact this
end
end K03

namespace K03
open PySem PySem.Spec PyProof.Rows L2 TL
section
variable {P : Program} {w : World} {K : PySem.W.Frag} {mg : Str → Option Value} {base : Heap} {lt0 lt1 : Tok} {t0 t1 t2 t3 t4 t5 t6 t7 : Addr}
theorem bf {b : Bool} (h : ¬ b = true) : b = false := by
  cases b with
  | true => exact absurd rfl h
  | false => rfl
theorem sc_is_way_item : FnScope ["value"] ["value"] (defScope sWayItem) := ⟨rfl, rfl, rfl, by decide +kernel, rfl, by decide +kernel, by decide +kernel⟩
theorem ok_is_way_item {f : Addr} {fd : FuncData} (F : Fun K "is_way_item" "is_way_item" sWayItem f fd) (T : Txt K mg lt0 lt1 t0 t1 t2 t3 t4 t5 t6 t7) {f1 : Addr} {fd1 : FuncData} (F_is_bare : Fun K "_is_bare" "_is_bare" sBare f1 fd1) (b_is_bare : Binds K fd1 ["value", "words"] []) (g_is_bare : mg "_is_bare" = some (.ref f1)) (G_is_bare : FnOk P w K mg base CX0 2 f1 fd1 ["value", "words"] (spChkW K isBareP)) {f2 : Addr} {fd2 : FuncData} (F_is_named : Fun K "_is_named" "_is_named" sNamed f2 fd2) (b_is_named : Binds K fd2 ["value", "words"] []) (g_is_named : mg "_is_named" = some (.ref f2)) (G_is_named : FnOk P w K mg base CX0 2 f2 fd2 ["value", "words"] (spChkW K isNamedP)) : FnOk P w K mg base CX0 3 f fd ["value"] (spChk K isWayItemP) := by
  refine F.ok sc_is_way_item (fun vs H Q E h => ?_) (fun cdv A outer s H vs Q E hr h => ?_)
  · obtain ⟨x, d, rfl, _⟩ := h
    rfl
  · obtain ⟨x, d, rfl, hv, q⟩ := h
    refine ⟨_, (pss_one (ps_ret (pe_or (pe_call G_is_bare hr (by rfl) g_is_bare F_is_bare.kp b_is_bare .nil pass0 (pa_cons (pv 0) (pa_cons (pe_glob (v := .ref t1) rfl T.c_BARE_ITEMS rfl) pa_nil))) (pe_one (pe_call G_is_named hr (by rfl) g_is_named F_is_named.kp b_is_named .nil pass0 (pa_cons (pv 0) (pa_cons (pe_glob (v := .ref t2) rfl T.c_NAMED_ITEMS rfl) pa_nil))))))), ?_⟩
    refine ⟨_, rfl, _, d, t1, wBare, rfl, hv, T.w1 _, fun H' s' => ⟨_, rfl, ite2 (fun h1 => ?_) (fun h1 => ⟨_, rfl, _, d, t2, wNamed, rfl, hv.same s', T.w2 _, fun H'' s'' => ?_⟩)⟩⟩
    · have := q H' s'
      rw [(by unfold isWayItemP; rw [h1]; rfl : isWayItemP d = true)] at this
      exact this
    · have := q H'' (s'.trans s'')
      rw [(by unfold isWayItemP; rw [bf h1, Bool.false_or] : isWayItemP d = isNamedP wNamed d)] at this
      exact this
/-- a way out that is not too long -/
def wayLen : PyData → Bool
  | .tuple ds => decide (ds.length ≤ 4)
  | _ => false
/-- an ask but for the items of its way out -/
def isHeadP : PyData → Bool
  | .tuple [w, m, o] => isWordP wAsk w && (isNameP m && wayLen o)
  | _ => false
theorem ask_split {d : PyData} (h : isHeadP d = true) : ∃ w m os, d = .tuple [w, m, .tuple os] ∧ os.length ≤ 4 ∧ isAskP d = os.all isWayItemP := by
  match d, h with
  | .tuple [w, m, o], h =>
    have h1 : (isWordP wAsk w && (isNameP m && wayLen o)) = true := h
    rw [Bool.and_eq_true, Bool.and_eq_true] at h1
    obtain ⟨h1, h2, h3⟩ := h1
    cases o with
    | tuple os =>
      have h4 : os.length ≤ 4 := of_decide_eq_true h3
      refine ⟨w, m, os, rfl, h4, ?_⟩
      show (isWordP wAsk w && (isNameP m && (decide (os.length ≤ 4) && os.all isWayItemP))) = _
      rw [h1, h2, decide_eq_true h4]
      rfl
    | _ => cases h3
theorem ask_head_of {d : PyData} (h : isHeadP d = false) : isAskP d = false := by
  match d, h with
  | .tuple [w, m, .tuple os], h =>
    have h1 : (isWordP wAsk w && (isNameP m && decide (os.length ≤ 4))) = false := h
    show (isWordP wAsk w && (isNameP m && (decide (os.length ≤ 4) && os.all isWayItemP))) = false
    rw [← Bool.and_assoc, ← Bool.and_assoc, Bool.and_assoc (isWordP wAsk w), h1, Bool.false_and]
  | .tuple [w, m, .none], _ => show (_ && (_ && false)) = false; rw [Bool.and_false, Bool.and_false]
  | .tuple [w, m, .bool _], _ => show (_ && (_ && false)) = false; rw [Bool.and_false, Bool.and_false]
  | .tuple [w, m, .int _], _ => show (_ && (_ && false)) = false; rw [Bool.and_false, Bool.and_false]
  | .tuple [w, m, .str _], _ => show (_ && (_ && false)) = false; rw [Bool.and_false, Bool.and_false]
  | .tuple [w, m, .list _], _ => show (_ && (_ && false)) = false; rw [Bool.and_false, Bool.and_false]
  | .tuple [w, m, .dict _], _ => show (_ && (_ && false)) = false; rw [Bool.and_false, Bool.and_false]
  | .tuple [], _ => rfl
  | .tuple [_], _ => rfl
  | .tuple [_, _], _ => rfl
  | .tuple (_ :: _ :: _ :: _ :: _), _ => rfl
  | .none, _ => rfl
  | .bool _, _ => rfl
  | .int _, _ => rfl
  | .str _, _ => rfl
  | .list _, _ => rfl
  | .dict _, _ => rfl
theorem sc_is_ask_head : FnScope ["value", "word", "mark", "way_out"] ["value"] (defScope sHead) := ⟨rfl, rfl, rfl, by decide +kernel, rfl, by decide +kernel, by decide +kernel⟩
theorem ok_is_ask_head {f : Addr} {fd : FuncData} (F : Fun K "is_ask_head" "is_ask_head" sHead f fd) (T : Txt K mg lt0 lt1 t0 t1 t2 t3 t4 t5 t6 t7) {f1 : Addr} {fd1 : FuncData} (F_is_word : Fun K "_is_word" "_is_word" sWord f1 fd1) (b_is_word : Binds K fd1 ["value", "words"] []) (g_is_word : mg "_is_word" = some (.ref f1)) (G_is_word : FnOk P w K mg base CX0 1 f1 fd1 ["value", "words"] (spChkW K isWordP)) {f2 : Addr} {fd2 : FuncData} (F_is_name : Fun K "is_name" "is_name" sIsName f2 fd2) (b_is_name : Binds K fd2 ["value"] []) (g_is_name : mg "is_name" = some (.ref f2)) (G_is_name : FnOk P w K mg base CX0 1 f2 fd2 ["value"] (spChk K isNameP)) : FnOk P w K mg base CX0 2 f fd ["value"] (spChk K isHeadP) := by
  refine F.ok sc_is_ask_head (fun vs H Q E h => ?_) (fun cdv A outer s H vs Q E hr h => ?_)
  · obtain ⟨x, d, rfl, _⟩ := h
    rfl
  · obtain ⟨x, d, rfl, hv, q⟩ := h
    refine ⟨_, (pss_cons (ps_if (PW.pt (pw_or (pt_not (pt_val (pe_callB call_isi (by rfl) T.m_isinstance (by decide +kernel) (pa_cons (pv 0) (pa_cons (pe_bltn (v := .ty "tuple") (u := .type "tuple") (by rfl) T.m_tuple (by decide +kernel) rfl) pa_nil))))) (pw_or1 (pt_cmpR op_ne (pe_callB call_len_seq (by rfl) T.m_len PySem.boot_len (pa_cons (pv 0) pa_nil)) pe_int (nomark _)))))
          (pss_one (ps_ret pe_bl)) pss_nil)
        (pss_cons (ps_asg (pv 0) (pg_tup rfl (pgs_cons (pg_name (i := 1) sc_is_ask_head.nd rfl (.inl rfl)) (pgs_cons (pg_name (i := 2) sc_is_ask_head.nd rfl (.inl rfl)) (pgs_cons (pg_name (i := 3) sc_is_ask_head.nd rfl (.inl rfl)) pgs_nil)))))
        (pss_cons (ps_if (PW.pt (pw_or (pt_not (pt_val (pe_call G_is_word hr (by rfl) g_is_word F_is_word.kp b_is_word .nil pass0 (pa_cons (pv 1) (pa_cons (pe_glob (v := .ref t3) rfl T.c_ASKS rfl) pa_nil))))) (pw_or1 (pt_not (pt_val (pe_call G_is_name hr (by rfl) g_is_name F_is_name.kp b_is_name .nil pass0 (pa_cons (pv 2) pa_nil)))))))
          (pss_one (ps_ret pe_bl)) pss_nil)
        (pss_one (ps_ret (pe_and (pe_callB call_isi (by rfl) T.m_isinstance (by decide +kernel) (pa_cons (pv 3) (pa_cons (pe_bltn (v := .ty "tuple") (u := .type "tuple") (by rfl) T.m_tuple (by decide +kernel) rfl) pa_nil))) (pe_one (pe_cmpR op_le (pe_callB call_len_seq (by rfl) T.m_len PySem.boot_len (pa_cons (pv 3) pa_nil)) (pe_glob (v := .int 4) rfl T.c_MOST_IN_WAY_OUT ⟨_, rfl⟩) (nomark _))))))))), ?_⟩
    cases hd : isTup d with
    | false =>
      have e : isHeadP d = false := by cases d <;> first | rfl | cases hd
      have := q H (Same.refl H)
      rw [e] at this
      exact ⟨_, rfl, _, _, _, _, false, rfl, .ty "tuple", hv.ty, hd ▸ isi_tup d, _, rfl, iteT (iteT this)⟩
    | true =>
      obtain ⟨ds, rfl⟩ : ∃ ds, d = .tuple ds := by cases d <;> first | exact ⟨_, rfl⟩ | cases hd
      obtain ⟨b, xs, rfl, hs, ha, hl, h1000, hget⟩ := hv.tup
      refine ⟨_, rfl, _, _, _, _, true, rfl, .ty "tuple", hv.ty, isi_tup _, _, rfl, iteF ⟨_, rfl, b, xs, rfl, .inr hs, rfl, _, rfl, ite2 (fun h1 => ?_) (fun h1 => ?_)⟩⟩
      · have e : isHeadP (.tuple ds) = false := by
          have h1 : xs.length ≠ 3 := fun z => by
            rw [z] at h1
            exact absurd h1 (by decide)
          match ds, hl with
          | [], _ => rfl
          | [_], _ => rfl
          | [_, _], _ => rfl
          | [_, _, _], hl => exact absurd hl h1
          | _ :: _ :: _ :: _ :: _, _ => rfl
        have := q H (Same.refl H)
        rw [e] at this
        exact this
      · have h1 : xs.length = 3 := by
          by_cases z : xs.length = 3
          · exact z
          · exfalso
            refine h1 ?_
            show (!decide (V.int (xs.length : Int) = V.int 3)) = true
            rw [decide_eq_false (fun k => z (by have := V.int.inj k; omega))]
            rfl
        obtain ⟨e1, e2, e3, rfl⟩ : ∃ e1 e2 e3, ds = [e1, e2, e3] := by
          match ds, hl with
          | [e1, e2, e3], _ => exact ⟨e1, e2, e3, rfl⟩
          | [], hl => rw [h1] at hl; cases hl
          | [_], hl => rw [h1] at hl; cases hl
          | [_, _], hl => rw [h1] at hl; cases hl
          | _ :: _ :: _ :: _ :: _, hl => rw [h1] at hl; simp at hl
        obtain ⟨v1, hx1, hv1⟩ := hget 0 e1 rfl
        obtain ⟨v2, hx2, hv2⟩ := hget 1 e2 rfl
        obtain ⟨v3, hx3, hv3⟩ := hget 2 e3 rfl
        have ex : xs = [v1, v2, v3] := by
          match xs, h1, hx1, hx2, hx3 with
          | [a1, a2, a3], _, hx1, hx2, hx3 =>
            cases hx1
            cases hx2
            cases hx3
            rfl
        subst ex
        refine ⟨_, rfl, b, _, rfl, hs, rfl, _, _, rfl, _, _, rfl, _, [], rfl, rfl, ?_⟩
        refine ⟨_, rfl, _, e1, t3, wAsk, rfl, hv1, T.w3 _, fun H' s' => ⟨_, rfl, ite2 (fun g1 => ?_) (fun g1 => ?_)⟩⟩
        · have := q H' s'
          rw [(by show (isWordP wAsk e1 && (isNameP e2 && wayLen e3)) = false; rw [(by simpa using g1 : isWordP wAsk e1 = false)]; rfl : isHeadP (.tuple [e1, e2, e3]) = false)] at this
          exact this
        · have g1 : isWordP wAsk e1 = true := by simpa using g1
          refine ⟨_, rfl, _, e2, rfl, hv2.same s', fun H'' s'' => ⟨_, rfl, ite2 (fun g2 => ?_) (fun g2 => ?_)⟩⟩
          · have := q H'' (s'.trans s'')
            rw [(by show (isWordP wAsk e1 && (isNameP e2 && wayLen e3)) = false; rw [g1, (by simpa using g2 : isNameP e2 = false)]; rfl : isHeadP (.tuple [e1, e2, e3]) = false)] at this
            exact this
          · have g2 : isNameP e2 = true := by simpa using g2
            have hv4 := hv3.same (s'.trans s'')
            have e : isHeadP (.tuple [e1, e2, e3]) = wayLen e3 := by
              show (isWordP wAsk e1 && (isNameP e2 && wayLen e3)) = _
              rw [g1, g2]
              rfl
            have := q H'' (s'.trans s'')
            rw [e] at this
            cases hd3 : isTup e3 with
            | false =>
              have e4 : wayLen e3 = false := by cases e3 <;> first | rfl | cases hd3
              rw [e4] at this
              exact ⟨_, rfl, _, _, _, _, false, rfl, .ty "tuple", hv4.ty, hd3 ▸ isi_tup e3, _, rfl, iteF this⟩
            | true =>
              obtain ⟨os, rfl⟩ : ∃ os, e3 = .tuple os := by cases e3 <;> first | exact ⟨_, rfl⟩ | cases hd3
              obtain ⟨b3, zs, rfl, hs3, _, hl3, _, _⟩ := hv4.tup
              refine ⟨_, rfl, _, _, _, _, true, rfl, .ty "tuple", hv4.ty, isi_tup _, _, rfl, iteT ⟨_, rfl, b3, zs, rfl, .inr hs3, _, _, rfl, rfl, ?_⟩⟩
              have e5 : decide ((zs.length : Int) ≤ 4) = wayLen (.tuple os) := by
                show _ = decide (os.length ≤ 4)
                rw [Bool.eq_iff_iff, decide_eq_true_iff, decide_eq_true_iff]
                omega
              show Q (V.bl (decide ((zs.length : Int) ≤ 4))) _
              rw [e5]
              exact this
theorem sc_is_ask : FnScope ["value", "item"] ["value"] (defScope sAsk) := ⟨rfl, rfl, rfl, by decide +kernel, rfl, by decide +kernel, by decide +kernel⟩
theorem ok_is_ask {f : Addr} {fd : FuncData} (F : Fun K "_is_ask" "_is_ask" sAsk f fd) (T : Txt K mg lt0 lt1 t0 t1 t2 t3 t4 t5 t6 t7) {f3 : Addr} {fd3 : FuncData} (F_is_ask_head : Fun K "is_ask_head" "is_ask_head" sHead f3 fd3) (b_is_ask_head : Binds K fd3 ["value"] []) (g_is_ask_head : mg "is_ask_head" = some (.ref f3)) (G_is_ask_head : FnOk P w K mg base CX0 2 f3 fd3 ["value"] (spChk K isHeadP)) {f1 : Addr} {fd1 : FuncData} (F_is_way_item : Fun K "is_way_item" "is_way_item" sWayItem f1 fd1) (b_is_way_item : Binds K fd1 ["value"] []) (g_is_way_item : mg "is_way_item" = some (.ref f1)) (G_is_way_item : FnOk P w K mg base CX0 3 f1 fd1 ["value"] (spChk K isWayItemP)) : FnOk P w K mg base CX0 5 f fd ["value"] (spChk K isAskP) := by
  refine F.ok sc_is_ask (fun vs H Q E h => ?_) (fun cdv A outer s H vs Q E hr h => ?_)
  · obtain ⟨x, d, rfl, _⟩ := h
    rfl
  · obtain ⟨x, d, rfl, hv0, q0⟩ := h
    refine ⟨_, (pss_one (ps_ret (pe_and (pe_call G_is_ask_head (hr.mono (by decide)) (by rfl) g_is_ask_head F_is_ask_head.kp b_is_ask_head .nil pass0 (pa_cons (pv 0) pa_nil)) (pe_one (pe_callB (cr_all rfl) (by rfl) T.m_all (by decide +kernel) (pa_cons (pe_lc (own := [("item", 1)]) (g := gName 1) rfl sc_is_ask.nd (pi_tup (pe_ix ix_tup (pv 0) pe_int (fun _ _ => rfl))) (blkOk_by (N := ["value", "item"]) (sc := defScope sAsk) (by decide +kernel)) (fun _ _ _ _ _ => pg_name (i := 1) sc_is_ask.nd rfl (.inl rfl)) (fun _ _ _ _ _ => pts_nil) (fun _ _ _ _ _ => (pe_call G_is_way_item (hr.mono (by decide)) (by rfl) g_is_way_item F_is_way_item.kp b_is_way_item .nil pass0 (pa_cons (pv 1) pa_nil)))) pa_nil)))))), ?_⟩
    refine ⟨_, rfl, _, d, rfl, hv0, fun H0 s0 => ⟨_, rfl, ite2 (fun g1 => ?_) (fun g1 => ?_)⟩⟩
    · obtain ⟨w1, m1, ds, rfl, h4, eA⟩ := ask_split g1
      obtain ⟨b0, xs0, rfl, hs0, _, hl0, _, hget0⟩ := (hv0.same s0).tup
      obtain ⟨v3, hx3, hv⟩ := hget0 2 (.tuple ds) rfl
      obtain ⟨b, xs, rfl, hs, ha, hl, h1000, hget⟩ := hv.tup
      have q : ∀ H', Same H0 H' → Q (V.bl (ds.all isWayItemP)) H' := fun H' s' => by
        have := q0 H' (s0.trans s')
        rw [eA] at this
        exact this
      refine ⟨_, rfl, b0, xs0, _, _, rfl, rfl, hs0, atI_nat (j := 2) hx3, b, rfl, ⟨_, hs⟩, fun D hD => ?_⟩
      refine lc_tup (xs := xs) (fun i H' => Same H0 H' ∧ H' D = some (.lst (((ds.take i).map isWayItemP).map V.bl))) ⟨same_upd hD, upd_same⟩ (fun i H' _ h => Same.seqT h.1 hs) ?_ ?_
      · rintro i y H1 hy ⟨s1, h1D⟩
        have hi : i < ds.length := by
          have := (List.getElem?_eq_some_iff.mp hy).1
          omega
        obtain ⟨v, hxv, hve⟩ := hget i ds[i] (List.getElem?_eq_getElem hi)
        have ey : y = v := Option.some.inj (hy.symm.trans hxv)
        subst ey
        refine ⟨rfl, yes_then ?_⟩
        refine ⟨_, rfl, _, ds[i], rfl, hve.same s1, fun H2 s2 => ⟨_, s2 _ _ h1D, ?_, same_st (s1.trans s2) hD, ?_⟩⟩
        · rw [List.length_map, List.length_map, List.length_take]
          exact Nat.lt_of_le_of_lt (Nat.min_le_right _ _) (small1000 h1000)
        · rw [upd_same, List.take_add_one, List.getElem?_eq_getElem hi, List.map_append, List.map_append]
          rfl
      · rintro H1 ⟨s1, h1D⟩
        refine ⟨D, ds.map isWayItemP, rfl, .inl (.inl (by rw [h1D, List.take_of_length_le (by omega)])), ?_⟩
        have e : ds.all isWayItemP = (ds.map isWayItemP).all id := by
          rw [List.all_map]
          rfl
        have := q H1 s1
        rw [e] at this
        exact this
    · have := q0 H0 s0
      rw [ask_head_of (by simpa using g1)] at this
      exact this
theorem sc_is_item : FnScope ["value"] ["value"] (defScope sIsItem) := ⟨rfl, rfl, rfl, by decide +kernel, rfl, by decide +kernel, by decide +kernel⟩
theorem ok_is_item {f : Addr} {fd : FuncData} (F : Fun K "is_item" "is_item" sIsItem f fd) (T : Txt K mg lt0 lt1 t0 t1 t2 t3 t4 t5 t6 t7) {f1 : Addr} {fd1 : FuncData} (F_is_bare : Fun K "_is_bare" "_is_bare" sBare f1 fd1) (b_is_bare : Binds K fd1 ["value", "words"] []) (g_is_bare : mg "_is_bare" = some (.ref f1)) (G_is_bare : FnOk P w K mg base CX0 2 f1 fd1 ["value", "words"] (spChkW K isBareP)) {f2 : Addr} {fd2 : FuncData} (F_is_way_item : Fun K "is_way_item" "is_way_item" sWayItem f2 fd2) (b_is_way_item : Binds K fd2 ["value"] []) (g_is_way_item : mg "is_way_item" = some (.ref f2)) (G_is_way_item : FnOk P w K mg base CX0 3 f2 fd2 ["value"] (spChk K isWayItemP)) {f3 : Addr} {fd3 : FuncData} (F_is_ask : Fun K "_is_ask" "_is_ask" sAsk f3 fd3) (b_is_ask : Binds K fd3 ["value"] []) (g_is_ask : mg "_is_ask" = some (.ref f3)) (G_is_ask : FnOk P w K mg base CX0 5 f3 fd3 ["value"] (spChk K isAskP)) : FnOk P w K mg base CX0 6 f fd ["value"] (spChk K isItemP) := by
  refine F.ok sc_is_item (fun vs H Q E h => ?_) (fun cdv A outer s H vs Q E hr h => ?_)
  · obtain ⟨x, d, rfl, _⟩ := h
    rfl
  · obtain ⟨x, d, rfl, hv, q⟩ := h
    refine ⟨_, (pss_one (ps_ret (pe_or (pe_call G_is_bare (hr.mono (by decide)) (by rfl) g_is_bare F_is_bare.kp b_is_bare .nil pass0 (pa_cons (pv 0) (pa_cons (pe_glob (v := .ref t0) rfl T.c_OPENERS rfl) pa_nil))) (pe_or (pe_call G_is_way_item (hr.mono (by decide)) (by rfl) g_is_way_item F_is_way_item.kp b_is_way_item .nil pass0 (pa_cons (pv 0) pa_nil)) (pe_one (pe_call G_is_ask hr (by rfl) g_is_ask F_is_ask.kp b_is_ask .nil pass0 (pa_cons (pv 0) pa_nil))))))), ?_⟩
    refine ⟨_, rfl, _, d, t0, wOpen, rfl, hv, T.w0 _, fun H' s' => ⟨_, rfl, ite2 (fun h1 => ?_) (fun h1 => ⟨_, rfl, _, d, rfl, hv.same s', fun H'' s'' => ⟨_, rfl, ite2 (fun h2 => ?_) (fun h2 => ⟨_, rfl, _, d, rfl, hv.same (s'.trans s''), fun H3 s3 => ?_⟩)⟩⟩)⟩⟩
    · have := q H' s'
      rw [(by unfold isItemP; rw [h1]; rfl : isItemP d = true)] at this
      exact this
    · have := q H'' (s'.trans s'')
      rw [(by unfold isItemP; rw [bf h1, h2]; rfl : isItemP d = true)] at this
      exact this
    · have := q H3 ((s'.trans s'').trans s3)
      rw [(by unfold isItemP; rw [bf h1, bf h2]; rfl : isItemP d = isAskP d)] at this
      exact this
theorem sc_is_step : FnScope ["value"] ["value"] (defScope sIsStep) := ⟨rfl, rfl, rfl, by decide +kernel, rfl, by decide +kernel, by decide +kernel⟩
theorem ok_is_step {f : Addr} {fd : FuncData} (F : Fun K "is_step" "is_step" sIsStep f fd) (T : Txt K mg lt0 lt1 t0 t1 t2 t3 t4 t5 t6 t7) {f1 : Addr} {fd1 : FuncData} (F_is_bare : Fun K "_is_bare" "_is_bare" sBare f1 fd1) (b_is_bare : Binds K fd1 ["value", "words"] []) (g_is_bare : mg "_is_bare" = some (.ref f1)) (G_is_bare : FnOk P w K mg base CX0 2 f1 fd1 ["value", "words"] (spChkW K isBareP)) {f2 : Addr} {fd2 : FuncData} (F_is_named : Fun K "_is_named" "_is_named" sNamed f2 fd2) (b_is_named : Binds K fd2 ["value", "words"] []) (g_is_named : mg "_is_named" = some (.ref f2)) (G_is_named : FnOk P w K mg base CX0 2 f2 fd2 ["value", "words"] (spChkW K isNamedP)) : FnOk P w K mg base CX0 3 f fd ["value"] (spChk K isStepP) := by
  refine F.ok sc_is_step (fun vs H Q E h => ?_) (fun cdv A outer s H vs Q E hr h => ?_)
  · obtain ⟨x, d, rfl, _⟩ := h
    rfl
  · obtain ⟨x, d, rfl, hv, q⟩ := h
    refine ⟨_, (pss_one (ps_ret (pe_or (pe_call G_is_bare hr (by rfl) g_is_bare F_is_bare.kp b_is_bare .nil pass0 (pa_cons (pv 0) (pa_cons (pe_glob (v := .ref t4) rfl T.c_BARE_STEPS rfl) pa_nil))) (pe_one (pe_call G_is_named hr (by rfl) g_is_named F_is_named.kp b_is_named .nil pass0 (pa_cons (pv 0) (pa_cons (pe_glob (v := .ref t5) rfl T.c_NAMED_STEPS rfl) pa_nil))))))), ?_⟩
    refine ⟨_, rfl, _, d, t4, wSteps, rfl, hv, T.w4 _, fun H' s' => ⟨_, rfl, ite2 (fun h1 => ?_) (fun h1 => ⟨_, rfl, _, d, t5, wNSteps, rfl, hv.same s', T.w5 _, fun H'' s'' => ?_⟩)⟩⟩
    · have := q H' s'
      rw [(by unfold isStepP; rw [h1]; rfl : isStepP d = true)] at this
      exact this
    · have := q H'' (s'.trans s'')
      rw [(by unfold isStepP; rw [bf h1, Bool.false_or] : isStepP d = isNamedP wNSteps d)] at this
      exact this
theorem word_str {ws : List Str} {d : PyData} (h : isWordP ws d = true) : ∃ z, d = .str z := by
  cases d <;> first | exact ⟨_, rfl⟩ | cases h
theorem bare_head {ws : List Str} {d : PyData} (h : isBareP ws d = true) : ∃ z r, d = .tuple (.str z :: r) := by
  match d, h with
  | .tuple [e], h =>
    obtain ⟨z, rfl⟩ := word_str (ws := ws) (d := e) h
    exact ⟨z, [], rfl⟩
theorem named_head {ws : List Str} {d : PyData} (h : isNamedP ws d = true) : ∃ z r, d = .tuple (.str z :: r) := by
  match d, h with
  | .tuple [e, g], h =>
    obtain ⟨z, rfl⟩ := word_str (ws := ws) (d := e) (Bool.and_eq_true_iff.mp h).1
    exact ⟨z, [g], rfl⟩
theorem ask_head {d : PyData} (h : isAskP d = true) : ∃ z r, d = .tuple (.str z :: r) := by
  match d, h with
  | .tuple [e, g, k], h =>
    obtain ⟨z, rfl⟩ := word_str (ws := wAsk) (d := e) (Bool.and_eq_true_iff.mp h).1
    exact ⟨z, [g, k], rfl⟩
theorem step_head {d : PyData} (h : isStepP d = true) : ∃ z r, d = .tuple (.str z :: r) := by
  unfold isStepP at h
  rcases Bool.or_eq_true_iff.mp h with h | h
  · exact bare_head h
  · exact named_head h
theorem inner_head {d : PyData} (h : isWayItemP d = true) : ∃ z r, d = .tuple (.str z :: r) := by
  unfold isWayItemP at h
  rcases Bool.or_eq_true_iff.mp h with h | h
  · exact bare_head h
  · exact named_head h
theorem item_head {d : PyData} (h : isItemP d = true) : ∃ z r, d = .tuple (.str z :: r) := by
  unfold isItemP at h
  rcases Bool.or_eq_true_iff.mp h with h | h
  · exact bare_head h
  · rcases Bool.or_eq_true_iff.mp h with h | h
    · exact inner_head h
    · exact ask_head h
theorem sc_is_use : FnScope ["value"] ["value"] (defScope sIsUse) := ⟨rfl, rfl, rfl, by decide +kernel, rfl, by decide +kernel, by decide +kernel⟩
theorem ok_is_use {f : Addr} {fd : FuncData} (F : Fun K "is_use" "is_use" sIsUse f fd) (T : Txt K mg lt0 lt1 t0 t1 t2 t3 t4 t5 t6 t7) {f1 : Addr} {fd1 : FuncData} (F_is_item : Fun K "is_item" "is_item" sIsItem f1 fd1) (b_is_item : Binds K fd1 ["value"] []) (g_is_item : mg "is_item" = some (.ref f1)) (G_is_item : FnOk P w K mg base CX0 6 f1 fd1 ["value"] (spChk K isItemP)) {f2 : Addr} {fd2 : FuncData} (F_is_step : Fun K "is_step" "is_step" sIsStep f2 fd2) (b_is_step : Binds K fd2 ["value"] []) (g_is_step : mg "is_step" = some (.ref f2)) (G_is_step : FnOk P w K mg base CX0 3 f2 fd2 ["value"] (spChk K isStepP)) : FnOk P w K mg base CX0 7 f fd ["value"] (spChk K isUseP) := by
  refine F.ok sc_is_use (fun vs H Q E h => ?_) (fun cdv A outer s H vs Q E hr h => ?_)
  · obtain ⟨x, d, rfl, _⟩ := h
    rfl
  · obtain ⟨x, d, rfl, hv, q⟩ := h
    refine ⟨_, (pss_cons (ps_if (PW.pt (pw_and (pt_val (pe_call G_is_item hr (by rfl) g_is_item F_is_item.kp b_is_item .nil pass0 (pa_cons (pv 0) pa_nil))) (pw_and1 (pt_cmpR op_in_seq (pe_ix ix_tup (pv 0) pe_int (fun _ _ => rfl)) (pe_glob (v := .ref t6) rfl T.c_USING_ITEMS rfl) (by rfl))))) 
          (pss_one (ps_ret pe_bl)) pss_nil) 
        (pss_one (ps_ret (pe_and (pe_call G_is_step (hr.mono (by decide)) (by rfl) g_is_step F_is_step.kp b_is_step .nil pass0 (pa_cons (pv 0) pa_nil)) (pe_one (pe_cmpR op_in_seq (pe_ix ix_tup (pv 0) pe_int (fun _ _ => rfl)) (pe_glob (v := .ref t7) rfl T.c_USING_STEPS rfl) (by rfl))))))), ?_⟩
    refine ⟨_, rfl, _, d, rfl, hv, fun H' s' => ⟨_, rfl, ite2 (fun h1 => ?_) (fun h1 => iteF ?no1)⟩⟩
    · obtain ⟨z, r, rfl⟩ := item_head h1
      obtain ⟨b, xs, rfl, hs, ha, hl, h1000, hget⟩ := hv.tup
      obtain ⟨v, hx, hve⟩ := hget 0 _ rfl
      obtain ⟨rfl, _⟩ := hve.str
      refine ⟨_, rfl, b, xs, _, _, rfl, rfl, Same.seqT s' hs, atI_nat hx, t6, _, rfl, .inr (T.w6 _), rfl, flat_words wUItems, _, rfl, ite2 (fun h2 => ?_) (fun h2 => ?no2)⟩
      · have h2 : inV (.str z) (wUItems.map V.str) = true := h2
        rw [inV_words] at h2
        have := q H' s'
        have e1 : headP wUItems (.tuple (.str z :: r)) = true := h2
        rw [(by unfold isUseP; rw [h1, e1]; rfl : isUseP (.tuple (.str z :: r)) = true)] at this
        exact this
      case no2 =>
        have h2 : ¬ inV (.str z) (wUItems.map V.str) = true := h2
        rw [inV_words] at h2
        have e0 : isUseP (.tuple (.str z :: r)) = (isStepP (.tuple (.str z :: r)) && headP wUSteps (.tuple (.str z :: r))) := by
          have e1 : headP wUItems (.tuple (.str z :: r)) = false := bf h2
          unfold isUseP
          rw [e1, Bool.and_false, Bool.false_or]
        refine ⟨_, rfl, _, _, rfl, hv.same s', fun H'' s'' => ⟨_, rfl, ite2 (fun h3 => ?_) (fun h3 => ?_)⟩⟩
        · refine ⟨_, rfl, b, xs, _, _, rfl, rfl, Same.seqT (s'.trans s'') hs, atI_nat hx, t7, _, rfl, .inr (T.w7 _), rfl, flat_words wUSteps, ?_⟩
          have := q H'' (s'.trans s'')
          rw [e0, h3, Bool.true_and] at this
          show Q (.bl (inV (.str z) (wUSteps.map V.str))) H''
          rw [inV_words]
          exact this
        · have := q H'' (s'.trans s'')
          rw [e0, bf h3, Bool.false_and] at this
          exact this
    case no1 =>
      have e0 : isUseP d = (isStepP d && headP wUSteps d) := by
        unfold isUseP
        rw [bf h1, Bool.false_and, Bool.false_or]
      refine ⟨_, rfl, _, d, rfl, hv.same s', fun H'' s'' => ⟨_, rfl, ite2 (fun h3 => ?_) (fun h3 => ?_)⟩⟩
      · obtain ⟨z, r, rfl⟩ := step_head h3
        obtain ⟨b, xs, rfl, hs, ha, hl, h1000, hget⟩ := hv.tup
        obtain ⟨v, hx, hve⟩ := hget 0 _ rfl
        obtain ⟨rfl, _⟩ := hve.str
        refine ⟨_, rfl, b, xs, _, _, rfl, rfl, Same.seqT (s'.trans s'') hs, atI_nat hx, t7, _, rfl, .inr (T.w7 _), rfl, flat_words wUSteps, ?_⟩
        have := q H'' (s'.trans s'')
        rw [e0, h3, Bool.true_and] at this
        show Q (.bl (inV (.str z) (wUSteps.map V.str))) H''
        rw [inV_words]
        exact this
      · have := q H'' (s'.trans s'')
        rw [e0, bf h3, Bool.false_and] at this
        exact this
end
end K03

namespace K03
open PySem PySem.Spec PyProof.Rows L2 TL
section
variable {P : Program} {w : World} {K : PySem.W.Frag} {mg : Str → Option Value} {base : Heap} {lt0 lt1 : Tok} {t0 t1 t2 t3 t4 t5 t6 t7 : Addr}
/-! ### the mathematics of the texts -/
/-- the 26 letters, as the law writes them -/
abbrev abcS : Str := "abcdefghijklmnopqrstuvwxyz"
theorem abc_list : abcS.cps.toList = (List.range 26).map (97 + ·) := by decide +kernel
theorem abc_mem (c : Nat) : c ∈ abcS.cps.toList ↔ 97 ≤ c ∧ c ≤ 122 := by
  rw [abc_list]
  simp only [List.mem_map, List.mem_range]
  constructor
  · rintro ⟨a, h, rfl⟩
    omega
  · intro h
    exact ⟨c - 97, by omega, by omega⟩
theorem one_lt (a b : Nat) : ([a] < [b]) ↔ a < b := by
  simp [List.cons_lt_cons_iff]
theorem letB_abc (c : Nat) : letB c = decide (c ∈ abcS.cps.toList) := by
  unfold letB
  rw [Bool.eq_iff_iff]
  simp only [Bool.and_eq_true, Bool.not_eq_true', decide_eq_false_iff_not, decide_eq_true_eq, one_lt, abc_mem]
  omega
/-- a text of Python's own signs -/
def Sane (z : Str) : Prop := ∀ c ∈ z.cps.toList, c < 1114112
theorem sane_odds {z : Str} (h : Sane z) : ∀ y ∈ (z.cps.toList.filter fun c => !decide (c ∈ abcS.cps.toList)).map (fun c => (⟨#[c]⟩ : Str)), Sane y := by
  intro y hy c hc
  obtain ⟨d, hd, rfl⟩ := List.mem_map.mp hy
  have e : c = d := by simpa using hc
  rw [e]
  exact h d ((List.mem_filter.mp hd).1)
def oddC (c : Nat) : Bool := !decide (c ∈ abcS.cps.toList)
def odds (cs : List Nat) : List Str := (cs.filter oddC).map fun c => ⟨#[c]⟩
theorem odds_snoc {cs : List Nat} {i c : Nat} (hc : cs[i]? = some c) : odds (cs.take (i + 1)) = odds (cs.take i) ++ (if oddC c = true then [⟨#[c]⟩] else []) := by
  unfold odds
  rw [List.take_add_one, hc, List.filter_append, List.map_append]
  congr 1
  show List.map _ (List.filter oddC [c]) = _
  cases h : oddC c <;> simp [h]
theorem odds_len (cs : List Nat) : (odds cs).length ≤ cs.length := by
  unfold odds
  rw [List.length_map]
  exact List.length_filter_le ..
theorem odds_nil (cs : List Nat) : (odds cs).isEmpty = cs.all letB := by
  unfold odds
  rw [List.isEmpty_map]
  induction cs with
  | nil => rfl
  | cons c r ih =>
    rw [List.filter_cons, List.all_cons, letB_abc, ← ih]
    unfold oddC
    cases decide (c ∈ abcS.cps.toList) <;> rfl
theorem dp_strs {K : PySem.W.Frag} {H : Hp} : ∀ ys : List Str, DpAll K H (ys.map V.str) (ys.map PyData.str)
  | [] => .nil
  | y :: r => .cons (.str y) (dp_strs r)
theorem strs_can : ∀ ys : List Str, (∀ y ∈ ys, Sane y) → PyData.canLayAll0 (ys.map PyData.str) = true ∧ PyData.depthAll (ys.map PyData.str) ≤ 1
  | [], _ => ⟨rfl, by decide⟩
  | y :: r, h => by
    obtain ⟨h1, h2⟩ := strs_can r fun z hz => h z (List.mem_cons_of_mem _ hz)
    refine ⟨?_, ?_⟩
    · show (PyData.canLay0 (PyData.str y) && PyData.canLayAll0 (r.map PyData.str)) = true
      rw [h1, Bool.and_true]
      show y.cps.all (· < 0x110000) = true
      rw [← Array.all_toList, List.all_eq_true]
      intro c hc
      exact decide_eq_true (h y (List.mem_cons_self ..) c hc)
    · show max (PyData.depth (PyData.str y)) (PyData.depthAll (r.map PyData.str)) ≤ 1
      exact Nat.max_le.mpr ⟨by simp [PyData.depth], h2⟩
theorem strs_lay (ys : List Str) (h : ∀ y ∈ ys, Sane y) : SeqAt.shaped (PyData.list (ys.map PyData.str)) = true := by
  obtain ⟨h1, h2⟩ := strs_can ys h
  unfold SeqAt.shaped
  rw [Bool.and_eq_true, decide_eq_true_eq]
  refine ⟨h1, ?_⟩
  show PyData.depthAll (ys.map PyData.str) + 1 ≤ 64
  omega
theorem strs_eqv (ys : List Str) : PyData.eqv (PyData.list (ys.map PyData.str)) (PyData.list []) = ys.isEmpty := by
  cases ys with
  | nil => rfl
  | cons y r => rfl
theorem Val.dp {H : Hp} {x : V} {ds : List PyData} (h : Val K H x (.tuple ds)) : Dp K H x (.tuple ds) ∧ Good 60 (.tuple ds) := by
  rcases h with h | ⟨h, _⟩
  · exact h
  · cases h
theorem eqv_unit (ds : List PyData) : PyData.eqv (.tuple ds) (.tuple []) = ds.isEmpty := by
  cases ds <;> rfl
theorem word_no {d : PyData} (h : isStr d = false) (ws : List Str) : isWordP ws d = false := by
  cases d <;> first | rfl | cases h
theorem hd_no {d : PyData} {r : List PyData} (h : isStr d = false) (ws : List Str) : isBareP ws (.tuple (d :: r)) = false ∧ isNamedP ws (.tuple (d :: r)) = false ∧ isAskP (.tuple (d :: r)) = false := by
  have hw := word_no h
  match r with
  | [] => exact ⟨hw ws, rfl, rfl⟩
  | [e] => exact ⟨rfl, by show (isWordP ws d && _) = false; rw [hw]; rfl, rfl⟩
  | [e, g] => exact ⟨rfl, rfl, by show (isWordP wAsk d && _) = false; rw [hw]; rfl⟩
  | e :: g :: k :: r => exact ⟨rfl, rfl, rfl⟩
theorem one_word (u z : Str) : [u].any (· == z) = decide (V.str z = V.str u) := by
  rw [Bool.eq_iff_iff]
  simp only [List.any_cons, List.any_nil, Bool.or_false, beq_iff_eq, decide_eq_true_eq, V.str.injEq]
  exact ⟨fun h => h.symm, fun h => h.symm⟩
theorem sc_l_is_name : FnScope ["_law_value", "_law_sign"] ["_law_value"] (defScope slName) := ⟨rfl, rfl, rfl, by decide +kernel, rfl, by decide +kernel, by decide +kernel⟩
theorem ok_l_is_name {f : Addr} {fd : FuncData} (F : Fun K "_law_is_name" "_law_is_name" slName f fd) (T : Txt K mg lt0 lt1 t0 t1 t2 t3 t4 t5 t6 t7) : FnOk P w K mg base CX0 1 f fd ["_law_value"] (spChk K isNameP) := by
  refine F.ok sc_l_is_name (fun vs H Q E h => ?_) (fun cdv A outer s H vs Q E hr h => ?_)
  · obtain ⟨x, d, rfl, _⟩ := h
    rfl
  · obtain ⟨x, d, rfl, hv, q⟩ := h
    refine ⟨_, (pss_cons (ps_if (PW.pt (pw_or (pt_not (pt_val (pe_callB call_isi (by rfl) T.m_isinstance (by decide +kernel) (pa_cons (pv 0) (pa_cons (pe_bltn (v := .ty "str") (u := .type "str") (by rfl) T.m_str (by decide +kernel) rfl) pa_nil))))) (pw_or1 (pt_not (pt_chain op_le op_le pe_int (pe_callB call_len_str (by rfl) T.m_len PySem.boot_len (pa_cons (pv 0) pa_nil)) pe_int))))) 
          (pss_one (ps_ret pe_bl)) pss_nil) 
        (pss_one (ps_ret (pe_cmpR (op_eqD hr.units) (pe_lc (own := [("_law_sign", 1)]) (g := gName 1) rfl sc_l_is_name.nd (pi_str (pv 0)) (blkOk_by (N := ["_law_value", "_law_sign"]) (sc := defScope slName) (by decide +kernel)) (fun _ _ _ _ _ => pg_name (i := 1) sc_l_is_name.nd rfl (.inl rfl)) (fun _ _ _ _ _ => (pts_one (pt_cmpR op_notIn_sign (pv 1) pe_str rfl))) (fun _ _ _ _ _ => (pv 1))) (pe_lst pa_nil) (nomark _))))), ?_⟩
    cases hd : isStr d with
    | false =>
      have e : isNameP d = false := by cases d <;> first | rfl | cases hd
      have := q H (Same.refl H)
      rw [e] at this
      exact ⟨_, rfl, _, _, _, _, false, rfl, .ty "str", hv.ty, hd ▸ isi_str d, _, rfl, iteT (iteT this)⟩
    | true =>
    obtain ⟨z, rfl⟩ : ∃ z, d = .str z := by cases d <;> first | exact ⟨_, rfl⟩ | cases hd
    obtain ⟨rfl, hz, hsz⟩ := hv.str
    have q : ∀ H', Same H H' → Q (.bl (isName z)) H' := q
    have no : isName z = false → Q (.bl false) H := fun e => by
      have := q H (Same.refl H)
      rw [e] at this
      exact this
    refine ⟨_, rfl, _, _, _, _, true, rfl, .ty "str", .base (.str z), kit_ty (by decide +kernel), _, rfl, iteF ⟨_, rfl, z, rfl, Nat.le_of_lt (small1000 hz), _, _, rfl, rfl, _, rfl, ite2 (fun h1 => ⟨_, _, rfl, rfl, _, rfl, ite2 (fun h2 => no ?_) (fun h2 => ?_)⟩) (fun h1 => ⟨_, rfl, iteT (no ?_)⟩)⟩⟩
    · have h2' : decide ((z.length : Int) ≤ 8) = false := by simpa using h2
      unfold isName
      rw [h2', Bool.and_false]
      rfl
    rotate_left
    · unfold isName
      rw [bf h1]
      rfl
    have h2' : decide ((z.length : Int) ≤ 8) = true := by simpa using h2
    have h1' : decide (1 ≤ (z.length : Int)) = true := h1
    refine ⟨_, rfl, z, rfl, fun D hD => lc_it walk_str (fun i H' => Same H H' ∧ H' D = some (.lst ((odds (z.cps.toList.take i)).map V.str))) ⟨same_upd hD, upd_same⟩ (fun _ _ _ _ => trivial) ?_ ?_⟩
    · rintro i x H1 H2 hi ⟨s1, h1⟩ ⟨rfl, c, hc, rfl⟩
      have hc' : z.cps.toList[i]? = some c := by rw [Array.getElem?_toList]; exact hc
      refine ⟨rfl, _, rfl, c, abcS, rfl, rfl, _, rfl, ?_⟩
      refine ite2 (fun g => ?_) (fun g => ?_)
      · have g' : oddC c = true := g
        have e := odds_snoc hc'
        rw [if_pos g'] at e
        refine ⟨_, rfl, _, h1, ?_, same_st s1 hD, ?_⟩
        · rw [List.length_map]
          have := odds_len (z.cps.toList.take i)
          rw [List.length_take] at this
          exact Nat.lt_of_le_of_lt this (Nat.lt_of_le_of_lt (Nat.min_le_right _ _) (small1000 hz))
        · rw [upd_same, e, List.map_append]
          rfl
      · have g' : ¬ oddC c = true := g
        have e := odds_snoc hc'
        rw [if_neg g', List.append_nil] at e
        exact ⟨s1, by rw [e]; exact h1⟩
    · rintro H1 ⟨s1, h1⟩
      have h1 : H1 D = some (.lst ((odds z.cps.toList).map V.str)) := by
        rw [h1, List.take_of_length_le (Nat.le_of_eq (Array.length_toList ..))]
      refine ⟨Nat.zero_le _, fun p hp => ⟨_, _, .lst (.inl (.inl ((same_upd hp) _ _ h1))) (dp_strs _), .lst (xs := []) (.inl (.inl upd_same)) .nil, strs_lay _ (sane_odds hsz), rfl, ?_⟩⟩
      rw [strs_eqv, odds_nil]
      have s2 : Same H (upd H1 p (.lst [])) := s1.trans (same_upd hp)
      have e : isName z = z.cps.toList.all letB := by
        unfold isName
        rw [h1', h2', Bool.true_and, Bool.true_and]
      have := q _ s2
      rw [e] at this
      exact this
theorem sc_l_is_inner : FnScope ["_law_value"] ["_law_value"] (defScope slInner) := ⟨rfl, rfl, rfl, by decide +kernel, rfl, by decide +kernel, by decide +kernel⟩
theorem ok_l_is_inner {f : Addr} {fd : FuncData} (F : Fun K "_law_is_inner" "_law_is_inner" slInner f fd) (T : Txt K mg lt0 lt1 t0 t1 t2 t3 t4 t5 t6 t7) {f1 : Addr} {fd1 : FuncData} (F_l_is_name : Fun K "_law_is_name" "_law_is_name" slName f1 fd1) (b_l_is_name : Binds K fd1 ["_law_value"] []) (g_l_is_name : mg "_law_is_name" = some (.ref f1)) (G_l_is_name : FnOk P w K mg base CX0 1 f1 fd1 ["_law_value"] (spChk K isNameP)) : FnOk P w K mg base CX0 2 f fd ["_law_value"] (spChk K isWayItemP) := by
  refine F.ok sc_l_is_inner (fun vs H Q E h => ?_) (fun cdv A outer s H vs Q E hr h => ?_)
  · obtain ⟨x, d, rfl, _⟩ := h
    rfl
  · obtain ⟨x, d, rfl, hv, q⟩ := h
    refine ⟨_, (pss_cons (ps_if (PW.pt (pw_or (pt_not (pt_val (pe_callB call_isi (by rfl) T.m_isinstance (by decide +kernel) (pa_cons (pv 0) (pa_cons (pe_bltn (v := .ty "tuple") (u := .type "tuple") (by rfl) T.m_tuple (by decide +kernel) rfl) pa_nil))))) (pw_or (pt_cmpR (op_eqD hr.units) (pv 0) (pe_tup pa_nil) (nomark _)) (pw_or1 (pt_not (pt_val (pe_callB call_isi (by rfl) T.m_isinstance (by decide +kernel) (pa_cons (pe_ix ix_tup (pv 0) pe_int (fun _ _ => rfl)) (pa_cons (pe_bltn (v := .ty "str") (u := .type "str") (by rfl) T.m_str (by decide +kernel) rfl) pa_nil))))))))) 
          (pss_one (ps_ret pe_bl)) pss_nil) 
        (pss_cons (ps_if (pt_cmpR op_eq (pe_callB call_len_seq (by rfl) T.m_len PySem.boot_len (pa_cons (pv 0) pa_nil)) pe_int (nomark _)) 
          (pss_one (ps_ret (pe_cmpR op_in_seq (pe_ix ix_tup (pv 0) pe_int (fun _ _ => rfl)) (pe_lst (pa_cons pe_str (pa_cons pe_str (pa_cons pe_str (pa_cons pe_str (pa_cons pe_str (pa_cons pe_str (pa_cons pe_str pa_nil)))))))) (by rfl)))) pss_nil) 
        (pss_one (ps_ret (pe_and (pe_cmpR op_eq (pe_callB call_len_seq (by rfl) T.m_len PySem.boot_len (pa_cons (pv 0) pa_nil)) pe_int (nomark _)) (pe_and (pe_cmpR op_eq (pe_ix ix_tup (pv 0) pe_int (fun _ _ => rfl)) pe_str (nomark _)) (pe_one (pe_call G_l_is_name hr (by rfl) g_l_is_name F_l_is_name.kp b_l_is_name .nil pass0 (pa_cons (pe_ix ix_tup (pv 0) pe_int (fun _ _ => rfl)) pa_nil))))))))), ?_⟩
    cases hd : isTup d with
    | false =>
      have e : isWayItemP d = false := by cases d <;> first | rfl | cases hd
      have := q H (Same.refl H)
      rw [e] at this
      exact ⟨_, rfl, _, _, _, _, false, rfl, .ty "tuple", hv.ty, hd ▸ isi_tup d, _, rfl, iteT (iteT this)⟩
    | true =>
    obtain ⟨ds, rfl⟩ : ∃ ds, d = .tuple ds := by cases d <;> first | exact ⟨_, rfl⟩ | cases hd
    obtain ⟨b, xs, rfl, hs, ha, hl, h1000, hget⟩ := hv.tup
    refine ⟨_, rfl, _, _, _, _, true, rfl, .ty "tuple", hv.ty, isi_tup _, _, rfl, iteF ⟨_, rfl, Nat.zero_le _, fun u0 hu0 => ⟨_, _, dp_same (same_upd hu0) _ _ hv.dp.1, .tup (xs := []) (.inl (.inl upd_same)) .nil, hv.dp.2.lay (by decide), rfl, _, rfl, ?_⟩⟩⟩
    rw [eqv_unit]
    have s0 : Same H (upd H u0 (.tup [])) := same_upd hu0
    generalize upd H u0 (.tup []) = H0 at s0
    cases ds with
    | nil =>
      have := q _ s0
      rw [(rfl : isWayItemP (.tuple []) = false)] at this
      exact iteT (iteT this)
    | cons d0 r =>
    obtain ⟨v0, hx0, hv0⟩ := hget 0 _ rfl
    refine iteF ⟨_, rfl, b, xs, _, _, rfl, rfl, Same.seqT s0 hs, atI_nat hx0, _, _, _, _, _, rfl, .ty "str", (hv0.same s0).ty, isi_str _, _, rfl, ?_⟩
    cases hstr : isStr d0 with
    | false =>
      have e : isWayItemP (.tuple (d0 :: r)) = false := by
        have h := hd_no (r := r) hstr
        unfold isWayItemP
        rw [(h wBare).1, (h wNamed).2.1]; rfl
      have := q _ s0
      rw [e] at this
      exact iteT this
    | true =>
    obtain ⟨z, rfl⟩ : ∃ z, d0 = .str z := by cases d0 <;> first | exact ⟨_, rfl⟩ | cases hstr
    obtain ⟨rfl, hz, hsz⟩ := hv0.str
    refine iteF ?_
    refine ⟨_, rfl, b, xs, rfl, .inr (Same.seqT s0 hs), rfl, _, rfl, ite2 (fun h1 => ?_) (fun h1 => ?_)⟩
    · have h1 : xs.length = 1 := by
        have := V.int.inj (of_decide_eq_true h1)
        omega
      have er : r = [] := List.eq_nil_of_length_eq_zero (by rw [hl, List.length_cons] at h1; omega)
      subst er
      refine ⟨_, rfl, b, xs, _, _, rfl, rfl, Same.seqT s0 hs, atI_nat hx0, (by show 7 ≤ sizeLine; decide), fun l hl => ⟨l, wBare.map V.str, rfl, .inl (.inl (.inl upd_same)), rfl, flat_words wBare, ?_⟩⟩
      show Q (.bl (inV (.str z) (wBare.map V.str))) _
      rw [inV_words]
      have := q _ (s0.trans (same_upd (o := .lst (wBare.map V.str)) hl))
      rw [(by show (wBare.any (· == z) || false) = _; rw [Bool.or_false] : isWayItemP (.tuple [.str z]) = wBare.any (· == z))] at this
      exact this
    · have h1 : xs.length ≠ 1 := fun k => h1 (decide_eq_true (by rw [k]; rfl))
      refine ⟨_, rfl, b, xs, rfl, .inr (Same.seqT s0 hs), rfl, _, rfl, ite2 (fun h2 => ?_) (fun h2 => ?_)⟩
      · have h2 : xs.length = 2 := by
          have := V.int.inj (of_decide_eq_true h2)
          omega
        obtain ⟨g, rfl⟩ : ∃ g, r = [g] := List.length_eq_one_iff.mp (by rw [hl, List.length_cons] at h2; omega)
        obtain ⟨v1, hx1, hv1⟩ := hget 1 _ rfl
        have e : isWayItemP (.tuple [.str z, g]) = (decide (V.str z = V.str "start") && isNameP g) := by
          show (false || (wNamed.any (· == z) && isNameP g)) = _
          rw [Bool.false_or, one_word]
        refine ⟨_, rfl, b, xs, _, _, rfl, rfl, Same.seqT s0 hs, atI_nat hx0, rfl, _, rfl, ite2 (fun h3 => ?_) (fun h3 => ?_)⟩
        · refine ⟨_, rfl, b, xs, _, _, rfl, rfl, Same.seqT s0 hs, atI_nat hx1, _, g, rfl, hv1.same s0, fun H' s' => ?_⟩
          have := q H' (s0.trans s')
          rw [e, h3, Bool.true_and] at this
          exact this
        · have := q _ s0
          rw [e, bf h3, Bool.false_and] at this
          exact this
      · have h2 : xs.length ≠ 2 := fun k => h2 (decide_eq_true (by rw [k]; rfl))
        have e : isWayItemP (.tuple (.str z :: r)) = false := by
          match r, hl with
          | [], hl => exact absurd hl h1
          | [_], hl => exact absurd hl h2
          | _ :: _ :: _, _ => rfl
        have := q _ s0
        rw [e] at this
        exact this
theorem sc_l_is_step : FnScope ["_law_value"] ["_law_value"] (defScope slStep) := ⟨rfl, rfl, rfl, by decide +kernel, rfl, by decide +kernel, by decide +kernel⟩
theorem ok_l_is_step {f : Addr} {fd : FuncData} (F : Fun K "_law_is_step" "_law_is_step" slStep f fd) (T : Txt K mg lt0 lt1 t0 t1 t2 t3 t4 t5 t6 t7) {f1 : Addr} {fd1 : FuncData} (F_l_is_name : Fun K "_law_is_name" "_law_is_name" slName f1 fd1) (b_l_is_name : Binds K fd1 ["_law_value"] []) (g_l_is_name : mg "_law_is_name" = some (.ref f1)) (G_l_is_name : FnOk P w K mg base CX0 1 f1 fd1 ["_law_value"] (spChk K isNameP)) : FnOk P w K mg base CX0 2 f fd ["_law_value"] (spChk K isStepP) := by
  refine F.ok sc_l_is_step (fun vs H Q E h => ?_) (fun cdv A outer s H vs Q E hr h => ?_)
  · obtain ⟨x, d, rfl, _⟩ := h
    rfl
  · obtain ⟨x, d, rfl, hv, q⟩ := h
    refine ⟨_, (pss_cons (ps_if (PW.pt (pw_or (pt_not (pt_val (pe_callB call_isi (by rfl) T.m_isinstance (by decide +kernel) (pa_cons (pv 0) (pa_cons (pe_bltn (v := .ty "tuple") (u := .type "tuple") (by rfl) T.m_tuple (by decide +kernel) rfl) pa_nil))))) (pw_or (pt_cmpR (op_eqD hr.units) (pv 0) (pe_tup pa_nil) (nomark _)) (pw_or1 (pt_not (pt_val (pe_callB call_isi (by rfl) T.m_isinstance (by decide +kernel) (pa_cons (pe_ix ix_tup (pv 0) pe_int (fun _ _ => rfl)) (pa_cons (pe_bltn (v := .ty "str") (u := .type "str") (by rfl) T.m_str (by decide +kernel) rfl) pa_nil))))))))) 
          (pss_one (ps_ret pe_bl)) pss_nil) 
        (pss_cons (ps_if (pt_cmpR op_eq (pe_callB call_len_seq (by rfl) T.m_len PySem.boot_len (pa_cons (pv 0) pa_nil)) pe_int (nomark _)) 
          (pss_one (ps_ret (pe_cmpR op_in_seq (pe_ix ix_tup (pv 0) pe_int (fun _ _ => rfl)) (pe_lst (pa_cons pe_str (pa_cons pe_str (pa_cons pe_str (pa_cons pe_str (pa_cons pe_str (pa_cons pe_str (pa_cons pe_str pa_nil)))))))) (by rfl)))) pss_nil) 
        (pss_one (ps_ret (pe_and (pe_cmpR op_eq (pe_callB call_len_seq (by rfl) T.m_len PySem.boot_len (pa_cons (pv 0) pa_nil)) pe_int (nomark _)) (pe_and (pe_cmpR op_in_seq (pe_ix ix_tup (pv 0) pe_int (fun _ _ => rfl)) (pe_lst (pa_cons pe_str (pa_cons pe_str (pa_cons pe_str (pa_cons pe_str pa_nil))))) (by rfl)) (pe_one (pe_call G_l_is_name hr (by rfl) g_l_is_name F_l_is_name.kp b_l_is_name .nil pass0 (pa_cons (pe_ix ix_tup (pv 0) pe_int (fun _ _ => rfl)) pa_nil))))))))), ?_⟩
    cases hd : isTup d with
    | false =>
      have e : isStepP d = false := by cases d <;> first | rfl | cases hd
      have := q H (Same.refl H)
      rw [e] at this
      exact ⟨_, rfl, _, _, _, _, false, rfl, .ty "tuple", hv.ty, hd ▸ isi_tup d, _, rfl, iteT (iteT this)⟩
    | true =>
    obtain ⟨ds, rfl⟩ : ∃ ds, d = .tuple ds := by cases d <;> first | exact ⟨_, rfl⟩ | cases hd
    obtain ⟨b, xs, rfl, hs, ha, hl, h1000, hget⟩ := hv.tup
    refine ⟨_, rfl, _, _, _, _, true, rfl, .ty "tuple", hv.ty, isi_tup _, _, rfl, iteF ⟨_, rfl, Nat.zero_le _, fun u0 hu0 => ⟨_, _, dp_same (same_upd hu0) _ _ hv.dp.1, .tup (xs := []) (.inl (.inl upd_same)) .nil, hv.dp.2.lay (by decide), rfl, _, rfl, ?_⟩⟩⟩
    rw [eqv_unit]
    have s0 : Same H (upd H u0 (.tup [])) := same_upd hu0
    generalize upd H u0 (.tup []) = H0 at s0
    cases ds with
    | nil =>
      have := q _ s0
      rw [(rfl : isStepP (.tuple []) = false)] at this
      exact iteT (iteT this)
    | cons d0 r =>
    obtain ⟨v0, hx0, hv0⟩ := hget 0 _ rfl
    refine iteF ⟨_, rfl, b, xs, _, _, rfl, rfl, Same.seqT s0 hs, atI_nat hx0, _, _, _, _, _, rfl, .ty "str", (hv0.same s0).ty, isi_str _, _, rfl, ?_⟩
    cases hstr : isStr d0 with
    | false =>
      have e : isStepP (.tuple (d0 :: r)) = false := by
        have h := hd_no (r := r) hstr
        unfold isStepP
        rw [(h wSteps).1, (h wNSteps).2.1]; rfl
      have := q _ s0
      rw [e] at this
      exact iteT this
    | true =>
    obtain ⟨z, rfl⟩ : ∃ z, d0 = .str z := by cases d0 <;> first | exact ⟨_, rfl⟩ | cases hstr
    obtain ⟨rfl, hz, hsz⟩ := hv0.str
    refine iteF ?_
    refine ⟨_, rfl, b, xs, rfl, .inr (Same.seqT s0 hs), rfl, _, rfl, ite2 (fun h1 => ?_) (fun h1 => ?_)⟩
    · have h1 : xs.length = 1 := by
        have := V.int.inj (of_decide_eq_true h1)
        omega
      have er : r = [] := List.eq_nil_of_length_eq_zero (by rw [hl, List.length_cons] at h1; omega)
      subst er
      refine ⟨_, rfl, b, xs, _, _, rfl, rfl, Same.seqT s0 hs, atI_nat hx0, (by show 7 ≤ sizeLine; decide), fun l hl => ⟨l, wSteps.map V.str, rfl, .inl (.inl (.inl upd_same)), rfl, flat_words wSteps, ?_⟩⟩
      show Q (.bl (inV (.str z) (wSteps.map V.str))) _
      rw [inV_words]
      have := q _ (s0.trans (same_upd (o := .lst (wSteps.map V.str)) hl))
      rw [(by show (wSteps.any (· == z) || false) = _; rw [Bool.or_false] : isStepP (.tuple [.str z]) = wSteps.any (· == z))] at this
      exact this
    · have h1 : xs.length ≠ 1 := fun k => h1 (decide_eq_true (by rw [k]; rfl))
      refine ⟨_, rfl, b, xs, rfl, .inr (Same.seqT s0 hs), rfl, _, rfl, ite2 (fun h2 => ?_) (fun h2 => ?_)⟩
      · have h2 : xs.length = 2 := by
          have := V.int.inj (of_decide_eq_true h2)
          omega
        obtain ⟨g, rfl⟩ : ∃ g, r = [g] := List.length_eq_one_iff.mp (by rw [hl, List.length_cons] at h2; omega)
        obtain ⟨v1, hx1, hv1⟩ := hget 1 _ rfl
        have e : isStepP (.tuple [.str z, g]) = (wNSteps.any (· == z) && isNameP g) := by
          show (false || (wNSteps.any (· == z) && isNameP g)) = _
          rw [Bool.false_or]
        refine ⟨_, rfl, b, xs, _, _, rfl, rfl, Same.seqT s0 hs, atI_nat hx0, (by show 4 ≤ sizeLine; decide), fun l hl => ⟨l, wNSteps.map V.str, rfl, .inl (.inl (.inl upd_same)), rfl, flat_words wNSteps, _, rfl, ite2 (fun h3 => ?_) (fun h3 => ?_)⟩⟩
        · have s1 := s0.trans (same_upd (o := .lst (wNSteps.map V.str)) hl)
          have h3 : inV (.str z) (wNSteps.map V.str) = true := h3
          rw [inV_words] at h3
          refine ⟨_, rfl, b, xs, _, _, rfl, rfl, Same.seqT s1 hs, atI_nat hx1, _, g, rfl, hv1.same s1, fun H' s' => ?_⟩
          have := q H' (s1.trans s')
          rw [e, h3, Bool.true_and] at this
          exact this
        · have h3 : ¬ inV (.str z) (wNSteps.map V.str) = true := h3
          rw [inV_words] at h3
          have := q _ (s0.trans (same_upd (o := .lst (wNSteps.map V.str)) hl))
          rw [e, bf h3, Bool.false_and] at this
          exact this
      · have h2 : xs.length ≠ 2 := fun k => h2 (decide_eq_true (by rw [k]; rfl))
        have e : isStepP (.tuple (.str z :: r)) = false := by
          match r, hl with
          | [], hl => exact absurd hl h1
          | [_], hl => exact absurd hl h2
          | _ :: _ :: _, _ => rfl
        have := q _ s0
        rw [e] at this
        exact this
end
end K03

namespace K03
open PySem PySem.Spec PyProof.Rows L2 TL
section
variable {P : Program} {w : World} {K : PySem.W.Frag} {mg : Str → Option Value} {base : Heap} {lt0 lt1 : Tok} {t0 t1 t2 t3 t4 t5 t6 t7 : Addr}
theorem two {α : Type} {r : List α} (h : r.length = 2) : ∃ a b, r = [a, b] := by
  match r, h with
  | [a, b], _ => exact ⟨a, b, rfl⟩
theorem filt_snoc {es : List PyData} {i : Nat} {e : PyData} (h : es[i]? = some e) (g : PyData → Bool) : (es.take (i + 1)).filter g = (es.take i).filter g ++ (if g e = true then [e] else []) := by
  rw [List.take_add_one, h, List.filter_append]
  congr 1
  show List.filter g [e] = _
  cases k : g e <;> simp [k]
theorem filt_all (es : List PyData) (g : PyData → Bool) : (es.filter fun e => !g e).isEmpty = es.all g := by
  induction es with
  | nil => rfl
  | cons e r ih =>
    rw [List.filter_cons, List.all_cons, ← ih]
    cases k : g e <;> simp
theorem eqv_nil (es : List PyData) : PyData.eqv (.list es) (.list []) = es.isEmpty := by
  cases es <;> rfl
theorem dpAll_app {H : Hp} : ∀ {xs ys : List V} {ds es : List PyData}, DpAll K H xs ds → DpAll K H ys es → DpAll K H (xs ++ ys) (ds ++ es)
  | _, _, _, _, .nil, k => k
  | _, _, _, _, .cons h r, k => .cons h (dpAll_app r k)
theorem Val.dp1 {H : Hp} {x : V} {d : PyData} (h : Val K H x d) (k : ∀ e, d ≠ .dict e) : Dp K H x d := by
  rcases h with h | ⟨h, _⟩
  · exact h.1
  · exact absurd h (k _)
theorem okD_dict {d : PyData} (h : okD d = true) : ∀ e, d ≠ .dict e := by
  intro e k
  subst k
  cases h
theorem sc_l_is_item : FnScope ["_law_value", "_law_one"] ["_law_value"] (defScope slItem) := ⟨rfl, rfl, rfl, by decide +kernel, rfl, by decide +kernel, by decide +kernel⟩
theorem ok_l_is_item {f : Addr} {fd : FuncData} (F : Fun K "_law_is_item" "_law_is_item" slItem f fd) (T : Txt K mg lt0 lt1 t0 t1 t2 t3 t4 t5 t6 t7) {f1 : Addr} {fd1 : FuncData} (F_l_is_inner : Fun K "_law_is_inner" "_law_is_inner" slInner f1 fd1) (b_l_is_inner : Binds K fd1 ["_law_value"] []) (g_l_is_inner : mg "_law_is_inner" = some (.ref f1)) (G_l_is_inner : FnOk P w K mg base CX0 2 f1 fd1 ["_law_value"] (spChk K isWayItemP)) {f2 : Addr} {fd2 : FuncData} (F_l_is_name : Fun K "_law_is_name" "_law_is_name" slName f2 fd2) (b_l_is_name : Binds K fd2 ["_law_value"] []) (g_l_is_name : mg "_law_is_name" = some (.ref f2)) (G_l_is_name : FnOk P w K mg base CX0 1 f2 fd2 ["_law_value"] (spChk K isNameP)) : FnOk P w K mg base CX0 3 f fd ["_law_value"] (spChk K isItemP) := by
  refine F.ok sc_l_is_item (fun vs H Q E h => ?_) (fun cdv A outer s H vs Q E hr h => ?_)
  · obtain ⟨x, d, rfl, _⟩ := h
    rfl
  · obtain ⟨x, d, rfl, hv, q⟩ := h
    refine ⟨_, (pss_cons (ps_if (pt_val (pe_call G_l_is_inner hr (by rfl) g_l_is_inner F_l_is_inner.kp b_l_is_inner .nil pass0 (pa_cons (pv 0) pa_nil))) 
          (pss_one (ps_ret pe_bl)) pss_nil) 
        (pss_cons (ps_if (PW.pt (pw_or (pt_not (pt_val (pe_callB call_isi (by rfl) T.m_isinstance (by decide +kernel) (pa_cons (pv 0) (pa_cons (pe_bltn (v := .ty "tuple") (u := .type "tuple") (by rfl) T.m_tuple (by decide +kernel) rfl) pa_nil))))) (pw_or (pt_cmpR (op_eqD hr.units) (pv 0) (pe_tup pa_nil) (nomark _)) (pw_or1 (pt_not (pt_val (pe_callB call_isi (by rfl) T.m_isinstance (by decide +kernel) (pa_cons (pe_ix ix_tup (pv 0) pe_int (fun _ _ => rfl)) (pa_cons (pe_bltn (v := .ty "str") (u := .type "str") (by rfl) T.m_str (by decide +kernel) rfl) pa_nil))))))))) 
          (pss_one (ps_ret pe_bl)) pss_nil) 
        (pss_cons (ps_if (pt_cmpR op_eq (pe_callB call_len_seq (by rfl) T.m_len PySem.boot_len (pa_cons (pv 0) pa_nil)) pe_int (nomark _)) 
          (pss_one (ps_ret (pe_cmpR op_in_seq (pe_ix ix_tup (pv 0) pe_int (fun _ _ => rfl)) (pe_lst (pa_cons pe_str (pa_cons pe_str (pa_cons pe_str pa_nil)))) (by rfl)))) pss_nil) 
        (pss_cons (ps_if (PW.pt (pw_or (pt_cmpR op_ne (pe_callB call_len_seq (by rfl) T.m_len PySem.boot_len (pa_cons (pv 0) pa_nil)) pe_int (nomark _)) (pw_or (pt_cmpR op_ne (pe_ix ix_tup (pv 0) pe_int (fun _ _ => rfl)) pe_str (nomark _)) (pw_or (pt_not (pt_val (pe_call G_l_is_name (hr.mono (by decide)) (by rfl) g_l_is_name F_l_is_name.kp b_l_is_name .nil pass0 (pa_cons (pe_ix ix_tup (pv 0) pe_int (fun _ _ => rfl)) pa_nil)))) (pw_or1 (pt_not (pt_val (pe_callB call_isi (by rfl) T.m_isinstance (by decide +kernel) (pa_cons (pe_ix ix_tup (pv 0) pe_int (fun _ _ => rfl)) (pa_cons (pe_bltn (v := .ty "tuple") (u := .type "tuple") (by rfl) T.m_tuple (by decide +kernel) rfl) pa_nil)))))))))) 
          (pss_one (ps_ret pe_bl)) pss_nil) 
        (pss_one (ps_ret (pe_and (pe_cmpR op_le (pe_callB call_len_seq (by rfl) T.m_len PySem.boot_len (pa_cons (pe_ix ix_tup (pv 0) pe_int (fun _ _ => rfl)) pa_nil)) pe_int (nomark _)) (pe_one (pe_cmpR (op_eqD hr.units) (pe_lc (own := [("_law_one", 1)]) (g := gName 1) rfl sc_l_is_item.nd (pi_tup (pe_ix ix_tup (pv 0) pe_int (fun _ _ => rfl))) (blkOk_by (N := ["_law_value", "_law_one"]) (sc := defScope slItem) (by decide +kernel)) (fun _ _ _ _ _ => pg_name (i := 1) sc_l_is_item.nd rfl (.inl rfl)) (fun _ _ _ _ _ => (pts_one (pt_not (pt_val (pe_call G_l_is_inner hr (by rfl) g_l_is_inner F_l_is_inner.kp b_l_is_inner .nil pass0 (pa_cons (pv 1) pa_nil)))))) (fun _ _ _ _ _ => (pv 1))) (pe_lst pa_nil) (nomark _)))))))))), ?_⟩
    refine ⟨_, rfl, _, d, rfl, hv, fun H1 s1 => ⟨_, rfl, ite2 (fun h0 => ?_) (fun h0 => ?_)⟩⟩
    · have := q H1 s1
      rw [(by unfold isItemP; rw [h0, Bool.true_or, Bool.or_true] : isItemP d = true)] at this
      exact this
    have h0 : isWayItemP d = false := bf h0
    replace hv := hv.same s1
    replace q : ∀ H', Same H1 H' → Q (.bl (isItemP d)) H' := fun H' s' => q H' (s1.trans s')
    clear s1
    cases hd : isTup d with
    | false =>
      have e : isItemP d = false := by cases d <;> first | rfl | cases hd
      have := q H1 (Same.refl H1)
      rw [e] at this
      exact ⟨_, rfl, _, _, _, _, false, rfl, .ty "tuple", hv.ty, hd ▸ isi_tup d, _, rfl, iteT (iteT this)⟩
    | true =>
    obtain ⟨ds, rfl⟩ : ∃ ds, d = .tuple ds := by cases d <;> first | exact ⟨_, rfl⟩ | cases hd
    obtain ⟨b, xs, rfl, hs, ha, hl, h1000, hget⟩ := hv.tup
    refine ⟨_, rfl, _, _, _, _, true, rfl, .ty "tuple", hv.ty, isi_tup _, _, rfl, iteF ⟨_, rfl, Nat.zero_le _, fun u0 hu0 => ⟨_, _, dp_same (same_upd hu0) _ _ hv.dp.1, .tup (xs := []) (.inl (.inl upd_same)) .nil, hv.dp.2.lay (by decide), rfl, _, rfl, ?_⟩⟩⟩
    rw [eqv_unit]
    have s0 : Same H1 (upd H1 u0 (.tup [])) := same_upd hu0
    generalize upd H1 u0 (.tup []) = H0 at s0
    cases ds with
    | nil =>
      have := q _ s0
      rw [(rfl : isItemP (.tuple []) = false)] at this
      exact iteT (iteT this)
    | cons d0 r =>
    obtain ⟨v0, hx0, hv0⟩ := hget 0 _ rfl
    refine iteF ⟨_, rfl, b, xs, _, _, rfl, rfl, Same.seqT s0 hs, atI_nat hx0, _, _, _, _, _, rfl, .ty "str", (hv0.same s0).ty, isi_str _, _, rfl, ?_⟩
    cases hstr : isStr d0 with
    | false =>
      have e : isItemP (.tuple (d0 :: r)) = false := by
        have h := hd_no (r := r) hstr
        unfold isItemP
        unfold isWayItemP
        rw [(h wOpen).1, (h wBare).1, (h wNamed).2.1, (h wAsk).2.2]; rfl
      have := q _ s0
      rw [e] at this
      exact iteT this
    | true =>
    obtain ⟨z, rfl⟩ : ∃ z, d0 = .str z := by cases d0 <;> first | exact ⟨_, rfl⟩ | cases hstr
    obtain ⟨rfl, hz, hsz⟩ := hv0.str
    refine iteF ?_
    have ei : isItemP (.tuple (.str z :: r)) = (isBareP wOpen (.tuple (.str z :: r)) || isAskP (.tuple (.str z :: r))) := by
      unfold isItemP
      rw [h0, Bool.false_or]
    rw [ei] at q
    refine ⟨_, rfl, b, xs, rfl, .inr (Same.seqT s0 hs), rfl, _, rfl, ite2 (fun h1 => ?_) (fun h1 => ?_)⟩
    · have h1 : xs.length = 1 := by
        have := V.int.inj (of_decide_eq_true h1)
        omega
      have er : r = [] := List.eq_nil_of_length_eq_zero (by rw [hl, List.length_cons] at h1; omega)
      subst er
      refine ⟨_, rfl, b, xs, _, _, rfl, rfl, Same.seqT s0 hs, atI_nat hx0, (by show 3 ≤ sizeLine; decide), fun l hl => ⟨l, wOpen.map V.str, rfl, .inl (.inl (.inl upd_same)), rfl, flat_words wOpen, ?_⟩⟩
      show Q (.bl (inV (.str z) (wOpen.map V.str))) _
      rw [inV_words]
      have := q _ (s0.trans (same_upd (o := .lst (wOpen.map V.str)) hl))
      rw [(by show (wOpen.any (· == z) || false) = _; rw [Bool.or_false] : (isBareP wOpen (.tuple [.str z]) || isAskP (.tuple [.str z])) = wOpen.any (· == z))] at this
      exact this
    have h1 : xs.length ≠ 1 := fun k => h1 (decide_eq_true (by rw [k]; rfl))
    have eb : isBareP wOpen (.tuple (.str z :: r)) = false := by
      match r, hl with
      | [], hl => exact absurd hl h1
      | _ :: _, _ => rfl
    rw [eb, Bool.false_or] at q
    refine ⟨_, rfl, b, xs, rfl, .inr (Same.seqT s0 hs), rfl, _, rfl, ite2 (fun h2 => ?_) (fun h2 => ?_)⟩
    · have h2 : xs.length ≠ 3 := fun k => by
        rw [k] at h2
        exact absurd h2 (by decide)
      have e : isAskP (.tuple (.str z :: r)) = false := by
        match r, hl with
        | [], _ => rfl
        | [_], _ => rfl
        | [_, _], hl => exact absurd hl h2
        | _ :: _ :: _ :: _, _ => rfl
      have := q _ s0
      rw [e] at this
      exact iteT this
    have h2 : xs.length = 3 := by
      by_cases k : xs.length = 3
      · exact k
      · exfalso
        refine h2 ?_
        show (!decide (V.int (xs.length : Int) = V.int 3)) = true
        rw [decide_eq_false (fun j => k (by have := V.int.inj j; omega))]
        rfl
    obtain ⟨g1, g2, rfl⟩ : ∃ g1 g2, r = [g1, g2] := two (by rw [hl, List.length_cons] at h2; omega)
    obtain ⟨v1, hx1, hv1⟩ := hget 1 _ rfl
    obtain ⟨v2, hx2, hv2⟩ := hget 2 _ rfl
    have ea : isAskP (.tuple [.str z, g1, g2]) = (decide (V.str z = V.str "ask") && (isNameP g1 && isWayOutP g2)) := by
      show (wAsk.any (· == z) && _) = _
      rw [one_word]
    rw [ea] at q
    refine ⟨_, rfl, b, xs, _, _, rfl, rfl, Same.seqT s0 hs, atI_nat hx0, rfl, _, rfl, ite2 (fun h3 => ?_) (fun h3 => ?_)⟩
    · have := q _ s0
      rw [(by simpa using h3 : decide (V.str z = V.str "ask") = false), Bool.false_and] at this
      exact iteT this
    have h3 : decide (V.str z = V.str "ask") = true := by simpa using h3
    rw [h3, Bool.true_and] at q
    refine ⟨_, rfl, b, xs, _, _, rfl, rfl, Same.seqT s0 hs, atI_nat hx1, _, g1, rfl, hv1.same s0, fun H2 s2 => ⟨_, rfl, ?_⟩⟩
    have s02 := s0.trans s2
    cases h4 : isNameP g1 with
    | false =>
      have := q _ s02
      rw [h4, Bool.false_and] at this
      exact iteT (iteT this)
    | true =>
    rw [h4, Bool.true_and] at q
    refine iteF ⟨_, rfl, b, xs, _, _, rfl, rfl, Same.seqT s02 hs, atI_nat hx2, _, _, _, _, _, rfl, .ty "tuple", (hv2.same s02).ty, isi_tup _, _, rfl, ?_⟩
    cases h5 : isTup g2 with
    | false =>
      have e : isWayOutP g2 = false := by cases g2 <;> first | rfl | cases h5
      have := q _ s02
      rw [e] at this
      exact iteT this
    | true =>
    obtain ⟨gs, rfl⟩ : ∃ gs, g2 = .tuple gs := by cases g2 <;> first | exact ⟨_, rfl⟩ | cases h5
    obtain ⟨c, zs, rfl, hcs, hca, hcl, hc1000, hcget⟩ := (hv2.same s02).tup
    have hgood := (hv2.same s02).dp.2
    refine iteF ⟨_, rfl, b, xs, _, _, rfl, rfl, Same.seqT s02 hs, atI_nat hx2, c, zs, rfl, .inr hcs, _, _, rfl, rfl, _, rfl, ite2 (fun h6 => ?_) (fun h6 => ?_)⟩
    · have h6 : (zs.length : Int) ≤ 4 := of_decide_eq_true h6
      have e : isWayOutP (.tuple gs) = gs.all isWayItemP := by
        show (decide (gs.length ≤ 4) && _) = _
        rw [decide_eq_true (by omega), Bool.true_and]
      rw [e] at q
      refine ⟨_, rfl, b, xs, _, _, rfl, rfl, Same.seqT s02 hs, atI_nat hx2, c, rfl, ⟨_, hcs⟩, fun D hD => ?_⟩
      refine lc_tup (xs := zs) (fun i H' => Same H2 H' ∧ ∃ ys : List V, H' D = some (.lst ys) ∧ DpAll K H2 ys ((gs.take i).filter fun e => !isWayItemP e)) ⟨same_upd hD, [], upd_same, .nil⟩ (fun i H' _ h => Same.seqT h.1 hcs) ?_ ?_
      · rintro i y H3 hy ⟨s3, ys, hyD, hys⟩
        have hi : i < gs.length := by
          have := (List.getElem?_eq_some_iff.mp hy).1
          omega
        obtain ⟨v, hxv, hve⟩ := hcget i gs[i] (List.getElem?_eq_getElem hi)
        have ey : y = v := Option.some.inj (hy.symm.trans hxv)
        subst ey
        have hok : okD gs[i] = true := ((Good.tup (n := 59)).mp hgood).2 _ (List.getElem_mem hi) |>.1
        refine ⟨rfl, _, rfl, _, gs[i], rfl, hve.same s3, fun H4 s4 => ⟨_, rfl, ite2 (fun k => ?_) (fun k => ?_)⟩⟩
        · refine ⟨_, rfl, ys, s4 _ _ hyD, ?_, same_st (s3.trans s4) hD, ys ++ [y], upd_same, ?_⟩
          · have h1 := dpAll_len hys
            have h2 := List.length_filter_le (fun e => !isWayItemP e) (gs.take i)
            rw [List.length_take] at h2
            exact small1000 (by omega)
          · rw [filt_snoc (List.getElem?_eq_getElem hi), if_pos k]
            exact dpAll_app hys (.cons (hve.dp1 (okD_dict hok)) .nil)
        · refine ⟨s3.trans s4, ys, s4 _ _ hyD, ?_⟩
          rw [filt_snoc (List.getElem?_eq_getElem hi), if_neg k, List.append_nil]
          exact hys
      · rintro H3 ⟨s3, ys, hyD, hys⟩
        rw [List.take_of_length_le (by omega)] at hys
        have hg2 := (Good.tup (n := 59)).mp hgood
        have hgl : Good 60 (.list (gs.filter fun e => !isWayItemP e)) := Good.lst.mpr ⟨Nat.le_trans (List.length_filter_le ..) hg2.1, fun d hd => hg2.2 d (List.mem_filter.mp hd).1⟩
        refine ⟨Nat.zero_le _, fun u hu => ⟨_, _, .lst (.inl (.inl ((same_upd hu) _ _ hyD))) (dpAll_same (s3.trans (same_upd hu)) _ _ hys), .lst (xs := []) (.inl (.inl upd_same)) .nil, hgl.lay (by decide), rfl, ?_⟩⟩
        rw [eqv_nil, filt_all]
        exact q _ (s02.trans (s3.trans (same_upd hu)))
    · have h6 : ¬ (zs.length : Int) ≤ 4 := fun k => h6 (decide_eq_true k)
      have e : isWayOutP (.tuple gs) = false := by
        show (decide (gs.length ≤ 4) && _) = _
        rw [decide_eq_false (by omega), Bool.false_and]
      have := q _ s02
      rw [e] at this
      exact this
theorem sc_l_is_used : FnScope ["_law_value"] ["_law_value"] (defScope slUsed) := ⟨rfl, rfl, rfl, by decide +kernel, rfl, by decide +kernel, by decide +kernel⟩
theorem ok_l_is_used {f : Addr} {fd : FuncData} (F : Fun K "_law_is_used" "_law_is_used" slUsed f fd) (T : Txt K mg lt0 lt1 t0 t1 t2 t3 t4 t5 t6 t7) {f1 : Addr} {fd1 : FuncData} (F_l_is_item : Fun K "_law_is_item" "_law_is_item" slItem f1 fd1) (b_l_is_item : Binds K fd1 ["_law_value"] []) (g_l_is_item : mg "_law_is_item" = some (.ref f1)) (G_l_is_item : FnOk P w K mg base CX0 3 f1 fd1 ["_law_value"] (spChk K isItemP)) {f2 : Addr} {fd2 : FuncData} (F_l_is_step : Fun K "_law_is_step" "_law_is_step" slStep f2 fd2) (b_l_is_step : Binds K fd2 ["_law_value"] []) (g_l_is_step : mg "_law_is_step" = some (.ref f2)) (G_l_is_step : FnOk P w K mg base CX0 2 f2 fd2 ["_law_value"] (spChk K isStepP)) : FnOk P w K mg base CX0 4 f fd ["_law_value"] (spChk K isUseP) := by
  refine F.ok sc_l_is_used (fun vs H Q E h => ?_) (fun cdv A outer s H vs Q E hr h => ?_)
  · obtain ⟨x, d, rfl, _⟩ := h
    rfl
  · obtain ⟨x, d, rfl, hv, q⟩ := h
    refine ⟨_, (pss_cons (ps_if (PW.pt (pw_and (pt_val (pe_call G_l_is_item hr (by rfl) g_l_is_item F_l_is_item.kp b_l_is_item .nil pass0 (pa_cons (pv 0) pa_nil))) (pw_and1 (pt_cmpR op_in_seq (pe_ix ix_tup (pv 0) pe_int (fun _ _ => rfl)) (pe_lst (pa_cons pe_str (pa_cons pe_str (pa_cons pe_str (pa_cons pe_str (pa_cons pe_str (pa_cons pe_str pa_nil))))))) (by rfl))))) 
          (pss_one (ps_ret pe_bl)) pss_nil) 
        (pss_one (ps_ret (pe_and (pe_call G_l_is_step (hr.mono (by decide)) (by rfl) g_l_is_step F_l_is_step.kp b_l_is_step .nil pass0 (pa_cons (pv 0) pa_nil)) (pe_one (pe_cmpR op_in_seq (pe_ix ix_tup (pv 0) pe_int (fun _ _ => rfl)) (pe_lst (pa_cons pe_str (pa_cons pe_str (pa_cons pe_str (pa_cons pe_str (pa_cons pe_str (pa_cons pe_str (pa_cons pe_str pa_nil)))))))) (by rfl))))))), ?_⟩
    refine ⟨_, rfl, _, d, rfl, hv, fun H' s' => ⟨_, rfl, ite2 (fun h1 => ?_) (fun h1 => iteF ?no1)⟩⟩
    · obtain ⟨z, r, rfl⟩ := item_head h1
      obtain ⟨b, xs, rfl, hs, ha, hlx, h1000, hget⟩ := hv.tup
      obtain ⟨v, hx, hve⟩ := hget 0 _ rfl
      obtain ⟨rfl, _⟩ := hve.str
      refine ⟨_, rfl, b, xs, _, _, rfl, rfl, Same.seqT s' hs, atI_nat hx, (by show 6 ≤ sizeLine; decide), fun l hl => ⟨l, _, rfl, .inl (.inl (.inl upd_same)), rfl, flat_words wUItems, _, rfl, ite2 (fun h2 => ?_) (fun h2 => ?no2)⟩⟩
      · have h2 : inV (.str z) (wUItems.map V.str) = true := h2
        rw [inV_words] at h2
        have := q _ (s'.trans (same_upd (o := .lst (wUItems.map V.str)) hl))
        have e1 : headP wUItems (.tuple (.str z :: r)) = true := h2
        rw [(by unfold isUseP; rw [h1, e1]; rfl : isUseP (.tuple (.str z :: r)) = true)] at this
        exact this
      case no2 =>
        have h2 : ¬ inV (.str z) (wUItems.map V.str) = true := h2
        rw [inV_words] at h2
        have e0 : isUseP (.tuple (.str z :: r)) = (isStepP (.tuple (.str z :: r)) && headP wUSteps (.tuple (.str z :: r))) := by
          have e1 : headP wUItems (.tuple (.str z :: r)) = false := bf h2
          unfold isUseP
          rw [e1, Bool.and_false, Bool.false_or]
        replace s' := s'.trans (same_upd (o := .lst (wUItems.map V.str)) hl)
        refine ⟨_, rfl, _, _, rfl, hv.same s', fun H'' s'' => ⟨_, rfl, ite2 (fun h3 => ?_) (fun h3 => ?_)⟩⟩
        · refine ⟨_, rfl, b, xs, _, _, rfl, rfl, Same.seqT (s'.trans s'') hs, atI_nat hx, (by show 7 ≤ sizeLine; decide), fun l2 hl2 => ⟨l2, _, rfl, .inl (.inl (.inl upd_same)), rfl, flat_words wUSteps, ?_⟩⟩
          have := q _ ((s'.trans s'').trans (same_upd (o := .lst (wUSteps.map V.str)) hl2))
          rw [e0, h3, Bool.true_and] at this
          show Q (.bl (inV (.str z) (wUSteps.map V.str))) _
          rw [inV_words]
          exact this
        · have := q H'' (s'.trans s'')
          rw [e0, bf h3, Bool.false_and] at this
          exact this
    case no1 =>
      have e0 : isUseP d = (isStepP d && headP wUSteps d) := by
        unfold isUseP
        rw [bf h1, Bool.false_and, Bool.false_or]
      refine ⟨_, rfl, _, d, rfl, hv.same s', fun H'' s'' => ⟨_, rfl, ite2 (fun h3 => ?_) (fun h3 => ?_)⟩⟩
      · obtain ⟨z, r, rfl⟩ := step_head h3
        obtain ⟨b, xs, rfl, hs, ha, hlx, h1000, hget⟩ := hv.tup
        obtain ⟨v, hx, hve⟩ := hget 0 _ rfl
        obtain ⟨rfl, _⟩ := hve.str
        refine ⟨_, rfl, b, xs, _, _, rfl, rfl, Same.seqT (s'.trans s'') hs, atI_nat hx, (by show 7 ≤ sizeLine; decide), fun l2 hl2 => ⟨l2, _, rfl, .inl (.inl (.inl upd_same)), rfl, flat_words wUSteps, ?_⟩⟩
        have := q _ ((s'.trans s'').trans (same_upd (o := .lst (wUSteps.map V.str)) hl2))
        rw [e0, h3, Bool.true_and] at this
        show Q (.bl (inV (.str z) (wUSteps.map V.str))) _
        rw [inV_words]
        exact this
      · have := q H'' (s'.trans s'')
        rw [e0, bf h3, Bool.false_and] at this
        exact this
def spRight (K : PySem.W.Frag) : Sp := fun vs H Q _ => ∃ (x : V) (d : PyData), vs = [x] ∧ Val K H x d ∧ ∀ H', Same H H' → Q (.bl true) H'
theorem sc_l_right : FnScope ["_law_value"] ["_law_value"] (defScope slRight) := ⟨rfl, rfl, rfl, by decide +kernel, rfl, by decide +kernel, by decide +kernel⟩
theorem ok_l_right {f : Addr} {fd : FuncData} (F : Fun K "_law_right" "_law_right" slRight f fd) (T : Txt K mg lt0 lt1 t0 t1 t2 t3 t4 t5 t6 t7) {f1 : Addr} {fd1 : FuncData} (F_is_item : Fun K "is_item" "is_item" sIsItem f1 fd1) (b_is_item : Binds K fd1 ["value"] []) (g_is_item : mg "is_item" = some (.ref f1)) (G_is_item : FnOk P w K mg base CX0 6 f1 fd1 ["value"] (spChk K isItemP)) {f2 : Addr} {fd2 : FuncData} (F_l_is_item : Fun K "_law_is_item" "_law_is_item" slItem f2 fd2) (b_l_is_item : Binds K fd2 ["_law_value"] []) (g_l_is_item : mg "_law_is_item" = some (.ref f2)) (G_l_is_item : FnOk P w K mg base CX0 3 f2 fd2 ["_law_value"] (spChk K isItemP)) {f3 : Addr} {fd3 : FuncData} (F_is_step : Fun K "is_step" "is_step" sIsStep f3 fd3) (b_is_step : Binds K fd3 ["value"] []) (g_is_step : mg "is_step" = some (.ref f3)) (G_is_step : FnOk P w K mg base CX0 3 f3 fd3 ["value"] (spChk K isStepP)) {f4 : Addr} {fd4 : FuncData} (F_l_is_step : Fun K "_law_is_step" "_law_is_step" slStep f4 fd4) (b_l_is_step : Binds K fd4 ["_law_value"] []) (g_l_is_step : mg "_law_is_step" = some (.ref f4)) (G_l_is_step : FnOk P w K mg base CX0 2 f4 fd4 ["_law_value"] (spChk K isStepP)) {f5 : Addr} {fd5 : FuncData} (F_is_use : Fun K "is_use" "is_use" sIsUse f5 fd5) (b_is_use : Binds K fd5 ["value"] []) (g_is_use : mg "is_use" = some (.ref f5)) (G_is_use : FnOk P w K mg base CX0 7 f5 fd5 ["value"] (spChk K isUseP)) {f6 : Addr} {fd6 : FuncData} (F_l_is_used : Fun K "_law_is_used" "_law_is_used" slUsed f6 fd6) (b_l_is_used : Binds K fd6 ["_law_value"] []) (g_l_is_used : mg "_law_is_used" = some (.ref f6)) (G_l_is_used : FnOk P w K mg base CX0 4 f6 fd6 ["_law_value"] (spChk K isUseP)) : FnOk P w K mg base CX0 8 f fd ["_law_value"] (spRight K) := by
  refine F.ok sc_l_right (fun vs H Q E h => ?_) (fun cdv A outer s H vs Q E hr h => ?_)
  · obtain ⟨x, d, rfl, _⟩ := h
    rfl
  · obtain ⟨x, d, rfl, hv, q⟩ := h
    refine ⟨_, (pss_cons (ps_if (PW.pt (pw_or (pt_cmpR op_ne (pe_call G_is_item (hr.mono (by decide)) (by rfl) g_is_item F_is_item.kp b_is_item .nil pass0 (pa_cons (pv 0) pa_nil)) (pe_call G_l_is_item (hr.mono (by decide)) (by rfl) g_l_is_item F_l_is_item.kp b_l_is_item .nil pass0 (pa_cons (pv 0) pa_nil)) (nomark _)) (pw_or1 (pt_cmpR op_ne (pe_call G_is_step (hr.mono (by decide)) (by rfl) g_is_step F_is_step.kp b_is_step .nil pass0 (pa_cons (pv 0) pa_nil)) (pe_call G_l_is_step (hr.mono (by decide)) (by rfl) g_l_is_step F_l_is_step.kp b_l_is_step .nil pass0 (pa_cons (pv 0) pa_nil)) (nomark _))))) 
          (pss_one (ps_ret pe_bl)) pss_nil) 
        (pss_one (ps_ret (pe_cmpR op_eq (pe_call G_is_use hr (by rfl) g_is_use F_is_use.kp b_is_use .nil pass0 (pa_cons (pv 0) pa_nil)) (pe_call G_l_is_used (hr.mono (by decide)) (by rfl) g_l_is_used F_l_is_used.kp b_l_is_used .nil pass0 (pa_cons (pv 0) pa_nil)) (nomark _))))), ?_⟩
    refine ⟨_, rfl, _, d, rfl, hv, fun H1 s1 => ⟨_, rfl, _, d, rfl, hv.same s1, fun H2 s2 => ⟨rfl, _, rfl, iteNS rfl ?_⟩⟩⟩
    replace s2 := s1.trans s2
    refine ⟨_, rfl, _, d, rfl, hv.same s2, fun H3 s3 => ⟨_, rfl, _, d, rfl, hv.same (s2.trans s3), fun H4 s4 => ⟨rfl, _, rfl, iteNS rfl ?_⟩⟩⟩
    replace s4 := (s2.trans s3).trans s4
    refine ⟨_, rfl, _, d, rfl, hv.same s4, fun H5 s5 => ⟨_, rfl, _, d, rfl, hv.same (s4.trans s5), fun H6 s6 => ⟨rfl, ?_⟩⟩⟩
    have := q H6 ((s4.trans s5).trans s6)
    rw [(decide_eq_true rfl : decide (V.bl (isUseP d) = V.bl (isUseP d)) = true)]
    exact this
end
end K03

namespace K03
open PySem PySem.Spec PyProof.Rows L2 TL
section
variable {P : Program} {w : World} {K : PySem.W.Frag} {mg : Str → Option Value} {base : Heap} {lt0 lt1 : Tok} {t0 t1 t2 t3 t4 t5 t6 t7 : Addr}
/-! ### the pool: what stands apart from it -/
def Rest (p : Addr) (R H : Hp) : Prop := Same R H ∧ R p = none ∧ ∃ (d : Addr) (ns : List Int) (k : Int), H p = some (.lst [.ref d, .int k]) ∧ R d = some (.lst (ns.map V.int)) ∧ 0 ≤ k
def Keep (p : Addr) (H H' : Hp) : Prop := ∀ b, b ≠ p → ∀ o, H b = some o → H' b = some o
structure Go (p : Addr) (R H R' H' : Hp) : Prop where
  same : Same R R'
  rest : Rest p R' H'
  keep : Keep p H H'
  fresh : ∀ b o, H b = some o → R b = none → R' b = none
theorem Rest.go {p : Addr} {R H : Hp} (k : Rest p R H) : Go p R H R H := ⟨Same.refl _, k, fun _ _ _ h => h, fun _ _ _ h => h⟩
theorem Go.trans {p : Addr} {R H R1 H1 R2 H2 : Hp} (a : Go p R H R1 H1) (b : Go p R1 H1 R2 H2) : Go p R H R2 H2 :=
  ⟨a.same.trans b.same, b.rest, fun c hc o h => b.keep c hc o (a.keep c hc o h), fun c o h hr => by
    by_cases e : c = p
    · rw [e]
      exact b.rest.2.1
    · exact b.fresh c o (a.keep c e o h) (a.fresh c o h hr)⟩
theorem Rest.ne {p D : Addr} {R H : Hp} (k : Rest p R H) (h : H D = none) : D ≠ p := fun e => by
  obtain ⟨_, _, d, ns, n, hp, _⟩ := k
  rw [e, hp] at h
  cases h
theorem Go.new {p t : Addr} {R H : Hp} {o : HO} (k : Rest p R H) (h : H t = none) : Go p R H (upd R t o) (upd H t o) := by
  have hne := k.ne h
  obtain ⟨s, hRp, d, ns, n, hp, hd, hn⟩ := k
  refine ⟨same_upd (s.free h), ⟨fun b x e => ?_, ?_, d, ns, n, ?_, (same_upd (s.free h)) _ _ hd, hn⟩, fun b _ x e => same_upd h b x e, fun b x e hr => ?_⟩
  · by_cases hb : b = t
    · subst hb
      rw [upd_same] at e ⊢
      exact e
    · rw [upd_ne hb] at e ⊢
      exact s b x e
  · rw [upd_ne hne.symm]
    exact hRp
  · rw [upd_ne hne.symm]
    exact hp
  · rw [upd_ne (ne_of_none e h)]
    exact hr
theorem Go.same_heap {p : Addr} {R H H' : Hp} (k : Rest p R H) (s : Same H H') : Go p R H R H' := by
  obtain ⟨s0, hRp, d, ns, n, hp, hd, hn⟩ := k
  exact ⟨Same.refl _, ⟨s0.trans s, hRp, d, ns, n, s _ _ hp, hd, hn⟩, fun b _ o h => s b o h, fun _ _ _ h => h⟩
/-- a store into a list that is being made -/
theorem Rest.put {p D : Addr} {R H : Hp} {o : HO} (k : Rest p R H) (hR : R D = none) (hne : D ≠ p) : Rest p R (upd H D o) := by
  obtain ⟨s0, hRp, d, ns, n, hp, hd, hn⟩ := k
  exact ⟨same_st s0 hR, hRp, d, ns, n, by rw [upd_ne hne.symm]; exact hp, hd, hn⟩
theorem Dp.go {p : Addr} {R H R' H' : Hp} {v : V} {d : PyData} (g : Go p R H R' H') (h : Dp K R v d) : Dp K R' v d := dp_same g.same d v h
/-- a comprehension that draws -/
theorem lc_go {J : It} {n : Nat} {G : Hp → Prop} {Y : Nat → Hp → V → Hp → Prop} (wk : Walk J n G Y) {p : Addr} {R H : Hp} {D : Addr} (hn : n ≤ 1000) (k : Rest p R H) (hD : H D = none) (hG : ∀ R1 H1, Go p R H R1 H1 → G H1)
    (PP : Hp → V → Prop) (Pm : ∀ R1 R2 y, Same R1 R2 → PP R1 y → PP R2 y) {g : TG} {tt : TT} {te : TE} {vs : List Nat} {σ : L2.St} {Qd : Hp → Prop}
    (hs : ∀ i x R1 H1 H1', i < n → Go p R H R1 H1 → Y i H1 x H1' → ∀ (C : V → Hp → Prop) (E : Hp → Prop), (∀ R2 H2 y, Go p R1 H1 R2 H2 → PP R2 y → C y H2) →
      g x (wipe σ vs) H1' fun σ2 H2 => wipe σ2 vs = wipe σ vs ∧ tt σ2 H2 fun b H3 => if b = true then te σ2 H3 C else E H3)
    (hd : ∀ R1 H1 ys, Go p R H R1 H1 → R1 D = some (.lst ys) → ys.length = n → (∀ y ∈ ys, PP R1 y) → Qd H1) :
    ∃ W : Nat → Nat → Hp → Prop, (∃ m, W 0 m (upd H D (.lst []))) ∧ ∀ i m H, W i m H →
      (J.stop i H ∧ Qd H) ∨ (J.go i H ∧ ∃ Nx : Hp → Prop, (∀ H', Nx H' → ∃ m', m' < m ∧ W (i + 1) m' H') ∧ ∀ x H', J.yld i H x H' → g x (wipe σ vs) H' fun σ2 H2 => wipe σ2 vs = wipe σ vs ∧ tt σ2 H2 fun b H3 =>
        if b = true then te σ2 H3 fun y H4 => ∃ acc, H4 D = some (.lst acc) ∧ acc.length < sizeLine ∧ Nx (upd H4 D (.lst (acc ++ [y]))) else Nx H3) := by
  have hne := k.ne hD
  have hRD : R D = none := k.1.free hD
  refine lc_it wk (fun i H' => ∃ R1, Go p R H R1 H' ∧ R1 D = none ∧ ∃ ys : List V, H' D = some (.lst ys) ∧ ys.length = i ∧ ∀ y ∈ ys, PP R1 y) ?_ ?_ ?_ ?_
  · refine ⟨R, ⟨Same.refl _, k.put hRD hne, fun b _ x e => same_upd hD b x e, fun _ _ _ h => h⟩, hRD, [], upd_same, rfl, fun y h => by cases h⟩
  · rintro i H' _ ⟨R1, g1, _⟩
    exact hG R1 H' g1
  · rintro i x H1 H1' hi ⟨R1, g1, hR1, ys, hy, hl, hP⟩ hY
    refine hs i x R1 H1 H1' hi g1 hY _ _ fun R2 H2 y g2 hp => ⟨ys, g2.keep D hne _ hy, small1000 (by omega), R2, ?_, g2.fresh D _ hy hR1, ys ++ [y], upd_same, ?_, ?_⟩
    · have g3 := g1.trans g2
      refine ⟨g3.same, g3.rest.put (g2.fresh D _ hy hR1) hne, fun b hb x e => ?_, g3.fresh⟩
      rw [upd_ne (ne_of_none e hD)]
      exact g3.keep b hb x e
    · rw [List.length_append, List.length_singleton, hl]
    · intro u hu
      rw [List.mem_append, List.mem_singleton] at hu
      rcases hu with hu | rfl
      · exact Pm R1 R2 u g2.same (hP u hu)
      · exact hp
  · rintro H1 ⟨R1, g1, hR1, ys, hy, hl, hP⟩
    have e1 : Same R1 (upd R1 D (.lst ys)) := same_upd hR1
    refine hd (upd R1 D (.lst ys)) H1 ys ⟨g1.same.trans e1, ?_, g1.keep, fun b o e hr => ?_⟩ upd_same hl fun y h => Pm _ _ y e1 (hP y h)
    · obtain ⟨s0, hRp, d, ns, n, hp, hd, hn⟩ := g1.rest
      refine ⟨fun b x e => ?_, by rw [upd_ne hne.symm]; exact hRp, d, ns, n, hp, e1 _ _ hd, hn⟩
      by_cases hb : b = D
      · subst hb
        rw [upd_same] at e
        rw [hy, e]
      · rw [upd_ne hb] at e
        exact s0 b x e
    · rw [upd_ne (ne_of_none e hD)]
      exact g1.fresh b o e hr
theorem at_int {xs : List V} {r : Int} (h0 : 0 ≤ r) (hi : r.toNat < xs.length) : ∃ v, atI xs r = some v ∧ v ∈ xs := by
  have e := atI_nat (List.getElem?_eq_getElem hi)
  rw [Int.toNat_of_nonneg h0] at e
  exact ⟨_, e, List.getElem_mem hi⟩
/-! ### the pool and its draws -/
def spPool (K : PySem.W.Frag) : Sp := fun vs H Q _ => ∃ (c sa m : Int), vs = [.int c, .int sa, .int m] ∧ (0 ≤ sa ∧ sa ≤ 100000) ∧ (0 ≤ m ∧ m ≤ 1000) ∧ ∀ R H' p, Same H R → Rest p R H' → Same H H' → Q (.ref p) H'
def spDraw (K : PySem.W.Frag) : Sp := fun vs H Q _ => ∃ (p : Addr) (m : Int) (R : Hp), vs = [.ref p, .int m] ∧ 0 < m ∧ Rest p R H ∧ ∀ r H', 0 ≤ r → r < m → Go p R H R H' → Q (.int r) H'
def spPick (K : PySem.W.Frag) : Sp := fun vs H Q _ => ∃ (p a : Addr) (R : Hp) (xs : List V), vs = [.ref p, .ref a] ∧ SqL K R a xs ∧ 0 < xs.length ∧ Rest p R H ∧ ∀ x H', x ∈ xs → Go p R H R H' → Q x H'
theorem sc_l_pool : FnScope ["_law_cell", "_law_salt", "_law_many"] ["_law_cell", "_law_salt", "_law_many"] (defScope sPool) := ⟨rfl, rfl, rfl, by decide +kernel, rfl, by decide +kernel, by decide +kernel⟩
theorem ok_l_pool {f : Addr} {fd : FuncData} (F : Fun K "_law_pool" "_law_pool" sPool f fd) (T : Txt K mg lt0 lt1 t0 t1 t2 t3 t4 t5 t6 t7) {f1 : Addr} {fd1 : FuncData} (F_l_numbers : Fun K "_law_numbers" "_law_numbers" sNum f1 fd1) (b_l_numbers : Binds K fd1 ["_law_cell", "_law_salt", "_law_sizes"] []) (g_l_numbers : mg "_law_numbers" = some (.ref f1)) (G_l_numbers : FnOk P w K mg base CX0 1 f1 fd1 ["_law_cell", "_law_salt", "_law_sizes"] (spNum K)) : FnOk P w K mg base CX0 2 f fd ["_law_cell", "_law_salt", "_law_many"] (spPool K) := by
  refine F.ok sc_l_pool (fun vs H Q E h => ?_) (fun cdv A outer s H vs Q E hr h => ?_)
  · obtain ⟨c, sa, m, rfl, _⟩ := h
    rfl
  · obtain ⟨c, sa, m, rfl, hsa, ⟨hm0, hm1⟩, q⟩ := h
    refine ⟨_, (pss_one (ps_ret (pe_lst (pa_cons (pe_call G_l_numbers hr (by rfl) g_l_numbers F_l_numbers.kp b_l_numbers .nil pass0 (pa_cons (pv 0) (pa_cons (pv 1) (pa_cons (pe_op op_rep (pe_lst (pa_cons pe_int pa_nil)) (pv 2)) pa_nil)))) (pa_cons pe_int pa_nil))))), ?_⟩
    have em : (m.toNat : Int) = m := by omega
    refine ⟨_, rfl, _, rfl, (by show 1 ≤ sizeLine; decide), fun l hl => ⟨_, rfl, l, m, [V.int 420], rfl, rfl, upd_same, by omega, by omega, ?z1, fun r hr => ?_⟩⟩
    case z1 =>
      show 1 * m.toNat ≤ sizeLine
      exact Nat.le_of_lt (small1000 (by omega))
    have el : (List.replicate m.toNat [V.int 420]).flatten = (List.replicate m.toNat (420 : Int)).map V.int := by
      generalize m.toNat = j
      induction j with
      | zero => rfl
      | succ j ih =>
        rw [List.replicate_succ, List.replicate_succ, List.flatten_cons, ih]
        rfl
    have s1 : Same H (upd (upd H l (.lst [V.int 420])) r (.lst (List.replicate m.toNat [V.int 420]).flatten)) := (same_upd hl).trans (same_upd hr)
    refine ⟨c, sa, r, List.replicate m.toNat 420, rfl, .inl (.inl (by rw [upd_same, el])), hsa, by rw [List.length_replicate]; omega, (fun z hz => by rw [(List.mem_replicate.mp hz).2]; decide), fun H3 d ds s9 hdn ed hdl hb => ?_⟩
    refine ⟨(by show 2 ≤ sizeLine; decide), fun p hp => ?_⟩
    have s3 : Same H H3 := s1.trans s9
    have hHd : H d = none := s1.free hdn
    have hpd : d ≠ p := fun e => by
      rw [e, hp] at ed
      cases ed
    refine q (upd H d (.lst (ds.map V.int))) _ p (same_upd hHd) ⟨fun b x e => ?_, ?_, d, ds, 0, upd_same, upd_same, by decide⟩ (s3.trans (same_upd hp))
    · by_cases h : b = d
      · rw [h, upd_same] at e
        rw [h, upd_ne hpd, ed, e]
      · rw [upd_ne h] at e
        exact (s3.trans (same_upd hp)) b x e
    · rw [upd_ne hpd.symm]
      exact s3.free hp
theorem sc_l_draw : FnScope ["_law_pool_here", "_law_many", "_law_at"] ["_law_pool_here", "_law_many"] (defScope sDraw) := ⟨rfl, rfl, rfl, by decide +kernel, rfl, by decide +kernel, by decide +kernel⟩
theorem ok_l_draw {f : Addr} {fd : FuncData} (F : Fun K "_law_draw" "_law_draw" sDraw f fd) (T : Txt K mg lt0 lt1 t0 t1 t2 t3 t4 t5 t6 t7) : FnOk P w K mg base CX0 1 f fd ["_law_pool_here", "_law_many"] (spDraw K) := by
  refine F.ok sc_l_draw (fun vs H Q E h => ?_) (fun cdv A outer s H vs Q E hr h => ?_)
  · obtain ⟨p, m, R, rfl, _⟩ := h
    rfl
  · obtain ⟨p, m, R, rfl, hm, k, q⟩ := h
    refine ⟨_, (pss_cons (ps_set (i := 2) sc_l_draw.nd rfl (.inl rfl) (pe_ix ix_list (pv 0) pe_int (fun _ _ => rfl))) 
        (pss_cons (ps_asg (pe_op op_add (pv 2) pe_int) (pg_sub (pv 0) pe_int set_list)) 
        (pss_one (ps_ret (pe_ifExp (pt_cmpR op_lt (pv 2) (pe_callB call_len_seq (by rfl) T.m_len PySem.boot_len (pa_cons (pe_ix ix_list (pv 0) pe_int (fun _ _ => rfl)) pa_nil)) (nomark _)) (pe_op op_mod (pe_callTy call_int1 (by rfl) T.m_int (by decide +kernel) (pa_cons (pe_ix ix_seq (pe_ix ix_list (pv 0) pe_int (fun _ _ => rfl)) (pv 2) (fun _ _ => rfl)) pa_nil)) (pv 1)) pe_int))))), ?_⟩
    obtain ⟨s0, hRp, d, ns, n, hp, hd, hn⟩ := id k
    have hdp : d ≠ p := fun e => by
      rw [e, hRp] at hd
      cases hd
    have g : Go p R H R (upd H p (.lst [.ref d, .int (n + 1)])) := ⟨Same.refl _, ⟨same_st s0 hRp, hRp, d, ns, n + 1, upd_same, hd, by omega⟩, fun b hb o e => by rw [upd_ne hb]; exact e, fun _ _ _ h => h⟩
    have hd' : SqL K (upd H p (.lst [.ref d, .int (n + 1)])) d (ns.map V.int) := .inl (.inl (g.rest.1 _ _ hd))
    refine ⟨_, rfl, p, _, _, _, rfl, rfl, .inl (.inl hp), rfl, ?_⟩
    refine ⟨_, rfl, _, _, rfl, rfl, _, rfl, p, _, _, 1, rfl, rfl, hp, rfl, ?_⟩
    refine ⟨_, rfl, _, rfl, p, _, _, _, rfl, rfl, .inl (.inl upd_same), rfl, d, _, rfl, .inl hd', _, _, rfl, rfl, _, rfl, ite2 (fun h1 => ?_) (fun h1 => ?_)⟩
    · have h1 : n < ((ns.map V.int).length : Int) := of_decide_eq_true h1
      rw [List.length_map] at h1
      have hi : n.toNat < ns.length := by omega
      obtain ⟨v, hat, hv⟩ := at_int (xs := ns.map V.int) hn (by rw [List.length_map]; exact hi)
      obtain ⟨u, _, rfl⟩ := List.mem_map.mp hv
      refine ⟨_, rfl, p, _, _, _, rfl, rfl, .inl (.inl upd_same), rfl, _, rfl, .inl ⟨d, _, _, _, rfl, rfl, hd', hat, .inl ⟨_, rfl, _, rfl, _, _, rfl, rfl, hm, ?_⟩⟩⟩
      exact q _ _ (Int.emod_nonneg _ (by omega)) (Int.emod_lt_of_pos _ hm) g
    · exact q 0 _ (by decide) hm g
theorem sc_l_pick : FnScope ["_law_pool_here", "_law_some"] ["_law_pool_here", "_law_some"] (defScope sPick) := ⟨rfl, rfl, rfl, by decide +kernel, rfl, by decide +kernel, by decide +kernel⟩
theorem ok_l_pick {f : Addr} {fd : FuncData} (F : Fun K "_law_pick" "_law_pick" sPick f fd) (T : Txt K mg lt0 lt1 t0 t1 t2 t3 t4 t5 t6 t7) {f1 : Addr} {fd1 : FuncData} (F_l_draw : Fun K "_law_draw" "_law_draw" sDraw f1 fd1) (b_l_draw : Binds K fd1 ["_law_pool_here", "_law_many"] []) (g_l_draw : mg "_law_draw" = some (.ref f1)) (G_l_draw : FnOk P w K mg base CX0 1 f1 fd1 ["_law_pool_here", "_law_many"] (spDraw K)) : FnOk P w K mg base CX0 2 f fd ["_law_pool_here", "_law_some"] (spPick K) := by
  refine F.ok sc_l_pick (fun vs H Q E h => ?_) (fun cdv A outer s H vs Q E hr h => ?_)
  · obtain ⟨p, a, R, xs, rfl, _⟩ := h
    rfl
  · obtain ⟨p, a, R, xs, rfl, hxs, hpos, k, q⟩ := h
    refine ⟨_, (pss_one (ps_ret (pe_ix ix_list (pv 1) (pe_call G_l_draw hr (by rfl) g_l_draw F_l_draw.kp b_l_draw .nil pass0 (pa_cons (pv 0) (pa_cons (pe_callB call_len_seq (by rfl) T.m_len PySem.boot_len (pa_cons (pv 1) pa_nil)) pa_nil))) (fun _ _ => rfl)))), ?_⟩
    refine ⟨_, rfl, _, rfl, _, rfl, a, xs, rfl, .inl (Same.seq k.1 hxs), p, _, R, rfl, by omega, k, fun r H' h0 h1 g => ?_⟩
    have hi : r.toNat < xs.length := by omega
    obtain ⟨v, hat, hv⟩ := at_int h0 hi
    exact ⟨a, xs, r, v, rfl, rfl, Same.seq g.rest.1 hxs, hat, q _ H' hv g⟩
end
end K03

namespace K03
open PySem PySem.Spec PyProof.Rows L2 TL
section
variable {P : Program} {w : World} {K : PySem.W.Frag} {mg : Str → Option Value} {base : Heap} {lt0 lt1 : Tok} {t0 t1 t2 t3 t4 t5 t6 t7 : Addr}
/-! ### data while the pool is drawn from -/
def cutG {α : Type} (ds : List α) (lo hi : Option Int) : List α := (ds.drop (HT.sIx ds.length 0 lo)).take (HT.sIx ds.length ds.length hi - HT.sIx ds.length 0 lo)
theorem dpAll_drop {H : Hp} : ∀ (n : Nat) {vs : List V} {ds : List PyData}, DpAll K H vs ds → DpAll K H (vs.drop n) (ds.drop n)
  | 0, _, _, h => h
  | n + 1, _, _, .nil => .nil
  | n + 1, _, _, .cons _ h => dpAll_drop n h
theorem dpAll_take {H : Hp} : ∀ (n : Nat) {vs : List V} {ds : List PyData}, DpAll K H vs ds → DpAll K H (vs.take n) (ds.take n)
  | 0, _, _, _ => .nil
  | n + 1, _, _, .nil => .nil
  | n + 1, _, _, .cons h r => .cons h (dpAll_take n r)
theorem dpAll_cut {H : Hp} {vs : List V} {ds : List PyData} (h : DpAll K H vs ds) (lo hi : Option Int) : DpAll K H (cutV vs lo hi) (cutG ds lo hi) := by
  have e := dpAll_len h
  unfold cutV cutG
  rw [e]
  exact dpAll_take _ (dpAll_drop _ h)
theorem cutG_mem {ds : List PyData} {lo hi : Option Int} {d : PyData} (h : d ∈ cutG ds lo hi) : d ∈ ds := List.mem_of_mem_drop (List.mem_of_mem_take h)
theorem cutG_len (ds : List PyData) (lo hi : Option Int) : (cutG ds lo hi).length ≤ ds.length := by
  unfold cutG
  rw [List.length_take, List.length_drop]
  omega
theorem cat_ok {p : Addr} {R H : Hp} {v u : V} {ds es : List PyData} {Q : VK} (k : Rest p R H) (hv : Dp K R v (.tuple ds)) (hu : Dp K R u (.tuple es)) (hl : ds.length + es.length ≤ 1000)
    (hq : ∀ x R' H', Go p R H R' H' → Dp K R' x (.tuple (ds ++ es)) → Q x H') : rCatA K v u H Q := by
  cases hv with
  | @tup a xs _ hs ha =>
    cases hu with
    | @tup b ys _ ht hb =>
      have l1 := dpAll_len ha
      have l2 := dpAll_len hb
      refine ⟨a, b, xs, ys, rfl, rfl, Same.seqT k.1 hs, Same.seqT k.1 ht, Nat.le_of_lt (small1000 (by omega)), fun e => ?_, fun _ e => ?_, fun _ _ t ht => ?_⟩
      · have e2 : ds = [] := List.eq_nil_of_length_eq_zero (by rw [← l1, e]; rfl)
        have := hq (.ref b) R H k.go
        rw [e2] at this
        exact this (.tup ht hb)
      · have e2 : es = [] := List.eq_nil_of_length_eq_zero (by rw [← l2, e]; rfl)
        have := hq (.ref a) R H k.go
        rw [e2, List.append_nil] at this
        exact this (.tup hs ha)
      · exact hq _ _ _ (Go.new k ht) (.tup (.inl (.inl upd_same)) (dpAll_same (Go.new k ht).same _ _ (dpAll_app ha hb)))
theorem slice_ok {p : Addr} {R H : Hp} {v : V} {ds : List PyData} {lo hi : Option Int} {Q : VK} (k : Rest p R H) (hv : Dp K R v (.tuple ds))
    (hq : ∀ x R' H', Go p R H R' H' → Dp K R' x (.tuple (cutG ds lo hi)) → Q x H') : rSlA K v lo hi H Q := by
  cases hv with
  | @tup a xs _ hs ha =>
    have l1 := dpAll_len ha
    refine ⟨a, xs, rfl, Same.seqT k.1 hs, fun e => ?_, fun _ t ht => ?_⟩
    · have e2 : cutG ds lo hi = ds := by
        unfold cutG
        rw [← l1, e.1, e.2, l1]
        show (ds.drop 0).take (ds.length - 0) = ds
        rw [List.drop_zero, Nat.sub_zero, List.take_length]
      have := hq (.ref a) R H k.go
      rw [e2] at this
      exact this (.tup hs ha)
    · exact hq _ _ _ (Go.new k ht) (.tup (.inl (.inl upd_same)) (dpAll_same (Go.new k ht).same _ _ (dpAll_cut ha lo hi)))
theorem slice_lo {p : Addr} {R H : Hp} {v : V} {ds : List PyData} {lo : Option Int} {σ : L2.St} {Q : VK} (k : Rest p R H) (hv : Dp K R v (.tuple ds))
    (hq : ∀ x R' H', Go p R H R' H' → Dp K R' x (.tuple (cutG ds lo none)) → Q x H') : tNoPart σ H (fun u H3 => rSlA K v lo u H3 Q) := slice_ok (hi := none) k hv hq
theorem lst_raw {p t : Addr} {R H : Hp} (vs : List V) (k : Rest p R H) (ht : H t = none) : Go p R H (upd R t (.lst vs)) (upd H t (.lst vs)) ∧ (upd R t (.lst vs)) t = some (.lst vs) := ⟨Go.new k ht, upd_same⟩
theorem tup_new {p t : Addr} {R H : Hp} {vs : List V} {ds : List PyData} (k : Rest p R H) (ht : H t = none) (hv : DpAll K R vs ds) : Go p R H (upd R t (.tup vs)) (upd H t (.tup vs)) ∧ Dp K (upd R t (.tup vs)) (.ref t) (.tuple ds) :=
  ⟨Go.new k ht, .tup (.inl (.inl upd_same)) (dpAll_same (Go.new (o := .tup vs) k ht).same _ _ hv)⟩
theorem lst_new {p t : Addr} {R H : Hp} {vs : List V} {ds : List PyData} (k : Rest p R H) (ht : H t = none) (hv : DpAll K R vs ds) : Go p R H (upd R t (.lst vs)) (upd H t (.lst vs)) ∧ Dp K (upd R t (.lst vs)) (.ref t) (.list ds) :=
  ⟨Go.new k ht, .lst (.inl (.inl upd_same)) (dpAll_same (Go.new (o := .lst vs) k ht).same _ _ hv)⟩
/-- some data of moderate size -/
def PD (K : PySem.W.Frag) (n : Nat) (R : Hp) (x : V) : Prop := ∃ d, Dp K R x d ∧ Good n d
theorem PD.same {n : Nat} {R R' : Hp} {x : V} (h : PD K n R x) (s : Same R R') : PD K n R' x := by
  obtain ⟨d, h, g⟩ := h
  exact ⟨d, dp_same s d x h, g⟩
theorem PD.mono {n m : Nat} {R : Hp} {x : V} (h : PD K n R x) (k : n ≤ m) : PD K m R x := by
  obtain ⟨d, h, g⟩ := h
  exact ⟨d, h, g.mono k⟩
theorem good_str {z : Str} (h : z.length ≤ 1000) (s : Sane z) (n : Nat) : Good n (.str z) := by
  refine ⟨?_, Nat.zero_le _⟩
  show (decide (z.length ≤ 1000) && z.cps.all (· < 0x110000)) = true
  rw [decide_eq_true h, Bool.true_and, ← Array.all_toList, List.all_eq_true]
  exact fun c hc => decide_eq_true (s c hc)
theorem good_t {n : Nat} {ds : List PyData} (h : ds.length ≤ 1000) (g : ∀ d ∈ ds, Good n d) : Good (n + 1) (.tuple ds) := Good.tup.mpr ⟨h, g⟩
/-- a word that may be turned about -/
def Wd (z : Str) : Prop := z.length ≤ 100 ∧ Sane z ∧ (Txt.upper z).length ≤ 100 ∧ Sane (Txt.upper z)
def spBent (K : PySem.W.Frag) : Sp := fun vs H Q _ => ∃ (p : Addr) (R : Hp) (x : V) (z : Str) (r : List PyData), vs = [.ref p, x] ∧ Rest p R H ∧ Dp K R x (.tuple (.str z :: r)) ∧ Good 5 (.tuple (.str z :: r)) ∧ r.length ≤ 2 ∧ Wd z ∧
  ∀ x' R' H', Go p R H R' H' → PD K 60 R' x' → Q x' H'
def nmV (l : Addr) : List V := [.str "", .str "abcdefghi", .str "A", .str "a1", .non, .int 5, .ref l]
theorem nm_pd {R : Hp} {l : Addr} {v : V} (hl : R l = some (.lst [.str "a"])) (h : v ∈ nmV l) : PD K 4 R v := by
  unfold nmV at h
  simp only [List.mem_cons, List.not_mem_nil, or_false] at h
  rcases h with rfl | rfl | rfl | rfl | rfl | rfl | rfl
  · exact ⟨_, .str _, by constructor <;> decide +kernel⟩
  · exact ⟨_, .str _, by constructor <;> decide +kernel⟩
  · exact ⟨_, .str _, by constructor <;> decide +kernel⟩
  · exact ⟨_, .str _, by constructor <;> decide +kernel⟩
  · exact ⟨_, .non, by constructor <;> decide +kernel⟩
  · exact ⟨_, .int _, ⟨rfl, by decide⟩⟩
  · exact ⟨.list [.str "a"], .lst (.inl (.inl hl)) (.cons (.str _) .nil), by constructor <;> decide +kernel⟩
theorem sc_l_bent : FnScope ["_law_pool_here", "_law_value", "_law_way", "_law_name", "_law_some"] ["_law_pool_here", "_law_value"] (defScope slBent) := ⟨rfl, rfl, rfl, by decide +kernel, rfl, by decide +kernel, by decide +kernel⟩
theorem ok_l_bent {f : Addr} {fd : FuncData} (F : Fun K "_law_bent" "_law_bent" slBent f fd) (T : Txt K mg lt0 lt1 t0 t1 t2 t3 t4 t5 t6 t7) {f1 : Addr} {fd1 : FuncData} (F_l_draw : Fun K "_law_draw" "_law_draw" sDraw f1 fd1) (b_l_draw : Binds K fd1 ["_law_pool_here", "_law_many"] []) (g_l_draw : mg "_law_draw" = some (.ref f1)) (G_l_draw : FnOk P w K mg base CX0 1 f1 fd1 ["_law_pool_here", "_law_many"] (spDraw K)) : FnOk P w K mg base CX0 2 f fd ["_law_pool_here", "_law_value"] (spBent K) := by
  refine F.ok sc_l_bent (fun vs H Q E h => ?_) (fun cdv A outer s H vs Q E hr h => ?_)
  · obtain ⟨p, R, x, z, r, rfl, _⟩ := h
    rfl
  · obtain ⟨p, R, x, z, r, rfl, k, hx, hg, hr2, ⟨hz1, hz2, hz3, hz4⟩, q⟩ := h
    refine ⟨_, (pss_cons (ps_par (i := 2) (j := 3) rfl sc_l_bent.nd rfl rfl (by decide) rfl rfl (pa_cons (pe_call G_l_draw hr (by rfl) g_l_draw F_l_draw.kp b_l_draw .nil pass0 (pa_cons (pv 0) (pa_cons pe_int pa_nil))) (pa_cons (pe_ix ix_list (pe_lst (pa_cons pe_str (pa_cons pe_str (pa_cons pe_str (pa_cons pe_str (pa_cons pe_non (pa_cons pe_int (pa_cons (pe_lst (pa_cons pe_str pa_nil)) pa_nil)))))))) (pe_call G_l_draw hr (by rfl) g_l_draw F_l_draw.kp b_l_draw .nil pass0 (pa_cons (pv 0) (pa_cons pe_int pa_nil))) (fun _ _ => rfl)) pa_nil)) (by rfl)) 
        (pss_cons (ps_set (i := 4) sc_l_bent.nd rfl (.inl rfl) (pe_lst (pa_cons (pe_op op_catA (pv 1) (pe_tup (pa_cons pe_str pa_nil))) (pa_cons (pe_slice sl_tupA (pv 1) po_none (po_some (pe_un un_neg pe_int))) (pa_cons (pe_callTy call_list_of (by rfl) T.m_list (by decide +kernel) (pa_cons (pv 1) pa_nil)) (pa_cons (pe_op op_catA (pv 1) (pe_tup (pa_cons (pe_tup pa_nil) pa_nil))) (pa_cons (pe_op op_catA (pe_tup (pa_cons (pe_upper (pe_ix ix_tup (pv 1) pe_int (fun _ _ => rfl))) pa_nil)) (pe_slice sl_tupA (pv 1) (po_some pe_int) po_none)) pa_nil))))))) 
        (pss_cons (ps_set (i := 4) sc_l_bent.nd rfl (.inl rfl) (pe_op op_cat (pv 4) (pe_lst (pa_cons (pe_op op_catA (pe_op op_catA (pe_slice sl_tupA (pv 1) po_none (po_some pe_int)) (pe_tup (pa_cons (pv 3) pa_nil))) (pe_slice sl_tupA (pv 1) (po_some pe_int) po_none)) (pa_cons (pe_slice sl_tupA (pv 1) (po_some pe_int) po_none) (pa_cons (pe_op op_catA (pe_tup (pa_cons pe_non pa_nil)) (pe_slice sl_tupA (pv 1) (po_some pe_int) po_none)) (pa_cons (pe_ix ix_tup (pv 1) pe_int (fun _ _ => rfl)) (pa_cons (pv 1) pa_nil)))))))) 
        (pss_one (ps_ret (pe_ix ix_list (pv 4) (pv 2) (fun _ _ => rfl))))))), ?_⟩
    obtain ⟨b, xs, rfl, hs, ha, hl, _, hget⟩ := Val.tup (H := R) (.inl ⟨hx, hg.mono (by decide)⟩)
    obtain ⟨v0, hx0, hv0⟩ := hget 0 _ rfl
    obtain ⟨rfl, _⟩ := hv0.str
    have hgs := (Good.tup (n := 4)).mp hg
    have hlen : (PyData.str z :: r).length ≤ 3 := by
      rw [List.length_cons]
      omega
    -- the draws
    refine ⟨_, rfl, p, 10, R, rfl, by decide, k, fun w1 H1 w10 w11 g1 => ⟨(by show 1 ≤ sizeLine; decide), fun l1 hl1 => ⟨(by show 7 ≤ sizeLine; decide), fun l2 hl2 => ?_⟩⟩⟩
    have g2 := Go.new (o := .lst [.str "a"]) g1.rest hl1
    have g3 := Go.new (o := .lst (nmV l1)) g2.rest hl2
    refine ⟨_, rfl, p, 7, _, rfl, by decide, g3.rest, fun w2 H2 w20 w21 g4 => ?_⟩
    obtain ⟨nm, hnm, hnmm⟩ := at_int (xs := nmV l1) w20 (by show w2.toNat < 7; omega)
    have pn0 := nm_pd (K := K) (g3.same _ _ (upd_same (H := R) (a := l1) (o := .lst [.str "a"]))) hnmm
    have pn := pn0.same g4.same
    refine ⟨l2, _, w2, nm, rfl, rfl, .inl (.inl (g4.rest.1 _ _ (g4.same _ _ upd_same))), hnm, _, _, rfl, ?_⟩
    have g := ((g1.trans g2).trans g3).trans g4
    clear g1 g2 g3 g4 pn0 hnm hnmm hl1 hl2
    have hx := dp_same g.same _ _ hx
    have inner4 : ∀ e ∈ (PyData.str z :: r), Good 4 e := hgs.2
    refine ⟨_, rfl, (by show 1 ≤ sizeLine; decide), fun u hu => ?_⟩
    obtain ⟨gi, du⟩ := tup_new (K := K) (vs := [.str "a"]) (ds := [.str "a"]) g.rest hu (.cons (.str "a") .nil)
    replace g := g.trans gi
    replace hx := dp_same gi.same _ _ hx
    replace pn := pn.same gi.same
    refine cat_ok (K := K) g.rest hx du (by rw [List.length_singleton]; omega) fun y1 Ri Hi gi e1 => ?_
    replace g := g.trans gi
    replace hx := dp_same gi.same _ _ hx
    replace pn := pn.same gi.same
    have f1 : PD K 60 _ y1 := ⟨_, e1, (good_t (n := 4) (by rw [List.length_append, List.length_singleton]; omega) (fun d hd => by
      rw [List.mem_append, List.mem_singleton] at hd
      rcases hd with hd | rfl
      · exact inner4 d hd
      · exact good_str (by decide +kernel) (by unfold Sane; decide +kernel) 4)).mono (by decide)⟩
    refine ⟨_, rfl, _, rfl, _, rfl, slice_ok (K := K) g.rest hx fun y2 Ri Hi gi e2 => ?_⟩
    replace g := g.trans gi
    replace hx := dp_same gi.same _ _ hx
    replace pn := pn.same gi.same
    replace f1 := f1.same gi.same
    have f2 : PD K 60 _ y2 := ⟨_, e2, (good_t (n := 4) (Nat.le_trans (cutG_len ..) (by omega)) (fun d hd => inner4 d (cutG_mem hd))).mono (by decide)⟩
    obtain ⟨xs', hs', ha'⟩ : ∃ xs' : List V, SqT K _ b xs' ∧ DpAll K _ xs' (.str z :: r) := by
      cases hx with
      | tup h1 h2 => exact ⟨_, h1, h2⟩
    refine ⟨_, rfl, b, xs', rfl, .inr (Same.seqT g.rest.1 hs'), fun y3 hy3 => ?_⟩
    obtain ⟨gi, e3⟩ := lst_new (K := K) g.rest hy3 ha'
    replace g := g.trans gi
    replace hx := dp_same gi.same _ _ hx
    replace pn := pn.same gi.same
    replace f1 := f1.same gi.same
    replace f2 := f2.same gi.same
    have f3 : PD K 60 _ (.ref y3) := ⟨_, e3, hg.mono (by decide)⟩
    refine ⟨_, rfl, Nat.zero_le _, fun u0 hu0 => ?_⟩
    obtain ⟨gi, du0⟩ := tup_new (K := K) (vs := []) (ds := []) g.rest hu0 .nil
    replace g := g.trans gi
    replace hx := dp_same gi.same _ _ hx
    replace pn := pn.same gi.same
    replace f1 := f1.same gi.same
    replace f2 := f2.same gi.same
    replace f3 := f3.same gi.same
    refine ⟨(by show 1 ≤ sizeLine; decide), fun u hu => ?_⟩
    obtain ⟨gi, du⟩ := tup_new (K := K) (vs := [.ref u0]) (ds := [.tuple []]) g.rest hu (.cons du0 .nil)
    replace g := g.trans gi
    replace hx := dp_same gi.same _ _ hx
    replace pn := pn.same gi.same
    replace f1 := f1.same gi.same
    replace f2 := f2.same gi.same
    replace f3 := f3.same gi.same
    refine cat_ok (K := K) g.rest hx du (by rw [List.length_singleton]; omega) fun y4 Ri Hi gi e4 => ?_
    replace g := g.trans gi
    replace hx := dp_same gi.same _ _ hx
    replace pn := pn.same gi.same
    replace f1 := f1.same gi.same
    replace f2 := f2.same gi.same
    replace f3 := f3.same gi.same
    have f4 : PD K 60 _ y4 := ⟨_, e4, (good_t (n := 4) (by rw [List.length_append, List.length_singleton]; omega) (fun d hd => by
      rw [List.mem_append, List.mem_singleton] at hd
      rcases hd with hd | rfl
      · exact inner4 d hd
      · constructor <;> decide)).mono (by decide)⟩
    obtain ⟨xs2, hs2, hat0⟩ : ∃ xs2 : List V, SqT K _ b xs2 ∧ atI xs2 0 = some (.str z) := by
      cases hx with
      | tup h1 h2 =>
        cases h2 with
        | cons h3 _ =>
          cases h3
          exact ⟨_, h1, atI_nat (j := 0) rfl⟩
    refine ⟨_, rfl, b, xs2, _, _, rfl, rfl, Same.seqT g.rest.1 hs2, hat0, ⟨_, rfl⟩, _, rfl, rfl, (by omega), (by show 1 ≤ sizeLine; decide), fun u hu => ?_⟩
    obtain ⟨gi, du⟩ := tup_new (K := K) (vs := [.str (Txt.upper z)]) (ds := [.str (Txt.upper z)]) g.rest hu (.cons (.str _) .nil)
    replace g := g.trans gi
    replace hx := dp_same gi.same _ _ hx
    replace pn := pn.same gi.same
    replace f1 := f1.same gi.same
    replace f2 := f2.same gi.same
    replace f3 := f3.same gi.same
    replace f4 := f4.same gi.same
    refine ⟨_, rfl, _, rfl, slice_lo (K := K) g.rest hx fun y5a Ri Hi gi e5a => ?_⟩
    replace g := g.trans gi
    replace hx := dp_same gi.same _ _ hx
    replace pn := pn.same gi.same
    replace f1 := f1.same gi.same
    replace f2 := f2.same gi.same
    replace f3 := f3.same gi.same
    replace f4 := f4.same gi.same
    replace du := dp_same gi.same _ _ du
    refine cat_ok (K := K) g.rest du e5a (by have := cutG_len (PyData.str z :: r) (some 1) none; rw [List.length_singleton]; omega) fun y5 Ri Hi gi e5 => ?_
    replace g := g.trans gi
    replace hx := dp_same gi.same _ _ hx
    replace pn := pn.same gi.same
    replace f1 := f1.same gi.same
    replace f2 := f2.same gi.same
    replace f3 := f3.same gi.same
    replace f4 := f4.same gi.same
    replace du := dp_same gi.same _ _ du
    have f5 : PD K 60 _ y5 := ⟨_, e5, (good_t (n := 4) (by have := cutG_len (PyData.str z :: r) (some 1) none; rw [List.length_append, List.length_singleton]; omega) (fun d hd => by
      rw [List.mem_append, List.mem_singleton] at hd
      rcases hd with rfl | hd
      · exact good_str (by omega) hz4 4
      · exact inner4 d (cutG_mem hd))).mono (by decide)⟩
    refine ⟨(by show 5 ≤ sizeLine; decide), fun l3 hl3 => ?_⟩
    obtain ⟨gi, el3⟩ := lst_raw [y1, y2, .ref y3, y4, y5] g.rest hl3
    replace g := g.trans gi
    replace hx := dp_same gi.same _ _ hx
    replace pn := pn.same gi.same
    replace f1 := f1.same gi.same
    replace f2 := f2.same gi.same
    replace f3 := f3.same gi.same
    replace f4 := f4.same gi.same
    replace f5 := f5.same gi.same
    refine ⟨_, rfl, _, rfl, _, rfl, slice_ok (K := K) g.rest hx fun y6a Ri Hi gi e6a => ?_⟩
    replace g := g.trans gi
    replace hx := dp_same gi.same _ _ hx
    replace pn := pn.same gi.same
    replace f1 := f1.same gi.same
    replace f2 := f2.same gi.same
    replace f3 := f3.same gi.same
    replace f4 := f4.same gi.same
    replace f5 := f5.same gi.same
    replace el3 := gi.same _ _ el3
    obtain ⟨dn, hdn, gdn⟩ := id pn
    refine ⟨_, rfl, (by show 1 ≤ sizeLine; decide), fun u hu => ?_⟩
    obtain ⟨gi, du⟩ := tup_new (K := K) (vs := [nm]) (ds := [dn]) g.rest hu (.cons hdn .nil)
    replace g := g.trans gi
    replace hx := dp_same gi.same _ _ hx
    replace pn := pn.same gi.same
    replace f1 := f1.same gi.same
    replace f2 := f2.same gi.same
    replace f3 := f3.same gi.same
    replace f4 := f4.same gi.same
    replace f5 := f5.same gi.same
    replace e6a := dp_same gi.same _ _ e6a
    replace el3 := gi.same _ _ el3
    refine cat_ok (K := K) g.rest e6a du (by have := cutG_len (PyData.str z :: r) none (some 1); rw [List.length_singleton]; omega) fun y6b Ri Hi gi e6b => ?_
    replace g := g.trans gi
    replace hx := dp_same gi.same _ _ hx
    replace pn := pn.same gi.same
    replace f1 := f1.same gi.same
    replace f2 := f2.same gi.same
    replace f3 := f3.same gi.same
    replace f4 := f4.same gi.same
    replace f5 := f5.same gi.same
    replace el3 := gi.same _ _ el3
    refine ⟨_, rfl, _, rfl, slice_lo (K := K) g.rest hx fun y6c Ri Hi gi e6c => ?_⟩
    replace g := g.trans gi
    replace hx := dp_same gi.same _ _ hx
    replace pn := pn.same gi.same
    replace f1 := f1.same gi.same
    replace f2 := f2.same gi.same
    replace f3 := f3.same gi.same
    replace f4 := f4.same gi.same
    replace f5 := f5.same gi.same
    replace e6b := dp_same gi.same _ _ e6b
    replace el3 := gi.same _ _ el3
    refine cat_ok (K := K) g.rest e6b e6c (by have := cutG_len (PyData.str z :: r) none (some 1); have := cutG_len (PyData.str z :: r) (some 2) none; rw [List.length_append, List.length_singleton]; omega) fun y6 Ri Hi gi e6 => ?_
    replace g := g.trans gi
    replace hx := dp_same gi.same _ _ hx
    replace pn := pn.same gi.same
    replace f1 := f1.same gi.same
    replace f2 := f2.same gi.same
    replace f3 := f3.same gi.same
    replace f4 := f4.same gi.same
    replace f5 := f5.same gi.same
    replace el3 := gi.same _ _ el3
    have f6 : PD K 60 _ y6 := ⟨_, e6, (good_t (n := 4) (by have := cutG_len (PyData.str z :: r) none (some 1); have := cutG_len (PyData.str z :: r) (some 2) none; rw [List.length_append, List.length_append, List.length_singleton]; omega) (fun d hd => by
      rw [List.mem_append, List.mem_append, List.mem_singleton] at hd
      rcases hd with (hd | rfl) | hd
      · exact inner4 d (cutG_mem hd)
      · exact gdn
      · exact inner4 d (cutG_mem hd))).mono (by decide)⟩
    refine ⟨_, rfl, _, rfl, slice_lo (K := K) g.rest hx fun y7 Ri Hi gi e7 => ?_⟩
    replace g := g.trans gi
    replace hx := dp_same gi.same _ _ hx
    replace pn := pn.same gi.same
    replace f1 := f1.same gi.same
    replace f2 := f2.same gi.same
    replace f3 := f3.same gi.same
    replace f4 := f4.same gi.same
    replace f5 := f5.same gi.same
    replace f6 := f6.same gi.same
    replace el3 := gi.same _ _ el3
    have f7 : PD K 60 _ y7 := ⟨_, e7, (good_t (n := 4) (Nat.le_trans (cutG_len ..) (by omega)) (fun d hd => inner4 d (cutG_mem hd))).mono (by decide)⟩
    refine ⟨(by show 1 ≤ sizeLine; decide), fun u2 hu2 => ?_⟩
    obtain ⟨gi, du2⟩ := tup_new (K := K) (vs := [.non]) (ds := [.none]) g.rest hu2 (.cons .non .nil)
    replace g := g.trans gi
    replace hx := dp_same gi.same _ _ hx
    replace pn := pn.same gi.same
    replace f1 := f1.same gi.same
    replace f2 := f2.same gi.same
    replace f3 := f3.same gi.same
    replace f4 := f4.same gi.same
    replace f5 := f5.same gi.same
    replace f6 := f6.same gi.same
    replace f7 := f7.same gi.same
    replace el3 := gi.same _ _ el3
    refine ⟨_, rfl, _, rfl, slice_lo (K := K) g.rest hx fun y8a Ri Hi gi e8a => ?_⟩
    replace g := g.trans gi
    replace hx := dp_same gi.same _ _ hx
    replace pn := pn.same gi.same
    replace f1 := f1.same gi.same
    replace f2 := f2.same gi.same
    replace f3 := f3.same gi.same
    replace f4 := f4.same gi.same
    replace f5 := f5.same gi.same
    replace f6 := f6.same gi.same
    replace f7 := f7.same gi.same
    replace du2 := dp_same gi.same _ _ du2
    replace el3 := gi.same _ _ el3
    refine cat_ok (K := K) g.rest du2 e8a (by have := cutG_len (PyData.str z :: r) (some 1) none; rw [List.length_singleton]; omega) fun y8 Ri Hi gi e8 => ?_
    replace g := g.trans gi
    replace hx := dp_same gi.same _ _ hx
    replace pn := pn.same gi.same
    replace f1 := f1.same gi.same
    replace f2 := f2.same gi.same
    replace f3 := f3.same gi.same
    replace f4 := f4.same gi.same
    replace f5 := f5.same gi.same
    replace f6 := f6.same gi.same
    replace f7 := f7.same gi.same
    replace el3 := gi.same _ _ el3
    have f8 : PD K 60 _ y8 := ⟨_, e8, (good_t (n := 4) (by have := cutG_len (PyData.str z :: r) (some 1) none; rw [List.length_append, List.length_singleton]; omega) (fun d hd => by
      rw [List.mem_append, List.mem_singleton] at hd
      rcases hd with rfl | hd
      · constructor <;> decide
      · exact inner4 d (cutG_mem hd))).mono (by decide)⟩
    obtain ⟨xs3, hs3, hat3⟩ : ∃ xs3 : List V, SqT K _ b xs3 ∧ atI xs3 0 = some (.str z) := by
      cases hx with
      | tup h1 h2 =>
        cases h2 with
        | cons h3 _ =>
          cases h3
          exact ⟨_, h1, atI_nat (j := 0) rfl⟩
    refine ⟨_, rfl, b, xs3, _, _, rfl, rfl, Same.seqT g.rest.1 hs3, hat3, _, rfl, (by show 5 ≤ sizeLine; decide), fun l4 hl4 => ?_⟩
    have gi := Go.new (o := .lst [y6, y7, y8, .str z, .ref b]) g.rest hl4
    replace g := g.trans gi
    replace hx := dp_same gi.same _ _ hx
    replace pn := pn.same gi.same
    replace f1 := f1.same gi.same
    replace f2 := f2.same gi.same
    replace f3 := f3.same gi.same
    replace f4 := f4.same gi.same
    replace f5 := f5.same gi.same
    replace f6 := f6.same gi.same
    replace f7 := f7.same gi.same
    replace f8 := f8.same gi.same
    replace el3 := gi.same _ _ el3
    refine ⟨l3, l4, _, _, rfl, rfl, g.rest.1 _ _ el3, upd_same, (by show 10 ≤ sizeLine; decide), fun l5 hl5 => ?_⟩
    have gi := Go.new (o := .lst ([y1, y2, .ref y3, y4, y5] ++ [y6, y7, y8, .str z, .ref b])) g.rest hl5
    replace g := g.trans gi
    replace hx := dp_same gi.same _ _ hx
    replace pn := pn.same gi.same
    replace f1 := f1.same gi.same
    replace f2 := f2.same gi.same
    replace f3 := f3.same gi.same
    replace f4 := f4.same gi.same
    replace f5 := f5.same gi.same
    replace f6 := f6.same gi.same
    replace f7 := f7.same gi.same
    replace f8 := f8.same gi.same
    replace el3 := gi.same _ _ el3
    obtain ⟨v, hat, hv⟩ := at_int (xs := [y1, y2, .ref y3, y4, y5] ++ [y6, y7, y8, .str z, .ref b]) w10 (by show w1.toNat < 10; omega)
    refine ⟨_, rfl, _, rfl, l5, _, w1, v, rfl, rfl, .inl (.inl upd_same), hat, q v _ _ g ?_⟩
    simp only [List.cons_append, List.nil_append, List.mem_cons, List.not_mem_nil, or_false] at hv
    rcases hv with rfl | rfl | rfl | rfl | rfl | rfl | rfl | rfl | rfl | rfl
    · exact f1
    · exact f2
    · exact f3
    · exact f4
    · exact f5
    · exact f6
    · exact f7
    · exact f8
    · exact ⟨_, .str z, good_str (by omega) hz2 60⟩
    · exact ⟨_, hx, hg.mono (by decide)⟩
end
end K03

namespace K03
open PySem PySem.Spec PyProof.Rows L2 TL
theorem ints_can : ∀ ns : List Int, PyData.canLayAll0 (ns.map PyData.int) = true ∧ PyData.depthAll (ns.map PyData.int) ≤ 1
  | [] => ⟨rfl, by decide⟩
  | y :: r => by
    obtain ⟨h1, h2⟩ := ints_can r
    refine ⟨?_, ?_⟩
    · show (PyData.canLay0 (PyData.int y) && PyData.canLayAll0 (r.map PyData.int)) = true
      rw [h1]
      rfl
    · show max (PyData.depth (PyData.int y)) (PyData.depthAll (r.map PyData.int)) ≤ 1
      exact Nat.max_le.mpr ⟨by simp [PyData.depth], h2⟩
theorem ints_lay (ns : List Int) : SeqAt.shaped (PyData.list (ns.map PyData.int)) = true := by
  obtain ⟨h1, h2⟩ := ints_can ns
  unfold SeqAt.shaped
  rw [Bool.and_eq_true, decide_eq_true_eq]
  refine ⟨h1, ?_⟩
  show PyData.depthAll (ns.map PyData.int) + 1 ≤ 64
  omega
theorem dp_ints {K : PySem.W.Frag} {H : Hp} : ∀ ys : List Int, DpAll K H (ys.map V.int) (ys.map PyData.int)
  | [] => .nil
  | y :: r => .cons (.int y) (dp_ints r)
theorem same_of {H H1 : Hp} {p : Addr} {o : HO} (s : Same H H1) (h : H1 p = none) : Same H (upd H1 p o) := s.trans (same_upd h)
theorem joinL_mem : ∀ (ls : List (List Nat)) (c : Nat), c ∈ joinL [] ls → ∃ l ∈ ls, c ∈ l
  | [], c, h => by cases h
  | [l], c, h => ⟨l, List.mem_cons_self .., h⟩
  | l :: m :: r, c, h => by
    have h : c ∈ l ++ ([] ++ joinL [] (m :: r)) := h
    rw [List.nil_append, List.mem_append] at h
    rcases h with h | h
    · exact ⟨l, List.mem_cons_self .., h⟩
    · obtain ⟨x, hx, hc⟩ := joinL_mem (m :: r) c h
      exact ⟨x, List.mem_cons_of_mem _ hx, hc⟩
theorem joinL_len : ∀ (ls : List (List Nat)), (joinL [] ls).length = (ls.map List.length).sum
  | [] => rfl
  | [l] => by show l.length = _; simp
  | l :: m :: r => by
    show (l ++ ([] ++ joinL [] (m :: r))).length = _
    rw [List.nil_append, List.length_append, joinL_len (m :: r)]
    rfl
theorem join_facts (ys : List Str) (h : ∀ y ∈ ys, y.length = 1 ∧ Sane y) : (Txt.join "" ys).length = ys.length ∧ Sane (Txt.join "" ys) := by
  have e : (Txt.join "" ys).cps.toList = joinL [] (ys.map tl) := by
    rw [join_eq]
    exact tl_join "" ys
  refine ⟨?_, ?_⟩
  · show (Txt.join "" ys).cps.size = ys.length
    rw [← Array.length_toList, e, joinL_len, List.map_map]
    clear e
    induction ys with
    | nil => rfl
    | cons y r ih =>
      rw [List.map_cons, List.sum_cons, List.length_cons, ih fun z hz => h z (List.mem_cons_of_mem _ hz)]
      have e1 : (List.length ∘ tl) y = 1 := by
        show y.cps.toList.length = 1
        rw [Array.length_toList]
        exact (h y (List.mem_cons_self ..)).1
      rw [e1]
      omega
  · intro c hc
    rw [e] at hc
    obtain ⟨l, hl, hcl⟩ := joinL_mem _ c hc
    obtain ⟨y, hy, rfl⟩ := List.mem_map.mp hl
    exact (h y hy).2 c hcl
theorem join_le (ys : List Str) (h : ∀ y ∈ ys, y.length = 1) : (ys.map (·.length)).sum = ys.length := by
  induction ys with
  | nil => rfl
  | cons y r ih =>
    rw [List.map_cons, List.sum_cons, List.length_cons, ih fun z hz => h z (List.mem_cons_of_mem _ hz), h y (List.mem_cons_self ..)]
    omega
theorem cut_mem {xs : List V} {lo hi : Option Int} {x : V} {i : Nat} (h : (cutV xs lo hi)[i]? = some x) : x ∈ xs := by
  have h1 := List.mem_of_getElem? h
  unfold cutV at h1
  exact List.mem_of_mem_drop (List.mem_of_mem_take h1)
theorem at_abc {r : Int} (h0 : 0 ≤ r) (h1 : r < 26) : ∃ c, atI abcS.cps.toList r = some c ∧ c < 1114112 := by
  have hl : abcS.cps.toList.length = 26 := by decide +kernel
  have hi : r.toNat < abcS.cps.toList.length := by omega
  have e := atI_nat (List.getElem?_eq_getElem hi)
  rw [Int.toNat_of_nonneg h0] at e
  refine ⟨_, e, ?_⟩
  have := (abc_mem _).mp (List.getElem_mem hi)
  omega
/-- the law's words -/
abbrev W23 : List Str := ["look", "hold", "try", "let", "enter", "leave", "touch", "use", "lock", "unlock", "out", "wait", "empty", "down", "start", "ask", "mark", "bar", "forget", "idle", "come", "", "step"]
def wdB (z : Str) : Bool := decide (z.length ≤ 100) && z.cps.toList.all (fun c => decide (c < 1114112)) && decide ((Txt.upper z).length ≤ 100) && (Txt.upper z).cps.toList.all (fun c => decide (c < 1114112))
theorem wd_of {z : Str} (h : wdB z = true) : Wd z := by
  unfold wdB at h
  simp only [Bool.and_eq_true, decide_eq_true_eq, List.all_eq_true] at h
  exact ⟨h.1.1.1, fun c hc => h.1.1.2 c hc, h.1.2, fun c hc => h.2 c hc⟩
theorem wd_all : ∀ z ∈ W23, Wd z := by
  have h : W23.all wdB = true := by decide +kernel
  rw [List.all_eq_true] at h
  exact fun z hz => wd_of (h z hz)
section
variable {P : Program} {w : World} {K : PySem.W.Frag} {mg : Str → Option Value} {base : Heap} {lt0 lt1 : Tok} {t0 t1 t2 t3 t4 t5 t6 t7 : Addr}
/-- what the law may turn about -/
def PV (K : PySem.W.Frag) (R : Hp) (y : V) : Prop := ∃ (z : Str) (r : List PyData), Dp K R y (.tuple (.str z :: r)) ∧ Good 5 (.tuple (.str z :: r)) ∧ r.length ≤ 2 ∧ Wd z
theorem PV.same {R R' : Hp} {y : V} (h : PV K R y) (s : Same R R') : PV K R' y := by
  obtain ⟨z, r, h1, h2, h3, h4⟩ := h
  exact ⟨z, r, dp_same s _ _ h1, h2, h3, h4⟩
theorem PV.pd {R : Hp} {y : V} (h : PV K R y) : PD K 60 R y := by
  obtain ⟨z, r, h1, h2, h3, h4⟩ := h
  exact ⟨_, h1, h2.mono (by decide)⟩
theorem pd_all {n : Nat} {R : Hp} : ∀ {ys : List V}, (∀ y ∈ ys, PD K n R y) → ∃ ds, DpAll K R ys ds ∧ ∀ d ∈ ds, Good n d
  | [], _ => ⟨[], .nil, fun d h => by cases h⟩
  | y :: ys, h => by
    obtain ⟨d, h1, h2⟩ := h y (List.mem_cons_self ..)
    obtain ⟨ds, h3, h4⟩ := pd_all fun z hz => h z (List.mem_cons_of_mem _ hz)
    refine ⟨d :: ds, .cons h1 h3, fun e he => ?_⟩
    rcases List.mem_cons.mp he with rfl | he
    · exact h2
    · exact h4 e he
theorem signs_of : ∀ {ys : List V}, (∀ y ∈ ys, ∃ c : Nat, y = .str ⟨#[c]⟩ ∧ c < 1114112) → ∃ zs : List Str, ys = zs.map V.str ∧ zs.length = ys.length ∧ ∀ z ∈ zs, z.length = 1 ∧ Sane z
  | [], _ => ⟨[], rfl, rfl, fun z h => by cases h⟩
  | y :: ys, h => by
    obtain ⟨c, rfl, hc⟩ := h y (List.mem_cons_self ..)
    obtain ⟨zs, h3, h4, h5⟩ := signs_of fun z hz => h z (List.mem_cons_of_mem _ hz)
    refine ⟨⟨#[c]⟩ :: zs, by rw [h3]; rfl, by rw [List.length_cons, List.length_cons, h4], fun e he => ?_⟩
    rcases List.mem_cons.mp he with rfl | he
    · exact ⟨rfl, fun x hx => by
        have : x = c := by simpa using hx
        omega⟩
    · exact h5 e he
theorem good_w {n : Nat} {z : Str} (h : Wd z) : Good n (.str z) := good_str (by have := h.1; omega) h.2.1 n
theorem mem_app {P : V → Prop} {a b c : List V} (e : a ++ b = c) (h1 : ∀ y ∈ a, P y) (h2 : ∀ y ∈ b, P y) : ∀ y ∈ c, P y := fun y h => by
  rw [← e] at h
  exact (List.mem_append.mp h).elim (h1 y) (h2 y)
theorem pick6 {R : Hp} {u1 u2 u3 u5 u6 : Addr} {nm : Str} {pk : V} (hng : ∀ n, Good n (.str nm)) (du1 : Dp K R (.ref u1) (.tuple [.str "start", .str nm])) (du2 : Dp K R (.ref u2) (.tuple [.str "touch"])) (du3 : Dp K R (.ref u3) (.tuple [.str "try"]))
    (du5 : Dp K R (.ref u5) (.tuple [.str "ask", .str nm, .tuple []])) (du6 : Dp K R (.ref u6) (.list [.str "let"])) (hpk : pk ∈ [V.ref u1, V.ref u2, V.ref u3, V.ref u5, V.ref u6, V.non]) : PD K 3 R pk := by
  simp only [List.mem_cons, List.not_mem_nil, or_false] at hpk
  rcases hpk with rfl | rfl | rfl | rfl | rfl | rfl
  · refine ⟨_, du1, good_t (n := 2) (by show 2 ≤ 1000; decide) (fun d hd => ?_)⟩
    rw [List.mem_cons, List.mem_singleton] at hd
    rcases hd with rfl | rfl
    · exact good_w (wd_all "start" (by decide))
    · exact hng 2
  · exact ⟨_, du2, by constructor <;> decide +kernel⟩
  · exact ⟨_, du3, by constructor <;> decide +kernel⟩
  · refine ⟨_, du5, good_t (n := 2) (by show 3 ≤ 1000; decide) (fun d hd => ?_)⟩
    rw [List.mem_cons, List.mem_cons, List.mem_singleton] at hd
    rcases hd with rfl | rfl | rfl
    · exact good_w (wd_all "ask" (by decide))
    · exact hng 2
    · constructor <;> decide
  · exact ⟨_, du6, by constructor <;> decide +kernel⟩
  · exact ⟨_, .non, by constructor <;> decide⟩
theorem asks3 {R : Hp} {u2 u5 u6 : Addr} {nm : Str} {es : List PyData} (hng : ∀ n, Good n (.str nm)) (hel : es.length ≤ 10) (hesg : ∀ d ∈ es, Good 3 d) (du2 : Dp K R (.ref u2) (.tuple [.str "ask", .str nm, .tuple es]))
    (du5 : Dp K R (.ref u5) (.tuple [.str "ask", .str nm, .tuple (cutG es none (some (-1)))])) (du6 : Dp K R (.ref u6) (.tuple [.str "ask", .str nm, .list es])) : ∀ y ∈ [V.ref u2, V.ref u5, V.ref u6], PV K R y := by
  intro y hy
  have wa := wd_all "ask" (by decide)
  have hgg : ∀ e : PyData, Good 4 e → Good 5 (.tuple [.str "ask", .str nm, e]) := fun e he => good_t (by show 3 ≤ 1000; decide) (fun d hd => by
    rw [List.mem_cons, List.mem_cons, List.mem_singleton] at hd
    rcases hd with rfl | rfl | rfl
    · exact good_w wa
    · exact hng 4
    · exact he)
  simp only [List.mem_cons, List.not_mem_nil, or_false] at hy
  rcases hy with rfl | rfl | rfl
  · exact ⟨"ask", _, du2, hgg _ (good_t (by omega) hesg), by show 2 ≤ 2; decide, wa⟩
  · exact ⟨"ask", _, du5, hgg _ (good_t (Nat.le_trans (cutG_len ..) (by omega)) (fun d hd => hesg d (cutG_mem hd))), by show 2 ≤ 2; decide, wa⟩
  · exact ⟨"ask", _, du6, hgg _ (Good.lst.mpr ⟨by omega, hesg⟩), by show 2 ≤ 2; decide, wa⟩
def spLaw (K : PySem.W.Frag) : Sp := fun vs H Q _ => ∃ (a : Addr) (ns : List Int), vs = [.ref a] ∧ SqL K H a (ns.map V.int) ∧ ns.length ≤ 63 ∧ ∀ H', Q (.bl true) H'
theorem sc_l_law : FnScope ["_law_script", "_law_words", "_law_k", "_law_cell", "_law_pool_here", "_law_letters", "_law_name", "_law_values", "_law_inner", "_law_thing", "_law_turn", "_law_word", "_law_value"] ["_law_script"] (defScope sLaw) := ⟨rfl, rfl, rfl, by decide +kernel, rfl, by decide +kernel, by decide +kernel⟩
theorem ok_l_law {f : Addr} {fd : FuncData} (F : Fun K "law" "law" sLaw f fd) (T : Txt K mg lt0 lt1 t0 t1 t2 t3 t4 t5 t6 t7) {f1 : Addr} {fd1 : FuncData} (F_l_pool : Fun K "_law_pool" "_law_pool" sPool f1 fd1) (b_l_pool : Binds K fd1 ["_law_cell", "_law_salt", "_law_many"] []) (g_l_pool : mg "_law_pool" = some (.ref f1)) (G_l_pool : FnOk P w K mg base CX0 2 f1 fd1 ["_law_cell", "_law_salt", "_law_many"] (spPool K)) {f2 : Addr} {fd2 : FuncData} (F_l_draw : Fun K "_law_draw" "_law_draw" sDraw f2 fd2) (b_l_draw : Binds K fd2 ["_law_pool_here", "_law_many"] []) (g_l_draw : mg "_law_draw" = some (.ref f2)) (G_l_draw : FnOk P w K mg base CX0 1 f2 fd2 ["_law_pool_here", "_law_many"] (spDraw K)) {f3 : Addr} {fd3 : FuncData} (F_l_pick : Fun K "_law_pick" "_law_pick" sPick f3 fd3) (b_l_pick : Binds K fd3 ["_law_pool_here", "_law_some"] []) (g_l_pick : mg "_law_pick" = some (.ref f3)) (G_l_pick : FnOk P w K mg base CX0 2 f3 fd3 ["_law_pool_here", "_law_some"] (spPick K)) {f4 : Addr} {fd4 : FuncData} (F_l_bent : Fun K "_law_bent" "_law_bent" slBent f4 fd4) (b_l_bent : Binds K fd4 ["_law_pool_here", "_law_value"] []) (g_l_bent : mg "_law_bent" = some (.ref f4)) (G_l_bent : FnOk P w K mg base CX0 2 f4 fd4 ["_law_pool_here", "_law_value"] (spBent K)) {f5 : Addr} {fd5 : FuncData} (F_l_right : Fun K "_law_right" "_law_right" slRight f5 fd5) (b_l_right : Binds K fd5 ["_law_value"] []) (g_l_right : mg "_law_right" = some (.ref f5)) (G_l_right : FnOk P w K mg base CX0 8 f5 fd5 ["_law_value"] (spRight K)) : FnOk P w K mg base CX0 9 f fd ["_law_script"] (spLaw K) := by
  refine F.ok sc_l_law (fun vs H Q E h => ?_) (fun cdv A outer s H vs Q E hr h => ?_)
  · obtain ⟨x, ns, rfl, _⟩ := h
    rfl
  · obtain ⟨a, ns, rfl, hS, hlen, q⟩ := h
    refine ⟨_, (pss_cons (ps_set (i := 1) sc_l_law.nd rfl (.inr rfl) (pe_lst (pa_cons pe_str (pa_cons pe_str (pa_cons pe_str (pa_cons pe_str (pa_cons pe_str (pa_cons pe_str (pa_cons pe_str (pa_cons pe_str (pa_cons pe_str (pa_cons pe_str (pa_cons pe_str (pa_cons pe_str (pa_cons pe_str pa_nil))))))))))))))) 
        (pss_cons (ps_set (i := 1) sc_l_law.nd rfl (.inr rfl) (pe_op op_cat (pv 1) (pe_lst (pa_cons pe_str (pa_cons pe_str (pa_cons pe_str (pa_cons pe_str (pa_cons pe_str (pa_cons pe_str (pa_cons pe_str (pa_cons pe_str (pa_cons pe_str (pa_cons pe_str pa_nil))))))))))))) 
        (pss_cons (ps_for PassesOwn.never rfl (pi_enum (by rfl) T.m_enumerate (pa_cons (pe_op op_cat (pe_slice sl_list (pv 0) po_none (po_some pe_int)) (pe_op op_rep (pe_lst (pa_cons pe_int pa_nil)) (pe_callTy call_int1 (by rfl) T.m_int (by decide +kernel) (pa_cons (pe_cmpR (op_eqD hr.units) (pv 0) (pe_lst pa_nil) (nomark _)) pa_nil)))) pa_nil)) (pg_tup rfl (pgs_cons (pg_name (i := 2) sc_l_law.nd rfl (.inl rfl)) (pgs_cons (pg_name (i := 3) sc_l_law.nd rfl (.inl rfl)) pgs_nil))) 
          (pss_cons (ps_set (i := 4) sc_l_law.nd rfl (.inr rfl) (pe_call G_l_pool (hr.mono (by decide)) (by rfl) g_l_pool F_l_pool.kp b_l_pool .nil pass0 (pa_cons (pv 3) (pa_cons (pe_op op_add pe_int (pv 2)) (pa_cons pe_int pa_nil))))) 
          (pss_cons (ps_set (i := 5) sc_l_law.nd rfl (.inr rfl) pe_str) 
          (pss_cons (ps_set (i := 6) sc_l_law.nd rfl (.inr rfl) (pe_join pe_str (pe_lc (own := [("_law_turn", 10)]) (g := gName 10) rfl sc_l_law.nd (pi_range1 rfl T.m_range (pa_cons (pe_op op_add pe_int (pe_call G_l_draw (hr.mono (by decide)) (by rfl) g_l_draw F_l_draw.kp b_l_draw .nil pass0 (pa_cons (pv 4) (pa_cons pe_int pa_nil)))) pa_nil)) (blkOk_by (N := ["_law_script", "_law_words", "_law_k", "_law_cell", "_law_pool_here", "_law_letters", "_law_name", "_law_values", "_law_inner", "_law_thing", "_law_turn", "_law_word", "_law_value"]) (sc := defScope sLaw) (by decide +kernel)) (fun _ _ _ _ _ => pg_name (i := 10) sc_l_law.nd rfl (.inl rfl)) (fun _ _ _ _ _ => pts_nil) (fun _ _ _ _ _ => (pe_ix ix_str (pv 5) (pe_call G_l_draw (hr.mono (by decide)) (by rfl) g_l_draw F_l_draw.kp b_l_draw .nil pass0 (pa_cons (pv 4) (pa_cons pe_int pa_nil))) (fun _ _ => rfl)))))) 
          (pss_cons (ps_set (i := 7) sc_l_law.nd rfl (.inl rfl) (pe_op op_cat (pe_lc (own := [("_law_word", 11)]) (g := gName 11) rfl sc_l_law.nd (pi_list (pv 1)) (blkOk_by (N := ["_law_script", "_law_words", "_law_k", "_law_cell", "_law_pool_here", "_law_letters", "_law_name", "_law_values", "_law_inner", "_law_thing", "_law_turn", "_law_word", "_law_value"]) (sc := defScope sLaw) (by decide +kernel)) (fun _ _ _ _ _ => pg_name (i := 11) sc_l_law.nd rfl (.inl rfl)) (fun _ _ _ _ _ => pts_nil) (fun _ _ _ _ _ => (pe_tup (pa_cons (pv 11) pa_nil)))) (pe_lc (own := [("_law_word", 11)]) (g := gName 11) rfl sc_l_law.nd (pi_list (pv 1)) (blkOk_by (N := ["_law_script", "_law_words", "_law_k", "_law_cell", "_law_pool_here", "_law_letters", "_law_name", "_law_values", "_law_inner", "_law_thing", "_law_turn", "_law_word", "_law_value"]) (sc := defScope sLaw) (by decide +kernel)) (fun _ _ _ _ _ => pg_name (i := 11) sc_l_law.nd rfl (.inl rfl)) (fun _ _ _ _ _ => pts_nil) (fun _ _ _ _ _ => (pe_tup (pa_cons (pv 11) (pa_cons (pv 6) pa_nil))))))) 
          (pss_cons (ps_setLc (i := 8) (own := [("_law_turn", 10)]) (g := gName 10) rfl sc_l_law.nd rfl rfl (sw_true rfl rfl rfl (by decide +kernel)) (pi_range1 rfl T.m_range (pa_cons (pe_call G_l_draw (hr.mono (by decide)) (by rfl) g_l_draw F_l_draw.kp b_l_draw .nil pass0 (pa_cons (pv 4) (pa_cons pe_int pa_nil))) pa_nil)) (blkOk_by (N := ["_law_script", "_law_words", "_law_k", "_law_cell", "_law_pool_here", "_law_letters", "_law_name", "_law_values", "_law_inner", "_law_thing", "_law_turn", "_law_word", "_law_value"]) (sc := defScope sLaw) (by decide +kernel)) (fun _ _ _ _ _ => pg_name (i := 10) sc_l_law.nd rfl (.inl rfl)) (fun _ _ _ _ _ => pts_nil) (fun _ _ _ _ _ => (pe_tup (pa_cons (pe_call G_l_pick (hr.mono (by decide)) (by rfl) g_l_pick F_l_pick.kp b_l_pick .nil pass0 (pa_cons (pv 4) (pa_cons (pe_slice (r := rSlL K) sl_list (pv 1) (po_some pe_int) (po_some pe_int)) pa_nil))) pa_nil)))) 
          (pss_cons (ps_set (i := 8) sc_l_law.nd rfl (.inl rfl) (pe_op op_cat (pv 8) (pe_lst (pa_cons (pe_call G_l_pick (hr.mono (by decide)) (by rfl) g_l_pick F_l_pick.kp b_l_pick .nil pass0 (pa_cons (pv 4) (pa_cons (pe_lst (pa_cons (pe_tup (pa_cons pe_str (pa_cons (pv 6) pa_nil))) (pa_cons (pe_tup (pa_cons pe_str pa_nil)) (pa_cons (pe_tup (pa_cons pe_str pa_nil)) (pa_cons (pe_tup (pa_cons pe_str (pa_cons (pv 6) (pa_cons (pe_tup pa_nil) pa_nil)))) (pa_cons (pe_lst (pa_cons pe_str pa_nil)) (pa_cons pe_non pa_nil))))))) pa_nil))) pa_nil)))) 
          (pss_cons (ps_set (i := 7) sc_l_law.nd rfl (.inl rfl) (pe_op op_cat (pv 7) (pe_lst (pa_cons (pe_tup (pa_cons pe_str (pa_cons (pv 6) (pa_cons (pe_callTy call_tuple_of (by rfl) T.m_tuple (by decide +kernel) (pa_cons (pv 8) pa_nil)) pa_nil)))) (pa_cons (pe_tup (pa_cons pe_str (pa_cons (pv 6) (pa_cons (pe_callTy call_tuple_of (by rfl) T.m_tuple (by decide +kernel) (pa_cons (pe_slice sl_list (pv 8) po_none (po_some (pe_un un_neg pe_int))) pa_nil)) pa_nil)))) (pa_cons (pe_tup (pa_cons pe_str (pa_cons (pv 6) (pa_cons (pv 8) pa_nil)))) pa_nil)))))) 
          (pss_cons (ps_set (i := 7) sc_l_law.nd rfl (.inl rfl) (pe_op op_cat (pv 7) (pe_lc (own := [("_law_value", 12)]) (g := gName 12) rfl sc_l_law.nd (pi_list (pv 7)) (blkOk_by (N := ["_law_script", "_law_words", "_law_k", "_law_cell", "_law_pool_here", "_law_letters", "_law_name", "_law_values", "_law_inner", "_law_thing", "_law_turn", "_law_word", "_law_value"]) (sc := defScope sLaw) (by decide +kernel)) (fun _ _ _ _ _ => pg_name (i := 12) sc_l_law.nd rfl (.inl rfl)) (fun _ _ _ _ _ => pts_nil) (fun _ _ _ _ _ => (pe_call G_l_bent (hr.mono (by decide)) (by rfl) g_l_bent F_l_bent.kp b_l_bent .nil pass0 (pa_cons (pv 4) (pa_cons (pv 12) pa_nil))))))) 
          (pss_one (ps_if (pt_cmpR (op_neD hr.units) (pe_lc (own := [("_law_value", 12)]) (g := gName 12) rfl sc_l_law.nd (pi_list (pv 7)) (blkOk_by (N := ["_law_script", "_law_words", "_law_k", "_law_cell", "_law_pool_here", "_law_letters", "_law_name", "_law_values", "_law_inner", "_law_thing", "_law_turn", "_law_word", "_law_value"]) (sc := defScope sLaw) (by decide +kernel)) (fun _ _ _ _ _ => pg_name (i := 12) sc_l_law.nd rfl (.inl rfl)) (fun _ _ _ _ _ => (pts_one (pt_not (pt_val (pe_call G_l_right hr (by rfl) g_l_right F_l_right.kp b_l_right .nil pass0 (pa_cons (pv 12) pa_nil)))))) (fun _ _ _ _ _ => (pv 12))) (pe_lst pa_nil) (nomark _)) 
            (pss_one (ps_ret pe_bl)) pss_nil))))))))))) 
        (pss_cons (ps_for PassesOwn.never rfl (pi_list (pe_lst (pa_cons pe_non (pa_cons pe_int (pa_cons pe_bl (pa_cons pe_str (pa_cons (pe_lst pa_nil) (pa_cons (pe_lst (pa_cons pe_str pa_nil)) (pa_cons pe_dnewK (pa_cons (pe_tup pa_nil) (pa_cons (pe_tup (pa_cons (pe_tup pa_nil) pa_nil)) (pa_cons (pe_tup (pa_cons pe_non pa_nil)) (pa_cons (pe_tup (pa_cons (pe_lst (pa_cons pe_str pa_nil)) pa_nil)) (pa_cons (pe_tup (pa_cons pe_int (pa_cons pe_str pa_nil))) pa_nil)))))))))))))) (pg_name (i := 9) sc_l_law.nd rfl (.inl rfl)) 
          (pss_one (ps_if (pt_not (pt_val (pe_call G_l_right hr (by rfl) g_l_right F_l_right.kp b_l_right .nil pass0 (pa_cons (pv 9) pa_nil)))) 
            (pss_one (ps_ret pe_bl)) pss_nil))) 
        (pss_one (ps_ret pe_bl)))))), ?_⟩
    have hcl : (cutV (ns.map V.int) none (some (8 : Int))).length ≤ 63 := by
      unfold cutV
      rw [List.length_take, List.length_drop, List.length_map]
      omega
    -- the words
    refine ⟨(by show 13 ≤ sizeLine; decide), fun wl hwl => ⟨_, rfl, (by show 10 ≤ sizeLine; decide), fun w2 hw2 => ⟨wl, w2, _, _, rfl, rfl, same_upd hw2 wl _ upd_same, upd_same, (by show 23 ≤ sizeLine; decide), fun wd hwd => ?_⟩⟩⟩
    have sW : Same H (upd (upd (upd H wl (.lst [.str "look", .str "hold", .str "try", .str "let", .str "enter", .str "leave", .str "touch", .str "use", .str "lock", .str "unlock", .str "out", .str "wait", .str "empty"])) w2 (.lst [.str "down", .str "start", .str "ask", .str "mark", .str "bar", .str "forget", .str "idle", .str "come", .str "", .str "step"])) wd (.lst (W23.map V.str))) := same_of (same_of (same_upd hwl) hw2) hwd
    have eW := upd_same (H := upd (upd H wl (.lst [.str "look", .str "hold", .str "try", .str "let", .str "enter", .str "leave", .str "touch", .str "use", .str "lock", .str "unlock", .str "out", .str "wait", .str "empty"])) w2 (.lst [.str "down", .str "start", .str "ask", .str "mark", .str "bar", .str "forget", .str "idle", .str "come", .str "", .str "step"])) (a := wd) (o := .lst (W23.map V.str))
    refine ⟨_, rfl, _, rfl, a, _, rfl, sW.seq hS, fun c0 hc0 => ⟨(by show 1 ≤ sizeLine; decide), fun l1 hl1 => ⟨_, rfl, Nat.zero_le _, fun e0 he0 => ?_⟩⟩⟩
    have s1 := same_of (o := .lst (cutV (ns.map V.int) none (some (8 : Int)))) sW hc0
    have w1 := same_upd (o := .lst (cutV (ns.map V.int) none (some (8 : Int)))) hc0 wd _ eW
    have s2 := same_of (o := .lst [V.int 7]) s1 hl1
    have w2' := same_upd (o := .lst [V.int 7]) hl1 wd _ w1
    have s3 := same_of (o := .lst []) s2 he0
    have w3 := same_upd (o := .lst []) he0 wd _ w2'
    have ec0 := (same_of (o := .lst []) (same_upd (o := .lst [V.int 7]) hl1) he0) c0 _ upd_same
    have el1 := same_upd (o := .lst []) he0 l1 _ upd_same
    refine ⟨_, _, .lst (s3.seq hS) (dp_ints ns), .lst (xs := []) (.inl (.inl upd_same)) .nil, ints_lay ns, rfl, .inr ⟨_, rfl, l1, _, [V.int 7], rfl, rfl, el1, ?z1, ?z2, ?z3, fun r0 hr0 => ⟨c0, r0, _, _, rfl, rfl, same_upd hr0 c0 _ ec0, upd_same, ?z4, fun p0 hp0 => ⟨p0, _, rfl, .inl (.inl upd_same), ?_⟩⟩⟩⟩
    case z1 => split <;> decide
    case z2 => split <;> decide
    case z3 => split <;> decide
    case z4 =>
      refine Nat.le_of_lt (small1000 ?_)
      have : (List.replicate (if PyData.eqv (.list (ns.map PyData.int)) (.list []) = true then (1 : Int) else 0).toNat [V.int 7]).flatten.length ≤ 1 := by
        split <;> decide
      omega
    obtain ⟨cells, hcells⟩ : ∃ cells : List V, cells = cutV (ns.map V.int) none (some (8 : Int)) ++ (List.replicate (if PyData.eqv (.list (ns.map PyData.int)) (.list []) = true then (1 : Int) else 0).toNat [V.int 7]).flatten := ⟨_, rfl⟩
    have hxs : ∀ x ∈ cells, ∃ c, x = V.int c := by
      intro x hx
      rw [hcells, List.mem_append] at hx
      rcases hx with hx | hx
      · obtain ⟨i, hi⟩ := List.getElem?_of_mem hx
        obtain ⟨c, _, e⟩ := List.mem_map.mp (cut_mem hi)
        exact ⟨c, e.symm⟩
      · obtain ⟨l, h1, h2⟩ := List.mem_flatten.mp hx
        rw [(List.mem_replicate.mp h1).2, List.mem_singleton] at h2
        exact ⟨7, h2⟩
    have hxl : cells.length ≤ 100 := by
      have : (List.replicate (if PyData.eqv (.list (ns.map PyData.int)) (.list []) = true then (1 : Int) else 0).toNat [V.int 7]).flatten.length ≤ 1 := by
        split <;> decide
      rw [hcells, List.length_append]
      omega
    have s4 := same_of (o := .lst (List.replicate (if PyData.eqv (.list (ns.map PyData.int)) (.list []) = true then (1 : Int) else 0).toNat [V.int 7]).flatten) s3 hr0
    have w4 := same_upd (o := .lst (List.replicate (if PyData.eqv (.list (ns.map PyData.int)) (.list []) = true then (1 : Int) else 0).toNat [V.int 7]).flatten) hr0 wd _ w3
    have s5 := same_of (o := .lst cells) s4 hp0
    have w5 := same_upd (o := .lst cells) hp0 wd _ w4
    rw [hcells] at s5 w5
    refine for_it walk_enum (fun i σ H' => Same H H' ∧ H' p0 = some (.lst (cutV (ns.map V.int) none (some (8 : Int)) ++ (List.replicate (if PyData.eqv (.list (ns.map PyData.int)) (.list []) = true then (1 : Int) else 0).toNat [V.int 7]).flatten)) ∧ H' wd = some (.lst (W23.map V.str)) ∧ ∃ y2 y3 y4 y5 y6 y7 y8 y9 y10 y11 y12 : Option V, σ = [some (.ref a), some (.ref wd), y2, y3, y4, y5, y6, y7, y8, y9, y10, y11, y12]) ⟨s5, upd_same, w5, _, _, _, _, _, _, _, _, _, _, _, rfl⟩ (fun i σ H' _ h => .inl (.inl h.2.1)) ?_ ?_
    · clear s1 s2 s3 s4 s5 w1 w2' w3 w4 w5 ec0 el1 hr0 hp0 he0 hl1 hc0 sW eW hwd hw2 hwl
      rintro i x σ H1 H2 hi ⟨s6, e6, k6, y2, y3, y4, y5, y6, y7, y8, y9, y10, y11, y12, rfl⟩ ⟨t, kk, x, rfl, ht, rfl, hk, hx⟩
      rw [← hcells] at hx e6 hi
      obtain ⟨c, rfl⟩ := hxs x (List.mem_of_getElem? hx)
      have ek : kk = .int (i : Nat) := (Option.some.inj hk).symm
      subst ek
      have hi100 : i < 100 := by
        have := (List.getElem?_eq_some_iff.mp hx).1
        omega
      have s7 := same_of (o := .tup [.int (i : Nat), .int c]) s6 ht
      have e7 := same_upd (o := .tup [.int (i : Nat), .int c]) ht p0 _ e6
      have k7 := same_upd (o := .tup [.int (i : Nat), .int c]) ht wd _ k6
      refine ⟨t, _, rfl, .inl (.inl upd_same), rfl, _, _, rfl, _, [], rfl, rfl, ?_⟩
      generalize upd H1 t (.tup [.int (i : Nat), .int c]) = H2 at s7 e7 k7
      clear s6 e6 k6 ht
      refine ⟨_, rfl, _, rfl, _, _, rfl, rfl, c, _, _, rfl, ⟨by omega, by omega⟩, ⟨by decide, by decide⟩, fun R H3 p sR k sH => ?_⟩
      have s8 := s7.trans sR
      have e8 := sR _ _ e7
      have k8 := sR _ _ k7
      have g := k.go
      have kW := k8
      clear k8
      -- the name
      refine ⟨⟨_, rfl⟩, _, rfl, p, 8, R, rfl, by decide, k, fun r1 H4 r10 r11 gi => ⟨_, _, rfl, rfl, _, rfl, by omega, by omega, fun D hD => ?_⟩⟩
      replace g := g.trans gi
      replace kW := gi.same _ _ kW
      refine lc_go walk_range (n := (1 + r1).toNat) (by omega) g.rest hD (fun _ _ _ => trivial) (fun _ y => ∃ c : Nat, y = .str ⟨#[c]⟩ ∧ c < 1114112) (fun _ _ _ _ h => h) ?_ ?_
      · rintro j x R5 H5 H5' hj g2 ⟨rfl, rfl⟩ C E hC
        refine ⟨rfl, yes_then ⟨_, rfl, _, rfl, p, 26, R5, rfl, by decide, g2.rest, fun r2 H6 r20 r21 g3 => ?_⟩⟩
        obtain ⟨c', hc', hc2⟩ := at_abc r20 r21
        exact ⟨abcS, r2, c', rfl, rfl, by decide, hc', hC _ _ _ g3 ⟨c', rfl, hc2⟩⟩
      intro R5 H5 ys gi hD5 hl hP
      replace g := g.trans gi
      replace kW := gi.same _ _ kW
      obtain ⟨zs, rfl, hzl, hz⟩ := signs_of hP
      obtain ⟨j1, j2⟩ := join_facts zs hz
      have hz9 : zs.length ≤ 9 := by omega
      have fits : (zs.map (·.length)).sum + zs.length * (Str.ofString "").length ≤ 16777216 := by
        rw [join_le zs fun y h => (hz y h).1]
        show zs.length + zs.length * 0 ≤ 16777216
        omega
      refine ⟨_, D, zs, rfl, rfl, .inl (.inl (.inl (g.rest.1 _ _ hD5))), fits, ?_⟩
      have hnl : (Txt.join (Str.ofString "") zs).length ≤ 9 := by
        have e : (Txt.join (Str.ofString "") zs).length = zs.length := j1
        omega
      have hns : Sane (Txt.join (Str.ofString "") zs) := j2
      have hng : ∀ n, Good n (.str (Txt.join (Str.ofString "") zs)) := fun n => good_str (by omega) hns n
      -- values
      refine ⟨_, rfl, wd, rfl, ⟨_, .inl (.inl (g.rest.1 _ _ kW))⟩, fun D1 hD1 => ?_⟩
      refine lc_go (walk_list (xs := W23.map V.str)) (by decide) g.rest hD1 (fun R1 H1 g1 => .inl (.inl (g1.rest.1 _ _ (g1.same _ _ kW)))) (PV K) (fun _ _ _ s h => h.same s) ?_ ?_
      · rintro j x R6 H6 H6' hj g3 ⟨rfl, hx⟩ C E hC
        obtain ⟨z, hz, rfl⟩ := List.mem_map.mp (List.mem_of_getElem? hx)
        refine ⟨rfl, yes_then ⟨_, rfl, (by show 1 ≤ sizeLine; decide), fun t ht => ?_⟩⟩
        obtain ⟨gi, du⟩ := tup_new (K := K) (vs := [.str z]) (ds := [.str z]) g3.rest ht (.cons (.str z) .nil)
        exact hC _ _ _ gi ⟨z, [], du, good_t (by show 1 ≤ 1000; decide) (fun d hd => by rw [List.mem_singleton] at hd; rw [hd]; exact good_w (wd_all z hz)), by decide, wd_all z hz⟩
      intro R6 H6 ys1 gi kD1 hl1 hP1
      replace g := g.trans gi
      replace kW := gi.same _ _ kW
      refine ⟨_, rfl, wd, rfl, ⟨_, .inl (.inl (g.rest.1 _ _ kW))⟩, fun D2 hD2 => ?_⟩
      refine lc_go (walk_list (xs := W23.map V.str)) (by decide) g.rest hD2 (fun R1 H1 g1 => .inl (.inl (g1.rest.1 _ _ (g1.same _ _ kW)))) (PV K) (fun _ _ _ s h => h.same s) ?_ ?_
      · rintro j x R7 H7 H7' hj g3 ⟨rfl, hx⟩ C E hC
        obtain ⟨z, hz, rfl⟩ := List.mem_map.mp (List.mem_of_getElem? hx)
        refine ⟨rfl, yes_then ⟨_, rfl, _, rfl, (by show 2 ≤ sizeLine; decide), fun t ht => ?_⟩⟩
        obtain ⟨gi, du⟩ := tup_new (K := K) (vs := [.str z, .str (Txt.join (Str.ofString "") zs)]) (ds := [.str z, .str (Txt.join (Str.ofString "") zs)]) g3.rest ht (.cons (.str z) (.cons (.str _) .nil))
        refine hC _ _ _ gi ⟨z, _, du, good_t (by show 2 ≤ 1000; decide) (fun d hd => ?_), by show 1 ≤ 2; decide, wd_all z hz⟩
        rw [List.mem_cons, List.mem_singleton] at hd
        rcases hd with rfl | rfl
        · exact good_w (wd_all z hz)
        · exact hng 4
      intro R7 H7 ys2 gi kD2 hl2 hP2
      replace g := g.trans gi
      replace kW := gi.same _ _ kW
      replace kD1 := gi.same _ _ kD1
      replace hP1 := fun y h => (hP1 y h).same gi.same
      rw [List.length_map] at hl1 hl2
      have hl1 : ys1.length = 23 := hl1
      have hl2 : ys2.length = 23 := hl2
      refine ⟨D1, D2, _, _, rfl, rfl, g.rest.1 _ _ kD1, g.rest.1 _ _ kD2, Nat.le_of_lt (small1000 (by omega)), fun v0 hv0 => ?_⟩
      obtain ⟨vals, h_vals⟩ : ∃ x, ys1 ++ ys2 = x := ⟨_, rfl⟩
      rw [h_vals]
      obtain ⟨gi, kV⟩ := lst_raw vals g.rest hv0
      replace g := g.trans gi
      replace kW := gi.same _ _ kW
      replace kD1 := gi.same _ _ kD1
      replace hP1 := fun y h => (hP1 y h).same gi.same
      replace kD2 := gi.same _ _ kD2
      replace hP2 := fun y h => (hP2 y h).same gi.same
      have hPV := mem_app h_vals hP1 hP2
      have hVl : vals.length = 46 := by rw [← h_vals, List.length_append]; omega
      clear kD1 kD2 hP1 hP2 hl1 hl2
      -- inner
      refine ⟨_, rfl, p, 6, _, rfl, by decide, g.rest, fun r3 H8 r30 r31 gi => ⟨_, rfl, by omega, by omega, fun D3 hD3 => ?_⟩⟩
      replace g := g.trans gi
      replace kW := gi.same _ _ kW
      replace kV := gi.same _ _ kV
      replace hPV := fun y h => (hPV y h).same gi.same
      refine lc_go walk_range (n := r3.toNat) (by omega) g.rest hD3 (fun _ _ _ => trivial) (PD K 3) (fun _ _ _ s h => h.same s) ?_ ?_
      · rintro j x R9 H9 H9' hj g3 ⟨rfl, rfl⟩ C E hC
        refine ⟨rfl, yes_then ⟨_, rfl, _, rfl, _, rfl, _, rfl, wd, _, rfl, .inl (.inl (g3.rest.1 _ _ (g3.same _ _ kW))), fun t ht => ?_⟩⟩
        obtain ⟨g4, kt⟩ := lst_raw (cutV (W23.map V.str) (some 3) (some 10)) g3.rest ht
        refine ⟨p, t, _, _, rfl, .inl (.inl kt), by decide, g4.rest, fun x H' hx g5 => ⟨(by show 1 ≤ sizeLine; decide), fun t2 ht2 => ?_⟩⟩
        obtain ⟨j2, hj2⟩ := List.getElem?_of_mem hx
        obtain ⟨z, hz, rfl⟩ := List.mem_map.mp (cut_mem hj2)
        obtain ⟨gi, du⟩ := tup_new (K := K) (vs := [.str z]) (ds := [.str z]) g5.rest ht2 (.cons (.str z) .nil)
        exact hC _ _ _ ((g4.trans g5).trans gi) ⟨_, du, good_t (n := 2) (by show 1 ≤ 1000; decide) (fun d hd => by rw [List.mem_singleton] at hd; rw [hd]; exact good_w (wd_all z hz))⟩
      intro R9 H9 ys3 gi kI hl3 hPI
      replace g := g.trans gi
      replace kW := gi.same _ _ kW
      replace kV := gi.same _ _ kV
      replace hPV := fun y h => (hPV y h).same gi.same
      -- inner + [pick]
      refine ⟨_, rfl, _, rfl, _, rfl, (by show 2 ≤ sizeLine; decide), fun u1 hu1 => ?_⟩
      obtain ⟨gi, du1⟩ := tup_new (K := K) (vs := [.str "start", .str (Txt.join (Str.ofString "") zs)]) (ds := [.str "start", .str (Txt.join (Str.ofString "") zs)]) g.rest hu1 (.cons (.str _) (.cons (.str _) .nil))
      replace g := g.trans gi
      replace kW := gi.same _ _ kW
      replace kV := gi.same _ _ kV
      replace hPV := fun y h => (hPV y h).same gi.same
      replace kI := gi.same _ _ kI
      replace hPI := fun y h => (hPI y h).same gi.same
      refine ⟨(by show 1 ≤ sizeLine; decide), fun u2 hu2 => ?_⟩
      obtain ⟨gi, du2⟩ := tup_new (K := K) (vs := [.str "touch"]) (ds := [.str "touch"]) g.rest hu2 (.cons (.str _) .nil)
      replace g := g.trans gi
      replace kW := gi.same _ _ kW
      replace kV := gi.same _ _ kV
      replace hPV := fun y h => (hPV y h).same gi.same
      replace kI := gi.same _ _ kI
      replace hPI := fun y h => (hPI y h).same gi.same
      replace du1 := dp_same gi.same _ _ du1
      refine ⟨(by show 1 ≤ sizeLine; decide), fun u3 hu3 => ?_⟩
      obtain ⟨gi, du3⟩ := tup_new (K := K) (vs := [.str "try"]) (ds := [.str "try"]) g.rest hu3 (.cons (.str _) .nil)
      replace g := g.trans gi
      replace kW := gi.same _ _ kW
      replace kV := gi.same _ _ kV
      replace hPV := fun y h => (hPV y h).same gi.same
      replace kI := gi.same _ _ kI
      replace hPI := fun y h => (hPI y h).same gi.same
      replace du1 := dp_same gi.same _ _ du1
      replace du2 := dp_same gi.same _ _ du2
      refine ⟨_, rfl, Nat.zero_le _, fun u4 hu4 => ?_⟩
      obtain ⟨gi, du4⟩ := tup_new (K := K) (vs := []) (ds := []) g.rest hu4 .nil
      replace g := g.trans gi
      replace kW := gi.same _ _ kW
      replace kV := gi.same _ _ kV
      replace hPV := fun y h => (hPV y h).same gi.same
      replace kI := gi.same _ _ kI
      replace hPI := fun y h => (hPI y h).same gi.same
      replace du1 := dp_same gi.same _ _ du1
      replace du2 := dp_same gi.same _ _ du2
      replace du3 := dp_same gi.same _ _ du3
      refine ⟨(by show 3 ≤ sizeLine; decide), fun u5 hu5 => ?_⟩
      obtain ⟨gi, du5⟩ := tup_new (K := K) (vs := [.str "ask", .str (Txt.join (Str.ofString "") zs), .ref u4]) (ds := [.str "ask", .str (Txt.join (Str.ofString "") zs), .tuple []]) g.rest hu5 (.cons (.str _) (.cons (.str _) (.cons du4 .nil)))
      replace g := g.trans gi
      replace kW := gi.same _ _ kW
      replace kV := gi.same _ _ kV
      replace hPV := fun y h => (hPV y h).same gi.same
      replace kI := gi.same _ _ kI
      replace hPI := fun y h => (hPI y h).same gi.same
      replace du1 := dp_same gi.same _ _ du1
      replace du2 := dp_same gi.same _ _ du2
      replace du3 := dp_same gi.same _ _ du3
      replace du4 := dp_same gi.same _ _ du4
      refine ⟨(by show 1 ≤ sizeLine; decide), fun u6 hu6 => ?_⟩
      obtain ⟨gi, du6⟩ := lst_new (K := K) (vs := [.str "let"]) (ds := [.str "let"]) g.rest hu6 (.cons (.str _) .nil)
      replace g := g.trans gi
      replace kW := gi.same _ _ kW
      replace kV := gi.same _ _ kV
      replace hPV := fun y h => (hPV y h).same gi.same
      replace kI := gi.same _ _ kI
      replace hPI := fun y h => (hPI y h).same gi.same
      replace du1 := dp_same gi.same _ _ du1
      replace du2 := dp_same gi.same _ _ du2
      replace du3 := dp_same gi.same _ _ du3
      replace du4 := dp_same gi.same _ _ du4
      replace du5 := dp_same gi.same _ _ du5
      refine ⟨(by show 6 ≤ sizeLine; decide), fun u7 hu7 => ?_⟩
      obtain ⟨gi, ku7⟩ := lst_raw [.ref u1, .ref u2, .ref u3, .ref u5, .ref u6, .non] g.rest hu7
      replace g := g.trans gi
      replace kW := gi.same _ _ kW
      replace kV := gi.same _ _ kV
      replace hPV := fun y h => (hPV y h).same gi.same
      replace kI := gi.same _ _ kI
      replace hPI := fun y h => (hPI y h).same gi.same
      replace du1 := dp_same gi.same _ _ du1
      replace du2 := dp_same gi.same _ _ du2
      replace du3 := dp_same gi.same _ _ du3
      replace du4 := dp_same gi.same _ _ du4
      replace du5 := dp_same gi.same _ _ du5
      replace du6 := dp_same gi.same _ _ du6
      refine ⟨p, u7, _, _, rfl, .inl (.inl ku7), (by show 0 < 6; decide), g.rest, fun pk H10 hpk gi => ?_⟩
      replace g := g.trans gi
      replace kW := gi.same _ _ kW
      replace kV := gi.same _ _ kV
      replace hPV := fun y h => (hPV y h).same gi.same
      replace kI := gi.same _ _ kI
      replace hPI := fun y h => (hPI y h).same gi.same
      replace du1 := dp_same gi.same _ _ du1
      replace du2 := dp_same gi.same _ _ du2
      replace du3 := dp_same gi.same _ _ du3
      replace du4 := dp_same gi.same _ _ du4
      replace du5 := dp_same gi.same _ _ du5
      replace du6 := dp_same gi.same _ _ du6
      replace ku7 := gi.same _ _ ku7
      have hpd := pick6 hng du1 du2 du3 du5 du6 hpk
      clear du1 du2 du3 du4 du5 du6 ku7 hpk
      refine ⟨(by show 1 ≤ sizeLine; decide), fun u8 hu8 => ?_⟩
      obtain ⟨gi, ku8⟩ := lst_raw [pk] g.rest hu8
      replace g := g.trans gi
      replace kW := gi.same _ _ kW
      replace kV := gi.same _ _ kV
      replace hPV := fun y h => (hPV y h).same gi.same
      replace kI := gi.same _ _ kI
      replace hPI := fun y h => (hPI y h).same gi.same
      replace hpd := hpd.same gi.same
      refine ⟨D3, u8, _, _, rfl, rfl, g.rest.1 _ _ kI, g.rest.1 _ _ ku8, Nat.le_of_lt (small1000 (by rw [List.length_singleton]; omega)), fun u9 hu9 => ?_⟩
      obtain ⟨inn, h_inn⟩ : ∃ x, ys3 ++ [pk] = x := ⟨_, rfl⟩
      rw [h_inn]
      obtain ⟨gi, kJ⟩ := lst_raw inn g.rest hu9
      replace g := g.trans gi
      replace kW := gi.same _ _ kW
      replace kV := gi.same _ _ kV
      replace hPV := fun y h => (hPV y h).same gi.same
      replace kI := gi.same _ _ kI
      replace hPI := fun y h => (hPI y h).same gi.same
      replace hpd := hpd.same gi.same
      replace ku8 := gi.same _ _ ku8
      have hPJ := mem_app (P := PD K 3 _) h_inn hPI (fun y h => List.mem_singleton.mp h ▸ hpd)
      have hJl : inn.length ≤ 10 := by rw [← h_inn, List.length_append, List.length_singleton]; omega
      clear kI hPI hpd ku8
      obtain ⟨es, hes, hesg⟩ := pd_all hPJ
      have hel := dpAll_len hes
      clear hPJ
      -- values + [ask ..]
      refine ⟨_, rfl, _, rfl, _, rfl, u9, inn, rfl, .inl ⟨.inl (.inl (g.rest.1 _ _ kJ)), fun u1 hu1 => ?_⟩⟩
      obtain ⟨gi, du1⟩ := tup_new (K := K) g.rest hu1 hes
      replace g := g.trans gi
      replace kW := gi.same _ _ kW
      replace kV := gi.same _ _ kV
      replace hPV := fun y h => (hPV y h).same gi.same
      replace kJ := gi.same _ _ kJ
      replace hes := dpAll_same gi.same _ _ hes
      refine ⟨(by show 3 ≤ sizeLine; decide), fun u2 hu2 => ?_⟩
      obtain ⟨gi, du2⟩ := tup_new (K := K) (vs := [.str "ask", .str (Txt.join (Str.ofString "") zs), .ref u1]) (ds := [.str "ask", .str (Txt.join (Str.ofString "") zs), .tuple es]) g.rest hu2 (.cons (.str _) (.cons (.str _) (.cons du1 .nil)))
      replace g := g.trans gi
      replace kW := gi.same _ _ kW
      replace kV := gi.same _ _ kV
      replace hPV := fun y h => (hPV y h).same gi.same
      replace kJ := gi.same _ _ kJ
      replace hes := dpAll_same gi.same _ _ hes
      replace du1 := dp_same gi.same _ _ du1
      refine ⟨_, rfl, _, rfl, _, rfl, _, rfl, u9, inn, rfl, .inl (.inl (g.rest.1 _ _ kJ)), fun u3 hu3 => ?_⟩
      obtain ⟨gi, ku3⟩ := lst_raw (cutV inn none (some (-1))) g.rest hu3
      replace g := g.trans gi
      replace kW := gi.same _ _ kW
      replace kV := gi.same _ _ kV
      replace hPV := fun y h => (hPV y h).same gi.same
      replace kJ := gi.same _ _ kJ
      replace hes := dpAll_same gi.same _ _ hes
      replace du1 := dp_same gi.same _ _ du1
      replace du2 := dp_same gi.same _ _ du2
      refine ⟨u3, _, rfl, .inl ⟨.inl (.inl (g.rest.1 _ _ ku3)), fun u4 hu4 => ?_⟩⟩
      obtain ⟨gi, du4⟩ := tup_new (K := K) g.rest hu4 (dpAll_cut hes none (some (-1)))
      replace g := g.trans gi
      replace kW := gi.same _ _ kW
      replace kV := gi.same _ _ kV
      replace hPV := fun y h => (hPV y h).same gi.same
      replace kJ := gi.same _ _ kJ
      replace hes := dpAll_same gi.same _ _ hes
      replace du1 := dp_same gi.same _ _ du1
      replace du2 := dp_same gi.same _ _ du2
      replace ku3 := gi.same _ _ ku3
      refine ⟨(by show 3 ≤ sizeLine; decide), fun u5 hu5 => ?_⟩
      obtain ⟨gi, du5⟩ := tup_new (K := K) (vs := [.str "ask", .str (Txt.join (Str.ofString "") zs), .ref u4]) (ds := [.str "ask", .str (Txt.join (Str.ofString "") zs), .tuple (cutG es none (some (-1)))]) g.rest hu5 (.cons (.str _) (.cons (.str _) (.cons du4 .nil)))
      replace g := g.trans gi
      replace kW := gi.same _ _ kW
      replace kV := gi.same _ _ kV
      replace hPV := fun y h => (hPV y h).same gi.same
      replace kJ := gi.same _ _ kJ
      replace hes := dpAll_same gi.same _ _ hes
      replace du1 := dp_same gi.same _ _ du1
      replace du2 := dp_same gi.same _ _ du2
      replace ku3 := gi.same _ _ ku3
      replace du4 := dp_same gi.same _ _ du4
      have dJ : Dp K _ (.ref u9) (.list es) := .lst (.inl (.inl kJ)) hes
      refine ⟨_, rfl, _, rfl, (by show 3 ≤ sizeLine; decide), fun u6 hu6 => ?_⟩
      obtain ⟨gi, du6⟩ := tup_new (K := K) (vs := [.str "ask", .str (Txt.join (Str.ofString "") zs), .ref u9]) (ds := [.str "ask", .str (Txt.join (Str.ofString "") zs), .list es]) g.rest hu6 (.cons (.str _) (.cons (.str _) (.cons dJ .nil)))
      replace g := g.trans gi
      replace kW := gi.same _ _ kW
      replace kV := gi.same _ _ kV
      replace hPV := fun y h => (hPV y h).same gi.same
      replace kJ := gi.same _ _ kJ
      replace hes := dpAll_same gi.same _ _ hes
      replace du1 := dp_same gi.same _ _ du1
      replace du2 := dp_same gi.same _ _ du2
      replace ku3 := gi.same _ _ ku3
      replace du4 := dp_same gi.same _ _ du4
      replace du5 := dp_same gi.same _ _ du5
      have three := asks3 hng (by omega) hesg du2 du5 du6
      clear du1 du2 ku3 du4 du5 du6 dJ
      refine ⟨(by show 3 ≤ sizeLine; decide), fun u7 hu7 => ?_⟩
      obtain ⟨gi, ku7⟩ := lst_raw [.ref u2, .ref u5, .ref u6] g.rest hu7
      replace g := g.trans gi
      replace kW := gi.same _ _ kW
      replace kV := gi.same _ _ kV
      replace hPV := fun y h => (hPV y h).same gi.same
      replace three := fun y h => (three y h).same gi.same
      refine ⟨v0, u7, _, _, rfl, rfl, g.rest.1 _ _ kV, g.rest.1 _ _ ku7, Nat.le_of_lt (small1000 (by rw [hVl]; show 49 ≤ 1000; decide)), fun v1 hv1 => ?_⟩
      obtain ⟨vals1, h_vals1⟩ : ∃ x, vals ++ [V.ref u2, V.ref u5, V.ref u6] = x := ⟨_, rfl⟩
      rw [h_vals1]
      obtain ⟨gi, kV1⟩ := lst_raw vals1 g.rest hv1
      replace g := g.trans gi
      replace kW := gi.same _ _ kW
      replace kV := gi.same _ _ kV
      replace hPV := fun y h => (hPV y h).same gi.same
      replace three := fun y h => (three y h).same gi.same
      replace ku7 := gi.same _ _ ku7
      have hP1 := mem_app h_vals1 hPV three
      have hl1 : vals1.length = 49 := by rw [← h_vals1, List.length_append, hVl]; rfl
      clear kV hPV three ku7
      -- values + [bent ..]
      refine ⟨_, rfl, _, rfl, v1, rfl, ⟨_, .inl (.inl (g.rest.1 _ _ kV1))⟩, fun D4 hD4 => ?_⟩
      refine lc_go (walk_list (xs := vals1)) (by omega) g.rest hD4 (fun R1 H1 g1 => .inl (.inl (g1.rest.1 _ _ (g1.same _ _ kV1)))) (PD K 60) (fun _ _ _ s h => h.same s) ?_ ?_
      · rintro j x R9 H9 H9' hj g3 ⟨rfl, hx⟩ C E hC
        obtain ⟨z, r, hx1, hx2, hx3, hx4⟩ := (hP1 x (List.mem_of_getElem? hx)).same g3.same
        exact ⟨rfl, yes_then ⟨_, rfl, _, rfl, p, R9, x, z, r, rfl, g3.rest, hx1, hx2, hx3, hx4, fun x' R' H' g4 hpd => hC _ _ _ g4 hpd⟩⟩
      intro R9 H9 ys4 gi kD4 hl4 hP4
      replace g := g.trans gi
      replace kW := gi.same _ _ kW
      replace kV1 := gi.same _ _ kV1
      replace hP1 := fun y h => (hP1 y h).same gi.same
      refine ⟨v1, D4, _, _, rfl, rfl, g.rest.1 _ _ kV1, g.rest.1 _ _ kD4, Nat.le_of_lt (small1000 (by omega)), fun v2 hv2 => ?_⟩
      obtain ⟨vals2, h_vals2⟩ : ∃ x, vals1 ++ ys4 = x := ⟨_, rfl⟩
      rw [h_vals2]
      obtain ⟨gi, kV2⟩ := lst_raw vals2 g.rest hv2
      replace g := g.trans gi
      replace kW := gi.same _ _ kW
      replace kV1 := gi.same _ _ kV1
      replace hP1 := fun y h => (hP1 y h).same gi.same
      replace kD4 := gi.same _ _ kD4
      replace hP4 := fun y h => (hP4 y h).same gi.same
      have hP2 := mem_app (P := PD K 60 _) h_vals2 (fun y h => (hP1 y h).pd) hP4
      clear kV1 hP1 kD4 hP4
      have sF := g.rest.1
      have eF := g.same _ _ e8
      have hF := s8.trans g.same
      -- all are right
      refine ⟨_, rfl, v2, rfl, ⟨_, .inl (.inl (sF _ _ kV2))⟩, fun D5 hD5 => ?_⟩
      refine lc_list (xs := vals2) (fun i H' => Same _ H' ∧ H' D5 = some (.lst [])) ⟨sF.trans (same_upd hD5), upd_same⟩ (fun i H' _ h => .inl (.inl (h.1 _ _ kV2))) ?_ ?_
      · rintro j x H10 hx ⟨s10, h10⟩
        obtain ⟨d, hd1, hd2⟩ := (hP2 x (List.mem_of_getElem? hx)).same s10
        refine ⟨rfl, _, rfl, x, d, rfl, .inl ⟨hd1, hd2⟩, fun H11 s11 => ⟨_, rfl, iteF ⟨s10.trans s11, s11 _ _ h10⟩⟩⟩
      rintro H10 ⟨s10, h10⟩
      refine ⟨Nat.zero_le _, fun u hu => ⟨_, _, .lst (xs := []) (.inl (.inl ((same_upd hu) _ _ h10))) .nil, .lst (xs := []) (.inl (.inl upd_same)) .nil, rfl, rfl, _, rfl, iteF ?_⟩⟩
      have s11 := s10.trans (same_upd (o := .lst []) hu)
      rw [← hcells]
      exact ⟨hF.trans s11, s11 _ _ eF, s11 _ _ kW, _, _, _, _, _, _, _, _, _, _, _, rfl⟩
    · rintro σ H1 ⟨s6, e6, k6, y2, y3, y4, y5, y6, y7, y8, y9, y10, y11, y12, rfl⟩
      clear s1 s2 s3 s4 s5 w1 w2' w3 w4 w5 ec0 el1 hr0 hp0 he0 hl1 hc0 sW eW hwd hw2 hwl
      refine ⟨Nat.zero_le _, fun l1 n1 => ⟨(by show 1 ≤ sizeLine; decide), fun l2 n2 => fun d3 n3 => ⟨Nat.zero_le _, fun t4 n4 => ⟨Nat.zero_le _, fun t5a n5 => ⟨(by show 1 ≤ sizeLine; decide), fun t5 n6 => ⟨(by show 1 ≤ sizeLine; decide), fun t6 n7 => ⟨(by show 1 ≤ sizeLine; decide), fun l7 n8 => ⟨(by show 1 ≤ sizeLine; decide), fun t7 n9 => ⟨(by show 2 ≤ sizeLine; decide), fun t8 n10 => ⟨(by show 12 ≤ sizeLine; decide), fun p9 n11 => ?_⟩⟩⟩⟩⟩⟩⟩⟩⟩⟩
      have k10 := same_upd (o := .lst [.non, .int 5, .bl true, .str "look", .ref l1, .ref l2, .ref d3, .ref t4, .ref t5, .ref t6, .ref t7, .ref t8]) n11
      have k9 := (same_upd (o := .tup [.int 5, .str "a"]) n10).trans k10
      have k8 := (same_upd (o := .tup [.ref l7]) n9).trans k9
      have k7 := (same_upd (o := .lst [.str "look"]) n8).trans k8
      have k6 := (same_upd (o := .tup [.non]) n7).trans k7
      have k5 := (same_upd (o := .tup [.ref t5a]) n6).trans k6
      have k4 := (same_upd (o := .tup []) n5).trans k5
      have k3 := (same_upd (o := .tup []) n4).trans k4
      have k2 := (same_upd (o := .dK []) n3).trans k3
      have k1 := (same_upd (o := .lst [.str "look"]) n2).trans k2
      have a1 := k1 l1 _ upd_same
      have a2 := k2 l2 _ upd_same
      have a3 := k3 d3 _ upd_same
      have a4 := k4 t4 _ upd_same
      have a5 := k5 t5a _ upd_same
      have a6 := k6 t5 _ upd_same
      have a7 := k7 t6 _ upd_same
      have a8 := k8 l7 _ upd_same
      have a9 := k9 t7 _ upd_same
      have a10 := k10 t8 _ upd_same
      refine ⟨_, rfl, ⟨_, .inl (.inl upd_same)⟩, ?_⟩
      refine for_list (xs := [.non, .int 5, .bl true, .str "look", .ref l1, .ref l2, .ref d3, .ref t4, .ref t5, .ref t6, .ref t7, .ref t8]) (fun i σ H' => Same _ H' ∧ ∃ y2 y3 y4 y5 y6 y7 y8 y9 y10 y11 y12 : Option V, σ = [some (.ref a), some (.ref wd), y2, y3, y4, y5, y6, y7, y8, y9, y10, y11, y12]) ⟨Same.refl _, _, _, _, _, _, _, _, _, _, _, _, rfl⟩ (fun i σ H' _ h => .inl (.inl (h.1 _ _ upd_same))) ?_ ?_
      · rintro j x σ H2 hx ⟨s2, y2, y3, y4, y5, y6, y7, y8, y9, y10, y11, y12, rfl⟩
        have hm := List.mem_of_getElem? hx
        simp only [List.mem_cons, List.not_mem_nil, or_false] at hm
        obtain ⟨d, hd⟩ : ∃ d, Val K H2 x d := by
          rcases hm with rfl | rfl | rfl | rfl | rfl | rfl | rfl | rfl | rfl | rfl | rfl | rfl
          · exact ⟨.none, .inl ⟨.non, by constructor <;> decide⟩⟩
          · exact ⟨.int 5, .inl ⟨.int 5, by constructor <;> decide⟩⟩
          · exact ⟨.bool true, .inl ⟨.bl true, by constructor <;> decide⟩⟩
          · exact ⟨.str "look", .inl ⟨.str "look", by constructor <;> decide +kernel⟩⟩
          · exact ⟨.list [], .inl ⟨.lst (.inl (.inl (s2 _ _ a1))) .nil, by constructor <;> decide⟩⟩
          · exact ⟨.list [.str "look"], .inl ⟨.lst (.inl (.inl (s2 _ _ a2))) (.cons (.str _) .nil), by constructor <;> decide +kernel⟩⟩
          · exact ⟨.dict [], .inr ⟨rfl, _, _, rfl, s2 _ _ a3⟩⟩
          · exact ⟨.tuple [], .inl ⟨.tup (.inl (.inl (s2 _ _ a4))) .nil, by constructor <;> decide⟩⟩
          · exact ⟨.tuple [.tuple []], .inl ⟨.tup (.inl (.inl (s2 _ _ a6))) (.cons (.tup (.inl (.inl (s2 _ _ a5))) .nil) .nil), by constructor <;> decide⟩⟩
          · exact ⟨.tuple [.none], .inl ⟨.tup (.inl (.inl (s2 _ _ a7))) (.cons .non .nil), by constructor <;> decide⟩⟩
          · exact ⟨.tuple [.list [.str "look"]], .inl ⟨.tup (.inl (.inl (s2 _ _ a9))) (.cons (.lst (.inl (.inl (s2 _ _ a8))) (.cons (.str _) .nil)) .nil), by constructor <;> decide +kernel⟩⟩
          · exact ⟨.tuple [.int 5, .str "a"], .inl ⟨.tup (.inl (.inl (s2 _ _ a10))) (.cons (.int 5) (.cons (.str _) .nil)), by constructor <;> decide +kernel⟩⟩
        exact ⟨_, rfl, x, d, rfl, hd, fun H3 s3 => ⟨_, rfl, iteF ⟨s2.trans s3, _, _, _, _, _, _, _, _, _, _, _, rfl⟩⟩⟩
      · rintro σ H2 ⟨s2, y2, y3, y4, y5, y6, y7, y8, y9, y10, y11, y12, rfl⟩
        exact q _
end
end K03

namespace K03
open PySem PySem.Spec PyProof.Rows L2 TL

theorem vals_abs : ∀ (us : List Value) (xs : List V), us.map absV = xs.map some → Vals xs us
  | [], [], _ => .nil
  | [], _ :: _, h => by cases h
  | _ :: _, [], h => by cases h
  | u :: us, x :: xs, h => by
    rw [List.map_cons, List.map_cons, List.cons.injEq] at h
    refine .cons ?_ (vals_abs us xs h.2)
    have h1 := h.1
    cases u <;> simp only [absV] at h1 <;> cases h1 <;> first | rfl | exact ⟨_, rfl⟩
theorem tup_of {K : PySem.W.Frag} {a : Addr} {od : Option Addr} {its : Array Value} {n : Nat} {sl : Array (Option Value)} {ws : List Str} (h : K.lookup a = some ⟨.type "tuple", od, .seq its n, sl⟩) (hv : its.toList.map absV = (ws.map V.str).map some) (hl : ws.length ≤ 1000) : ∀ H, SqT K H a (ws.map V.str) := fun H => by
  have r := vals_abs its.toList _ hv
  refine .inr ⟨_, its, n, h, rfl, rfl, ?_, r⟩
  have e := r.length
  simp only [List.length_map, Array.length_toList] at e
  exact Nat.le_of_lt (small1000 (by rw [← e]; exact hl))
theorem all_mk {l : PySem.W.OpenLaw} {w : World} {K : PySem.W.Frag} {h : Heap} {mg : Str → Option Value} {fa f1 f2 f3 f4 f5 f6 f7 f8 f9 f10 f11 f12 f13 f14 f15 f16 f17 f18 f19 f20 f21 f22 : Addr} {lt0 lt1 : Tok} {t0 t1 t2 t3 t4 t5 t6 t7 : Addr} (X : K.In h) (G : h.Ns mainGlobals mg) (hfa : mg "law" = some (.ref fa))
    {od1 an1 od2 an2 od3 an3 od4 an4 od5 an5 od6 an6 od7 an7 od8 an8 od9 an9 od10 an10 od11 an11 od12 an12 od13 an13 od14 an14 od15 an15 od16 an16 od17 an17 od18 an18 od19 an19 od20 an20 od21 an21 od22 an22 : Option Addr} {sl1 sl2 sl3 sl4 sl5 sl6 sl7 sl8 sl9 sl10 sl11 sl12 sl13 sl14 sl15 sl16 sl17 sl18 sl19 sl20 sl21 sl22 : Array (Option Value)} {oc1 kV1 dc1 pm1 cd1 ct1 oc2 kV2 dc2 pm2 cd2 ct2 oc3 kV3 dc3 pm3 cd3 ct3 oc4 kV4 dc4 pm4 cd4 ct4 oc5 kV5 dc5 pm5 cd5 ct5 oc6 kV6 dc6 pm6 cd6 ct6 oc7 kV7 dc7 pm7 cd7 ct7 oc8 kV8 dc8 pm8 cd8 ct8 oc9 kV9 dc9 pm9 cd9 ct9 oc10 kV10 dc10 pm10 cd10 ct10 oc11 kV11 dc11 pm11 cd11 ct11 oc12 kV12 dc12 pm12 cd12 ct12 oc13 kV13 dc13 pm13 cd13 ct13 oc14 kV14 dc14 pm14 cd14 ct14 oc15 kV15 dc15 pm15 cd15 ct15 oc16 kV16 dc16 pm16 cd16 ct16 oc17 kV17 dc17 pm17 cd17 ct17 oc18 kV18 dc18 pm18 cd18 ct18 oc19 kV19 dc19 pm19 cd19 ct19 oc20 kV20 dc20 pm20 cd20 ct20 oc21 kV21 dc21 pm21 cd21 ct21 oc22 kV22 dc22 pm22 cd22 ct22 : Value}
    {to0 to1 to2 to3 to4 to5 to6 to7 : Option Addr} {ti0 ti1 ti2 ti3 ti4 ti5 ti6 ti7 : Array Value} {tn0 tn1 tn2 tn3 tn4 tn5 tn6 tn7 : Nat} {ts0 ts1 ts2 ts3 ts4 ts5 ts6 ts7 : Array (Option Value)}
    (a1 : PySem.W.nsIn K mainGlobals "_is_word" = some (some (.ref f1))) (l1 : K.lookup f1 = some ⟨oc1, od1, .func (PySem.W.fnOf "_is_word" "_is_word" (defArgs sWord) (defBody sWord) (defScope sWord) .none kV1 dc1 pm1 an1 cd1 ct1), sl1⟩) (c1 : PySem.W.codeIn K cd1 "_is_word" = true) (k1 : PySem.W.keepIn K (.ref f1) = true)
    (a2 : PySem.W.nsIn K mainGlobals "is_name" = some (some (.ref f2))) (l2 : K.lookup f2 = some ⟨oc2, od2, .func (PySem.W.fnOf "is_name" "is_name" (defArgs sIsName) (defBody sIsName) (defScope sIsName) .none kV2 dc2 pm2 an2 cd2 ct2), sl2⟩) (c2 : PySem.W.codeIn K cd2 "is_name" = true) (k2 : PySem.W.keepIn K (.ref f2) = true)
    (a3 : PySem.W.nsIn K mainGlobals "_is_bare" = some (some (.ref f3))) (l3 : K.lookup f3 = some ⟨oc3, od3, .func (PySem.W.fnOf "_is_bare" "_is_bare" (defArgs sBare) (defBody sBare) (defScope sBare) .none kV3 dc3 pm3 an3 cd3 ct3), sl3⟩) (c3 : PySem.W.codeIn K cd3 "_is_bare" = true) (k3 : PySem.W.keepIn K (.ref f3) = true)
    (a4 : PySem.W.nsIn K mainGlobals "_is_named" = some (some (.ref f4))) (l4 : K.lookup f4 = some ⟨oc4, od4, .func (PySem.W.fnOf "_is_named" "_is_named" (defArgs sNamed) (defBody sNamed) (defScope sNamed) .none kV4 dc4 pm4 an4 cd4 ct4), sl4⟩) (c4 : PySem.W.codeIn K cd4 "_is_named" = true) (k4 : PySem.W.keepIn K (.ref f4) = true)
    (a5 : PySem.W.nsIn K mainGlobals "is_way_item" = some (some (.ref f5))) (l5 : K.lookup f5 = some ⟨oc5, od5, .func (PySem.W.fnOf "is_way_item" "is_way_item" (defArgs sWayItem) (defBody sWayItem) (defScope sWayItem) .none kV5 dc5 pm5 an5 cd5 ct5), sl5⟩) (c5 : PySem.W.codeIn K cd5 "is_way_item" = true) (k5 : PySem.W.keepIn K (.ref f5) = true)
    (a6 : PySem.W.nsIn K mainGlobals "is_ask_head" = some (some (.ref f6))) (l6 : K.lookup f6 = some ⟨oc6, od6, .func (PySem.W.fnOf "is_ask_head" "is_ask_head" (defArgs sHead) (defBody sHead) (defScope sHead) .none kV6 dc6 pm6 an6 cd6 ct6), sl6⟩) (c6 : PySem.W.codeIn K cd6 "is_ask_head" = true) (k6 : PySem.W.keepIn K (.ref f6) = true)
    (a7 : PySem.W.nsIn K mainGlobals "_is_ask" = some (some (.ref f7))) (l7 : K.lookup f7 = some ⟨oc7, od7, .func (PySem.W.fnOf "_is_ask" "_is_ask" (defArgs sAsk) (defBody sAsk) (defScope sAsk) .none kV7 dc7 pm7 an7 cd7 ct7), sl7⟩) (c7 : PySem.W.codeIn K cd7 "_is_ask" = true) (k7 : PySem.W.keepIn K (.ref f7) = true)
    (a8 : PySem.W.nsIn K mainGlobals "is_item" = some (some (.ref f8))) (l8 : K.lookup f8 = some ⟨oc8, od8, .func (PySem.W.fnOf "is_item" "is_item" (defArgs sIsItem) (defBody sIsItem) (defScope sIsItem) .none kV8 dc8 pm8 an8 cd8 ct8), sl8⟩) (c8 : PySem.W.codeIn K cd8 "is_item" = true) (k8 : PySem.W.keepIn K (.ref f8) = true)
    (a9 : PySem.W.nsIn K mainGlobals "is_step" = some (some (.ref f9))) (l9 : K.lookup f9 = some ⟨oc9, od9, .func (PySem.W.fnOf "is_step" "is_step" (defArgs sIsStep) (defBody sIsStep) (defScope sIsStep) .none kV9 dc9 pm9 an9 cd9 ct9), sl9⟩) (c9 : PySem.W.codeIn K cd9 "is_step" = true) (k9 : PySem.W.keepIn K (.ref f9) = true)
    (a10 : PySem.W.nsIn K mainGlobals "is_use" = some (some (.ref f10))) (l10 : K.lookup f10 = some ⟨oc10, od10, .func (PySem.W.fnOf "is_use" "is_use" (defArgs sIsUse) (defBody sIsUse) (defScope sIsUse) .none kV10 dc10 pm10 an10 cd10 ct10), sl10⟩) (c10 : PySem.W.codeIn K cd10 "is_use" = true) (k10 : PySem.W.keepIn K (.ref f10) = true)
    (a11 : PySem.W.nsIn K mainGlobals "_law_is_name" = some (some (.ref f11))) (l11 : K.lookup f11 = some ⟨oc11, od11, .func (PySem.W.fnOf "_law_is_name" "_law_is_name" (defArgs slName) (defBody slName) (defScope slName) .none kV11 dc11 pm11 an11 cd11 ct11), sl11⟩) (c11 : PySem.W.codeIn K cd11 "_law_is_name" = true) (k11 : PySem.W.keepIn K (.ref f11) = true)
    (a12 : PySem.W.nsIn K mainGlobals "_law_is_inner" = some (some (.ref f12))) (l12 : K.lookup f12 = some ⟨oc12, od12, .func (PySem.W.fnOf "_law_is_inner" "_law_is_inner" (defArgs slInner) (defBody slInner) (defScope slInner) .none kV12 dc12 pm12 an12 cd12 ct12), sl12⟩) (c12 : PySem.W.codeIn K cd12 "_law_is_inner" = true) (k12 : PySem.W.keepIn K (.ref f12) = true)
    (a13 : PySem.W.nsIn K mainGlobals "_law_is_item" = some (some (.ref f13))) (l13 : K.lookup f13 = some ⟨oc13, od13, .func (PySem.W.fnOf "_law_is_item" "_law_is_item" (defArgs slItem) (defBody slItem) (defScope slItem) .none kV13 dc13 pm13 an13 cd13 ct13), sl13⟩) (c13 : PySem.W.codeIn K cd13 "_law_is_item" = true) (k13 : PySem.W.keepIn K (.ref f13) = true)
    (a14 : PySem.W.nsIn K mainGlobals "_law_is_step" = some (some (.ref f14))) (l14 : K.lookup f14 = some ⟨oc14, od14, .func (PySem.W.fnOf "_law_is_step" "_law_is_step" (defArgs slStep) (defBody slStep) (defScope slStep) .none kV14 dc14 pm14 an14 cd14 ct14), sl14⟩) (c14 : PySem.W.codeIn K cd14 "_law_is_step" = true) (k14 : PySem.W.keepIn K (.ref f14) = true)
    (a15 : PySem.W.nsIn K mainGlobals "_law_is_used" = some (some (.ref f15))) (l15 : K.lookup f15 = some ⟨oc15, od15, .func (PySem.W.fnOf "_law_is_used" "_law_is_used" (defArgs slUsed) (defBody slUsed) (defScope slUsed) .none kV15 dc15 pm15 an15 cd15 ct15), sl15⟩) (c15 : PySem.W.codeIn K cd15 "_law_is_used" = true) (k15 : PySem.W.keepIn K (.ref f15) = true)
    (a16 : PySem.W.nsIn K mainGlobals "_law_right" = some (some (.ref f16))) (l16 : K.lookup f16 = some ⟨oc16, od16, .func (PySem.W.fnOf "_law_right" "_law_right" (defArgs slRight) (defBody slRight) (defScope slRight) .none kV16 dc16 pm16 an16 cd16 ct16), sl16⟩) (c16 : PySem.W.codeIn K cd16 "_law_right" = true) (k16 : PySem.W.keepIn K (.ref f16) = true)
    (a17 : PySem.W.nsIn K mainGlobals "_law_numbers" = some (some (.ref f17))) (l17 : K.lookup f17 = some ⟨oc17, od17, .func (PySem.W.fnOf "_law_numbers" "_law_numbers" (defArgs sNum) (defBody sNum) (defScope sNum) .none kV17 dc17 pm17 an17 cd17 ct17), sl17⟩) (c17 : PySem.W.codeIn K cd17 "_law_numbers" = true) (k17 : PySem.W.keepIn K (.ref f17) = true)
    (a18 : PySem.W.nsIn K mainGlobals "_law_draw" = some (some (.ref f18))) (l18 : K.lookup f18 = some ⟨oc18, od18, .func (PySem.W.fnOf "_law_draw" "_law_draw" (defArgs sDraw) (defBody sDraw) (defScope sDraw) .none kV18 dc18 pm18 an18 cd18 ct18), sl18⟩) (c18 : PySem.W.codeIn K cd18 "_law_draw" = true) (k18 : PySem.W.keepIn K (.ref f18) = true)
    (a19 : PySem.W.nsIn K mainGlobals "_law_pool" = some (some (.ref f19))) (l19 : K.lookup f19 = some ⟨oc19, od19, .func (PySem.W.fnOf "_law_pool" "_law_pool" (defArgs sPool) (defBody sPool) (defScope sPool) .none kV19 dc19 pm19 an19 cd19 ct19), sl19⟩) (c19 : PySem.W.codeIn K cd19 "_law_pool" = true) (k19 : PySem.W.keepIn K (.ref f19) = true)
    (a20 : PySem.W.nsIn K mainGlobals "_law_pick" = some (some (.ref f20))) (l20 : K.lookup f20 = some ⟨oc20, od20, .func (PySem.W.fnOf "_law_pick" "_law_pick" (defArgs sPick) (defBody sPick) (defScope sPick) .none kV20 dc20 pm20 an20 cd20 ct20), sl20⟩) (c20 : PySem.W.codeIn K cd20 "_law_pick" = true) (k20 : PySem.W.keepIn K (.ref f20) = true)
    (a21 : PySem.W.nsIn K mainGlobals "_law_bent" = some (some (.ref f21))) (l21 : K.lookup f21 = some ⟨oc21, od21, .func (PySem.W.fnOf "_law_bent" "_law_bent" (defArgs slBent) (defBody slBent) (defScope slBent) .none kV21 dc21 pm21 an21 cd21 ct21), sl21⟩) (c21 : PySem.W.codeIn K cd21 "_law_bent" = true) (k21 : PySem.W.keepIn K (.ref f21) = true)
    (a22 : PySem.W.nsIn K mainGlobals "law" = some (some (.ref f22))) (l22 : K.lookup f22 = some ⟨oc22, od22, .func (PySem.W.fnOf "law" "law" (defArgs sLaw) (defBody sLaw) (defScope sLaw) .none kV22 dc22 pm22 an22 cd22 ct22), sl22⟩) (c22 : PySem.W.codeIn K cd22 "law" = true) (k22 : PySem.W.keepIn K (.ref f22) = true)
    (z_max : PySem.W.nsIn K mainGlobals "max" = some none)
    (z_range : PySem.W.nsIn K mainGlobals "range" = some none)
    (z_len : PySem.W.nsIn K mainGlobals "len" = some none)
    (z_isinstance : PySem.W.nsIn K mainGlobals "isinstance" = some none)
    (z_str : PySem.W.nsIn K mainGlobals "str" = some none)
    (z_int : PySem.W.nsIn K mainGlobals "int" = some none)
    (z_all : PySem.W.nsIn K mainGlobals "all" = some none)
    (z_tuple : PySem.W.nsIn K mainGlobals "tuple" = some none)
    (z_list : PySem.W.nsIn K mainGlobals "list" = some none)
    (z_enumerate : PySem.W.nsIn K mainGlobals "enumerate" = some none)
    (y_0 : PySem.W.nsIn K mainGlobals "_LONGEST_NAME" = some (some (.int 8 lt0)))
    (y_1 : PySem.W.nsIn K mainGlobals "_MOST_IN_WAY_OUT" = some (some (.int 4 lt1)))
    (y_2 : PySem.W.nsIn K mainGlobals "_OPENERS" = some (some (.ref t0)))
    (y_3 : PySem.W.nsIn K mainGlobals "_BARE_ITEMS" = some (some (.ref t1)))
    (y_4 : PySem.W.nsIn K mainGlobals "_NAMED_ITEMS" = some (some (.ref t2)))
    (y_5 : PySem.W.nsIn K mainGlobals "_ASKS" = some (some (.ref t3)))
    (y_6 : PySem.W.nsIn K mainGlobals "_BARE_STEPS" = some (some (.ref t4)))
    (y_7 : PySem.W.nsIn K mainGlobals "_NAMED_STEPS" = some (some (.ref t5)))
    (y_8 : PySem.W.nsIn K mainGlobals "_USING_ITEMS" = some (some (.ref t6)))
    (y_9 : PySem.W.nsIn K mainGlobals "_USING_STEPS" = some (some (.ref t7)))
    (x_0 : K.lookup t0 = some ⟨.type "tuple", to0, .seq ti0 tn0, ts0⟩) (v_0 : ti0.toList.map absV = (wOpen.map V.str).map some)
    (x_1 : K.lookup t1 = some ⟨.type "tuple", to1, .seq ti1 tn1, ts1⟩) (v_1 : ti1.toList.map absV = (wBare.map V.str).map some)
    (x_2 : K.lookup t2 = some ⟨.type "tuple", to2, .seq ti2 tn2, ts2⟩) (v_2 : ti2.toList.map absV = (wNamed.map V.str).map some)
    (x_3 : K.lookup t3 = some ⟨.type "tuple", to3, .seq ti3 tn3, ts3⟩) (v_3 : ti3.toList.map absV = (wAsk.map V.str).map some)
    (x_4 : K.lookup t4 = some ⟨.type "tuple", to4, .seq ti4 tn4, ts4⟩) (v_4 : ti4.toList.map absV = (wSteps.map V.str).map some)
    (x_5 : K.lookup t5 = some ⟨.type "tuple", to5, .seq ti5 tn5, ts5⟩) (v_5 : ti5.toList.map absV = (wNSteps.map V.str).map some)
    (x_6 : K.lookup t6 = some ⟨.type "tuple", to6, .seq ti6 tn6, ts6⟩) (v_6 : ti6.toList.map absV = (wUItems.map V.str).map some)
    (x_7 : K.lookup t7 = some ⟨.type "tuple", to7, .seq ti7 tn7, ts7⟩) (v_7 : ti7.toList.map absV = (wUSteps.map V.str).map some)
    : ∃ fd : FuncData, (∀ (s : Shared) (v : Value), BindsTo s fd ⟨[v], []⟩ [("_law_script", v)]) ∧ ∀ base : Heap, K.In base → base.Ns mainGlobals mg → FnOk l.prog w K mg base CX0 9 fa fd ["_law_script"] (spLaw K) := by
  have e := hfa.symm.trans (PySem.W.mg_of X G a22)
  cases e
  have T : Txt K mg lt0 lt1 t0 t1 t2 t3 t4 t5 t6 t7 := { m_max := PySem.W.mg_none_of X G z_max, m_range := PySem.W.mg_none_of X G z_range, m_len := PySem.W.mg_none_of X G z_len, m_isinstance := PySem.W.mg_none_of X G z_isinstance, m_str := PySem.W.mg_none_of X G z_str, m_int := PySem.W.mg_none_of X G z_int, m_all := PySem.W.mg_none_of X G z_all, m_tuple := PySem.W.mg_none_of X G z_tuple, m_list := PySem.W.mg_none_of X G z_list, m_enumerate := PySem.W.mg_none_of X G z_enumerate, c_LONGEST_NAME := PySem.W.mg_of X G y_0, c_MOST_IN_WAY_OUT := PySem.W.mg_of X G y_1, c_OPENERS := PySem.W.mg_of X G y_2, c_BARE_ITEMS := PySem.W.mg_of X G y_3, c_NAMED_ITEMS := PySem.W.mg_of X G y_4, c_ASKS := PySem.W.mg_of X G y_5, c_BARE_STEPS := PySem.W.mg_of X G y_6, c_NAMED_STEPS := PySem.W.mg_of X G y_7, c_USING_ITEMS := PySem.W.mg_of X G y_8, c_USING_STEPS := PySem.W.mg_of X G y_9, w0 := tup_of x_0 v_0 (by decide), w1 := tup_of x_1 v_1 (by decide), w2 := tup_of x_2 v_2 (by decide), w3 := tup_of x_3 v_3 (by decide), w4 := tup_of x_4 v_4 (by decide), w5 := tup_of x_5 v_5 (by decide), w6 := tup_of x_6 v_6 (by decide), w7 := tup_of x_7 v_7 (by decide) }
  have F_is_word := fun_mk (st := sWord) l1 c1 k1
  have b_is_word := F_is_word.binds (ps := ["value", "words"]) fun _ _ _ _ _ _ us hl => match us, hl with | [_, _], _ => rfl
  have g_is_word := PySem.W.mg_of X G a1
  have F_is_name := fun_mk (st := sIsName) l2 c2 k2
  have b_is_name := F_is_name.binds (ps := ["value"]) fun _ _ _ _ _ _ us hl => match us, hl with | [_], _ => rfl
  have g_is_name := PySem.W.mg_of X G a2
  have F_is_bare := fun_mk (st := sBare) l3 c3 k3
  have b_is_bare := F_is_bare.binds (ps := ["value", "words"]) fun _ _ _ _ _ _ us hl => match us, hl with | [_, _], _ => rfl
  have g_is_bare := PySem.W.mg_of X G a3
  have F_is_named := fun_mk (st := sNamed) l4 c4 k4
  have b_is_named := F_is_named.binds (ps := ["value", "words"]) fun _ _ _ _ _ _ us hl => match us, hl with | [_, _], _ => rfl
  have g_is_named := PySem.W.mg_of X G a4
  have F_is_way_item := fun_mk (st := sWayItem) l5 c5 k5
  have b_is_way_item := F_is_way_item.binds (ps := ["value"]) fun _ _ _ _ _ _ us hl => match us, hl with | [_], _ => rfl
  have g_is_way_item := PySem.W.mg_of X G a5
  have F_is_ask_head := fun_mk (st := sHead) l6 c6 k6
  have b_is_ask_head := F_is_ask_head.binds (ps := ["value"]) fun _ _ _ _ _ _ us hl => match us, hl with | [_], _ => rfl
  have g_is_ask_head := PySem.W.mg_of X G a6
  have F_is_ask := fun_mk (st := sAsk) l7 c7 k7
  have b_is_ask := F_is_ask.binds (ps := ["value"]) fun _ _ _ _ _ _ us hl => match us, hl with | [_], _ => rfl
  have g_is_ask := PySem.W.mg_of X G a7
  have F_is_item := fun_mk (st := sIsItem) l8 c8 k8
  have b_is_item := F_is_item.binds (ps := ["value"]) fun _ _ _ _ _ _ us hl => match us, hl with | [_], _ => rfl
  have g_is_item := PySem.W.mg_of X G a8
  have F_is_step := fun_mk (st := sIsStep) l9 c9 k9
  have b_is_step := F_is_step.binds (ps := ["value"]) fun _ _ _ _ _ _ us hl => match us, hl with | [_], _ => rfl
  have g_is_step := PySem.W.mg_of X G a9
  have F_is_use := fun_mk (st := sIsUse) l10 c10 k10
  have b_is_use := F_is_use.binds (ps := ["value"]) fun _ _ _ _ _ _ us hl => match us, hl with | [_], _ => rfl
  have g_is_use := PySem.W.mg_of X G a10
  have F_l_is_name := fun_mk (st := slName) l11 c11 k11
  have b_l_is_name := F_l_is_name.binds (ps := ["_law_value"]) fun _ _ _ _ _ _ us hl => match us, hl with | [_], _ => rfl
  have g_l_is_name := PySem.W.mg_of X G a11
  have F_l_is_inner := fun_mk (st := slInner) l12 c12 k12
  have b_l_is_inner := F_l_is_inner.binds (ps := ["_law_value"]) fun _ _ _ _ _ _ us hl => match us, hl with | [_], _ => rfl
  have g_l_is_inner := PySem.W.mg_of X G a12
  have F_l_is_item := fun_mk (st := slItem) l13 c13 k13
  have b_l_is_item := F_l_is_item.binds (ps := ["_law_value"]) fun _ _ _ _ _ _ us hl => match us, hl with | [_], _ => rfl
  have g_l_is_item := PySem.W.mg_of X G a13
  have F_l_is_step := fun_mk (st := slStep) l14 c14 k14
  have b_l_is_step := F_l_is_step.binds (ps := ["_law_value"]) fun _ _ _ _ _ _ us hl => match us, hl with | [_], _ => rfl
  have g_l_is_step := PySem.W.mg_of X G a14
  have F_l_is_used := fun_mk (st := slUsed) l15 c15 k15
  have b_l_is_used := F_l_is_used.binds (ps := ["_law_value"]) fun _ _ _ _ _ _ us hl => match us, hl with | [_], _ => rfl
  have g_l_is_used := PySem.W.mg_of X G a15
  have F_l_right := fun_mk (st := slRight) l16 c16 k16
  have b_l_right := F_l_right.binds (ps := ["_law_value"]) fun _ _ _ _ _ _ us hl => match us, hl with | [_], _ => rfl
  have g_l_right := PySem.W.mg_of X G a16
  have F_l_numbers := fun_mk (st := sNum) l17 c17 k17
  have b_l_numbers := F_l_numbers.binds (ps := ["_law_cell", "_law_salt", "_law_sizes"]) fun _ _ _ _ _ _ us hl => match us, hl with | [_, _, _], _ => rfl
  have g_l_numbers := PySem.W.mg_of X G a17
  have F_l_draw := fun_mk (st := sDraw) l18 c18 k18
  have b_l_draw := F_l_draw.binds (ps := ["_law_pool_here", "_law_many"]) fun _ _ _ _ _ _ us hl => match us, hl with | [_, _], _ => rfl
  have g_l_draw := PySem.W.mg_of X G a18
  have F_l_pool := fun_mk (st := sPool) l19 c19 k19
  have b_l_pool := F_l_pool.binds (ps := ["_law_cell", "_law_salt", "_law_many"]) fun _ _ _ _ _ _ us hl => match us, hl with | [_, _, _], _ => rfl
  have g_l_pool := PySem.W.mg_of X G a19
  have F_l_pick := fun_mk (st := sPick) l20 c20 k20
  have b_l_pick := F_l_pick.binds (ps := ["_law_pool_here", "_law_some"]) fun _ _ _ _ _ _ us hl => match us, hl with | [_, _], _ => rfl
  have g_l_pick := PySem.W.mg_of X G a20
  have F_l_bent := fun_mk (st := slBent) l21 c21 k21
  have b_l_bent := F_l_bent.binds (ps := ["_law_pool_here", "_law_value"]) fun _ _ _ _ _ _ us hl => match us, hl with | [_, _], _ => rfl
  have g_l_bent := PySem.W.mg_of X G a21
  refine ⟨PySem.W.fnOf "law" "law" (defArgs sLaw) (defBody sLaw) (defScope sLaw) .none kV22 dc22 pm22 an22 cd22 ct22, fun s v => .of_eq rfl, fun base _ _ => ?_⟩
  have G_is_word : FnOk l.prog w K mg base CX0 1 f1 _ ["value", "words"] (spChkW K isWordP) := ok_is_word F_is_word T 
  have G_is_name : FnOk l.prog w K mg base CX0 1 f2 _ ["value"] (spChk K isNameP) := ok_is_name F_is_name T 
  have G_is_bare : FnOk l.prog w K mg base CX0 2 f3 _ ["value", "words"] (spChkW K isBareP) := ok_is_bare F_is_bare T F_is_word b_is_word g_is_word G_is_word
  have G_is_named : FnOk l.prog w K mg base CX0 2 f4 _ ["value", "words"] (spChkW K isNamedP) := ok_is_named F_is_named T F_is_word b_is_word g_is_word G_is_word F_is_name b_is_name g_is_name G_is_name
  have G_is_way_item : FnOk l.prog w K mg base CX0 3 f5 _ ["value"] (spChk K isWayItemP) := ok_is_way_item F_is_way_item T F_is_bare b_is_bare g_is_bare G_is_bare F_is_named b_is_named g_is_named G_is_named
  have G_is_ask_head : FnOk l.prog w K mg base CX0 2 f6 _ ["value"] (spChk K isHeadP) := ok_is_ask_head F_is_ask_head T F_is_word b_is_word g_is_word G_is_word F_is_name b_is_name g_is_name G_is_name
  have G_is_ask : FnOk l.prog w K mg base CX0 5 f7 _ ["value"] (spChk K isAskP) := ok_is_ask F_is_ask T F_is_ask_head b_is_ask_head g_is_ask_head G_is_ask_head F_is_way_item b_is_way_item g_is_way_item G_is_way_item
  have G_is_item : FnOk l.prog w K mg base CX0 6 f8 _ ["value"] (spChk K isItemP) := ok_is_item F_is_item T F_is_bare b_is_bare g_is_bare G_is_bare F_is_way_item b_is_way_item g_is_way_item G_is_way_item F_is_ask b_is_ask g_is_ask G_is_ask
  have G_is_step : FnOk l.prog w K mg base CX0 3 f9 _ ["value"] (spChk K isStepP) := ok_is_step F_is_step T F_is_bare b_is_bare g_is_bare G_is_bare F_is_named b_is_named g_is_named G_is_named
  have G_is_use : FnOk l.prog w K mg base CX0 7 f10 _ ["value"] (spChk K isUseP) := ok_is_use F_is_use T F_is_item b_is_item g_is_item G_is_item F_is_step b_is_step g_is_step G_is_step
  have G_l_is_name : FnOk l.prog w K mg base CX0 1 f11 _ ["_law_value"] (spChk K isNameP) := ok_l_is_name F_l_is_name T 
  have G_l_is_inner : FnOk l.prog w K mg base CX0 2 f12 _ ["_law_value"] (spChk K isWayItemP) := ok_l_is_inner F_l_is_inner T F_l_is_name b_l_is_name g_l_is_name G_l_is_name
  have G_l_is_item : FnOk l.prog w K mg base CX0 3 f13 _ ["_law_value"] (spChk K isItemP) := ok_l_is_item F_l_is_item T F_l_is_inner b_l_is_inner g_l_is_inner G_l_is_inner F_l_is_name b_l_is_name g_l_is_name G_l_is_name
  have G_l_is_step : FnOk l.prog w K mg base CX0 2 f14 _ ["_law_value"] (spChk K isStepP) := ok_l_is_step F_l_is_step T F_l_is_name b_l_is_name g_l_is_name G_l_is_name
  have G_l_is_used : FnOk l.prog w K mg base CX0 4 f15 _ ["_law_value"] (spChk K isUseP) := ok_l_is_used F_l_is_used T F_l_is_item b_l_is_item g_l_is_item G_l_is_item F_l_is_step b_l_is_step g_l_is_step G_l_is_step
  have G_l_right : FnOk l.prog w K mg base CX0 8 f16 _ ["_law_value"] (spRight K) := ok_l_right F_l_right T F_is_item b_is_item g_is_item G_is_item F_l_is_item b_l_is_item g_l_is_item G_l_is_item F_is_step b_is_step g_is_step G_is_step F_l_is_step b_l_is_step g_l_is_step G_l_is_step F_is_use b_is_use g_is_use G_is_use F_l_is_used b_l_is_used g_l_is_used G_l_is_used
  have G_l_numbers : FnOk l.prog w K mg base CX0 1 f17 _ ["_law_cell", "_law_salt", "_law_sizes"] (spNum K) := ok_num F_l_numbers T.m_max T.m_range T.m_len
  have G_l_draw : FnOk l.prog w K mg base CX0 1 f18 _ ["_law_pool_here", "_law_many"] (spDraw K) := ok_l_draw F_l_draw T 
  have G_l_pool : FnOk l.prog w K mg base CX0 2 f19 _ ["_law_cell", "_law_salt", "_law_many"] (spPool K) := ok_l_pool F_l_pool T F_l_numbers b_l_numbers g_l_numbers G_l_numbers
  have G_l_pick : FnOk l.prog w K mg base CX0 2 f20 _ ["_law_pool_here", "_law_some"] (spPick K) := ok_l_pick F_l_pick T F_l_draw b_l_draw g_l_draw G_l_draw
  have G_l_bent : FnOk l.prog w K mg base CX0 2 f21 _ ["_law_pool_here", "_law_value"] (spBent K) := ok_l_bent F_l_bent T F_l_draw b_l_draw g_l_draw G_l_draw
  exact ok_l_law (fun_mk (st := sLaw) l22 c22 k22) T F_l_pool b_l_pool g_l_pool G_l_pool F_l_draw b_l_draw g_l_draw G_l_draw F_l_pick b_l_pick g_l_pick G_l_pick F_l_bent b_l_bent g_l_bent G_l_bent F_l_right b_l_right g_l_right G_l_right
theorem walk {l : PySem.W.OpenLaw} {q : Program} {loose : List Str} {XP : (Str → Option Value) → Heap → Prop} {YP : World → Heap → Prop} {d : DefRec} {K : Params → PySem.W.Frag} (hn : l.most = some 63) (hdf : d.params.defaults = [])
    (hY : ∀ (w : World) (h : Heap), YP w h → (K w.params).In h)
    (F : ∀ (w : World) (mg : Str → Option Value) (fa : Addr) (h : Heap), (K w.params).In h → h.Ns mainGlobals mg → mg d.name = some (.ref fa) →
      ∃ fd : FuncData, (∀ (s : Shared) (u : Value), BindsTo s fd ⟨[u], []⟩ [("_law_script", u)]) ∧ ∀ base : Heap, (K w.params).In base → base.Ns mainGlobals mg → FnOk l.prog w (K w.params) mg base CX0 9 fa fd ["_law_script"] (spLaw (K w.params))) :
    PySem.W.WalkO q loose XP YP l.row.toRowW d [] (fun f vs => PySem.call f vs) :=
  L2.walk_of (n := 63) (k := 9) (x := "_law_script") (CX := fun _ => CX0) (sp := fun w => spLaw (K w.params)) hn (by decide) hdf ⟨rfl, by decide, by decide⟩ hY F (fun _ _ a ns hl _ hS => ⟨a, ns, rfl, hS, hl, fun _ => rfl⟩) fun _ _ _ _ _ z => z
end K03

open PySem PySem.W PyProof.Rows in
set_option maxRecDepth 100000 in
set_option maxHeartbeats 0 in
theorem PySem.Challenge.cw_pulledout_k03_items_and_steps_holds : PySem.Challenge.rw_pulledout_k03_items_and_steps.Holds := by
  w_on; o_law; k_head; (case hw => w_witness2)
  k_fill
  refine K03.walk (l := PySem.Challenge.rw_pulledout_k03_items_and_steps) rfl rfl (fun w h Y => PySem.W.kIn_of Y) ?F
  case F =>
    intro w mg fa h KX G hmg
    refine' K03.all_mk KX G hmg ?a1 ?l1 ?c1 ?k1 ?a2 ?l2 ?c2 ?k2 ?a3 ?l3 ?c3 ?k3 ?a4 ?l4 ?c4 ?k4 ?a5 ?l5 ?c5 ?k5 ?a6 ?l6 ?c6 ?k6 ?a7 ?l7 ?c7 ?k7 ?a8 ?l8 ?c8 ?k8 ?a9 ?l9 ?c9 ?k9 ?a10 ?l10 ?c10 ?k10 ?a11 ?l11 ?c11 ?k11 ?a12 ?l12 ?c12 ?k12 ?a13 ?l13 ?c13 ?k13 ?a14 ?l14 ?c14 ?k14 ?a15 ?l15 ?c15 ?k15 ?a16 ?l16 ?c16 ?k16 ?a17 ?l17 ?c17 ?k17 ?a18 ?l18 ?c18 ?k18 ?a19 ?l19 ?c19 ?k19 ?a20 ?l20 ?c20 ?k20 ?a21 ?l21 ?c21 ?k21 ?a22 ?l22 ?c22 ?k22 ?z_max ?z_range ?z_len ?z_isinstance ?z_str ?z_int ?z_all ?z_tuple ?z_list ?z_enumerate ?y_0 ?y_1 ?y_2 ?y_3 ?y_4 ?y_5 ?y_6 ?y_7 ?y_8 ?y_9 ?x_0 ?v_0 ?x_1 ?v_1 ?x_2 ?v_2 ?x_3 ?v_3 ?x_4 ?v_4 ?x_5 ?v_5 ?x_6 ?v_6 ?x_7 ?v_7
    (case a1 => k_is)
    (case l1 => k_is)
    (case c1 => k_is)
    (case k1 => k_is)
    (case a2 => k_is)
    (case l2 => k_is)
    (case c2 => k_is)
    (case k2 => k_is)
    (case a3 => k_is)
    (case l3 => k_is)
    (case c3 => k_is)
    (case k3 => k_is)
    (case a4 => k_is)
    (case l4 => k_is)
    (case c4 => k_is)
    (case k4 => k_is)
    (case a5 => k_is)
    (case l5 => k_is)
    (case c5 => k_is)
    (case k5 => k_is)
    (case a6 => k_is)
    (case l6 => k_is)
    (case c6 => k_is)
    (case k6 => k_is)
    (case a7 => k_is)
    (case l7 => k_is)
    (case c7 => k_is)
    (case k7 => k_is)
    (case a8 => k_is)
    (case l8 => k_is)
    (case c8 => k_is)
    (case k8 => k_is)
    (case a9 => k_is)
    (case l9 => k_is)
    (case c9 => k_is)
    (case k9 => k_is)
    (case a10 => k_is)
    (case l10 => k_is)
    (case c10 => k_is)
    (case k10 => k_is)
    (case a11 => k_is)
    (case l11 => k_is)
    (case c11 => k_is)
    (case k11 => k_is)
    (case a12 => k_is)
    (case l12 => k_is)
    (case c12 => k_is)
    (case k12 => k_is)
    (case a13 => k_is)
    (case l13 => k_is)
    (case c13 => k_is)
    (case k13 => k_is)
    (case a14 => k_is)
    (case l14 => k_is)
    (case c14 => k_is)
    (case k14 => k_is)
    (case a15 => k_is)
    (case l15 => k_is)
    (case c15 => k_is)
    (case k15 => k_is)
    (case a16 => k_is)
    (case l16 => k_is)
    (case c16 => k_is)
    (case k16 => k_is)
    (case a17 => k_is)
    (case l17 => k_is)
    (case c17 => k_is)
    (case k17 => k_is)
    (case a18 => k_is)
    (case l18 => k_is)
    (case c18 => k_is)
    (case k18 => k_is)
    (case a19 => k_is)
    (case l19 => k_is)
    (case c19 => k_is)
    (case k19 => k_is)
    (case a20 => k_is)
    (case l20 => k_is)
    (case c20 => k_is)
    (case k20 => k_is)
    (case a21 => k_is)
    (case l21 => k_is)
    (case c21 => k_is)
    (case k21 => k_is)
    (case a22 => k_is)
    (case l22 => k_is)
    (case c22 => k_is)
    (case k22 => k_is)
    (case z_max => k_is)
    (case z_range => k_is)
    (case z_len => k_is)
    (case z_isinstance => k_is)
    (case z_str => k_is)
    (case z_int => k_is)
    (case z_all => k_is)
    (case z_tuple => k_is)
    (case z_list => k_is)
    (case z_enumerate => k_is)
    (case y_0 => k_is)
    (case y_1 => k_is)
    (case y_2 => k_is)
    (case y_3 => k_is)
    (case y_4 => k_is)
    (case y_5 => k_is)
    (case y_6 => k_is)
    (case y_7 => k_is)
    (case y_8 => k_is)
    (case y_9 => k_is)
    (case x_0 => k_is)
    (case v_0 => rfl)
    (case x_1 => k_is)
    (case v_1 => rfl)
    (case x_2 => k_is)
    (case v_2 => rfl)
    (case x_3 => k_is)
    (case v_3 => rfl)
    (case x_4 => k_is)
    (case v_4 => rfl)
    (case x_5 => k_is)
    (case v_5 => rfl)
    (case x_6 => k_is)
    (case v_6 => rfl)
    (case x_7 => k_is)
    (case v_7 => rfl)

