import PyProof.Rows.All
import Wide.All
import OpenK.AllK
import Wide.FinOn
import HandS.ForMost
import HandS.Wide
import HandS.IsInst
import HandS.Zip
import HandS.Style
import HandS.Gcd
import HandS.FStr
import HandS.Evl
import PySem.Float64
import PySem.Challenge.RW_sourceforms_k00_whole_ratios
set_option Elab.async false
set_option linter.all false
set_option maxRecDepth 100000
set_option maxHeartbeats 4000000
/-! rules by values whose readings are settled by what the heap holds -/
namespace Pr
open PySem PySem.Spec PyProof.Rows L2

/-! ### weaker readings -/
section
variable {X : Cx}
theorem opImp {f : Value → Value → Sem Value} {r r' : R2} (h : OpR X f r) (i : ∀ x y H Q, r' x y H Q → r x y H Q) : OpR X f r' :=
  fun pins s σ H x y v u Q I rx ry q => h pins s σ H x y v u Q I rx ry (i _ _ _ _ q)
theorem callImp {f : Value} {r r' : List V → Hp → VK → Prop} (h : CallR X f r) (i : ∀ vs H Q, r' vs H Q → r vs H Q) : CallR X f r' :=
  fun pins s σ H xs us Q I rx q => h pins s σ H xs us Q I rx (i _ _ _ q)
theorem ixImp {r r' : R2} (h : IxR X r) (i : ∀ x y H Q, r' x y H Q → r x y H Q) : IxR X r' :=
  fun va sl pins s σ H x y v u Q I rx ry q e => h va sl pins s σ H x y v u Q I rx ry (i _ _ _ _ q) e
theorem mtImp {id : String} {r r' : V → List V → Hp → VK → Prop} (h : MtM X id r) (i : ∀ x vs H Q, r' x vs H Q → r x vs H Q) : MtM X id r' :=
  fun pins s σ H x xs v us Q I rx rs q => h pins s σ H x xs v us Q I rx rs (i _ _ _ _ q)
theorem setImp {r r' : TSet} (h : PSet X r) (i : ∀ o j v H Q, r' o j v H Q → r o j v H Q) : PSet X r' :=
  fun pins s σ H o j v ov iv u Q I ro ri rv q => h pins s σ H o j v ov iv u Q I ro ri rv (i _ _ _ _ _ q)
end

/-! ### lists and tuples of ints -/
abbrev LI (ns : List Int) : HO := .lst (ns.map V.int)
abbrev TI (ns : List Int) : HO := .tup (ns.map V.int)
theorem map_int_inj {xs ys : List Int} : xs.map V.int = ys.map V.int ↔ xs = ys := by
  constructor
  · intro h
    exact (List.map_inj_right (fun a b e => V.int.inj e)).mp h
  · rintro rfl
    rfl
theorem map_nil_iff {xs : List Int} : ([] : List V) = xs.map V.int ↔ xs = [] := by
  cases xs <;> simp
/-- the item at an int's place -/
def gi (ns : List Int) (i : Int) : Int := ns.getD i.toNat 0
theorem gi_nat (ns : List Int) (i : Nat) : gi ns (i : Int) = ns.getD i 0 := by
  unfold gi
  rw [Int.toNat_natCast]
theorem at_gi {ns : List Int} {i : Int} (h0 : 0 ≤ i) (h1 : i < ns.length) : atI (ns.map V.int) i = some (.int (gi ns i)) := by
  obtain ⟨n, rfl⟩ := Int.eq_ofNat_of_zero_le h0
  have hn : n < ns.length := by omega
  rw [gi_nat]
  refine atI_nat (j := n) ?_
  rw [List.getElem?_map, List.getElem?_eq_getElem hn, List.getD_eq_getElem?_getD, List.getElem?_eq_getElem hn]
  rfl
theorem at_raw {xs : List V} {i : Int} (h0 : 0 ≤ i) (h1 : i < xs.length) : atI xs i = some (xs.getD i.toNat .non) := by
  obtain ⟨n, rfl⟩ := Int.eq_ofNat_of_zero_le h0
  have hn : n < xs.length := by omega
  refine atI_nat (j := n) ?_
  rw [Int.toNat_natCast, List.getElem?_eq_getElem hn, List.getD_eq_getElem?_getD, List.getElem?_eq_getElem hn]
  rfl
theorem atI_neg {xs : List V} {i : Int} (h0 : i < 0) (h1 : -(xs.length : Int) ≤ i) : atI xs i = some (xs.getD (i + xs.length).toNat .non) := by
  unfold atI ixN
  rw [if_neg (by omega), if_pos h1]
  show xs[(i + (xs.length : Int)).toNat]? = _
  rw [List.getElem?_eq_getElem (by omega), List.getD_eq_getElem?_getD, List.getElem?_eq_getElem (by omega)]
  rfl

section
variable {X : Cx}
/-- xs[i], xs a list of ints, the place from the left -/
def rIxLI : R2 := fun x y H Q => ∃ p i, x = .ref p ∧ y = .int i ∧ ∃ ns, H p = some (LI ns) ∧ 0 ≤ i ∧ i < (ns.length : Int) ∧ Q (.int (gi ns i)) H
theorem ix_LI : IxR X rIxLI := ixImp ix_list fun x y H Q ⟨p, i, ex, ey, ns, hp, h0, h1, q⟩ =>
  ⟨p, _, i, _, ex, ey, .inl (.inl hp), at_gi h0 h1, q⟩
def rIxTI : R2 := fun x y H Q => ∃ p i, x = .ref p ∧ y = .int i ∧ ∃ ns, H p = some (TI ns) ∧ 0 ≤ i ∧ i < (ns.length : Int) ∧ Q (.int (gi ns i)) H
theorem ix_TI : IxR X rIxTI := ixImp ix_tup fun x y H Q ⟨p, i, ex, ey, ns, hp, h0, h1, q⟩ =>
  ⟨p, _, i, _, ex, ey, .inl (.inl hp), at_gi h0 h1, q⟩
/-- xs[i], xs a list or tuple of any things -/
def rIxLV : R2 := fun x y H Q => ∃ p i, x = .ref p ∧ y = .int i ∧ ∃ xs, H p = some (.lst xs) ∧ ∃ v, atI xs i = some v ∧ Q v H
theorem ix_LV : IxR X rIxLV := ixImp ix_list fun x y H Q ⟨p, i, ex, ey, xs, hp, v, hv, q⟩ => ⟨p, xs, i, v, ex, ey, .inl (.inl hp), hv, q⟩
def rIxTV : R2 := fun x y H Q => ∃ p i, x = .ref p ∧ y = .int i ∧ ∃ xs, H p = some (.tup xs) ∧ ∃ v, atI xs i = some v ∧ Q v H
theorem ix_TV : IxR X rIxTV := ixImp ix_tup fun x y H Q ⟨p, i, ex, ey, xs, hp, v, hv, q⟩ => ⟨p, xs, i, v, ex, ey, .inl (.inl hp), hv, q⟩
def rLen : List V → Hp → VK → Prop := fun vs H Q => ∃ p, vs = [.ref p] ∧ ∃ xs, (H p = some (.lst xs) ∨ H p = some (.tup xs)) ∧ Q (.int (xs.length : Nat)) H
theorem cr_len : CallR X (.builtin "len") rLen := callImp call_len_seq fun vs H Q ⟨p, e, xs, h, q⟩ =>
  ⟨p, xs, e, h.elim (fun h => .inl (.inl (.inl h))) (fun h => .inr (.inl (.inl h))), q⟩
theorem ixN_of {n : Nat} {i : Int} (h0 : 0 ≤ i) (h1 : i < n) : ixN n i = some i.toNat := by
  unfold ixN
  rw [if_pos h0, if_pos h1]
def rSetLI : TSet := fun o j v H Q => ∃ p i n, o = .ref p ∧ j = .int i ∧ v = .int n ∧ ∃ ns, H p = some (LI ns) ∧ 0 ≤ i ∧ i < (ns.length : Int) ∧ Q (upd H p (LI (ns.set i.toNat n)))
theorem set_LI : PSet X rSetLI := setImp set_list fun o j v H Q ⟨p, i, n, eo, ej, ev, ns, hp, h0, h1, q⟩ => by
  subst ev
  refine ⟨p, _, i, i.toNat, eo, ej, hp, ?_, ?_⟩
  · rw [List.length_map]
    exact ixN_of h0 h1
  · rw [← List.map_set]
    exact q
def rSetLV : TSet := fun o j v H Q => ∃ p i, o = .ref p ∧ j = .int i ∧ ∃ xs, H p = some (.lst xs) ∧ 0 ≤ i ∧ i < (xs.length : Int) ∧ Q (upd H p (.lst (xs.set i.toNat v)))
theorem set_LV : PSet X rSetLV := setImp set_list fun o j v H Q ⟨p, i, eo, ej, xs, hp, h0, h1, q⟩ =>
  ⟨p, xs, i, i.toNat, eo, ej, hp, ixN_of h0 h1, q⟩
theorem sz {n : Nat} (h : n < 1000000) : n < sizeLine := Nat.lt_of_lt_of_le h (by decide)
def rAppI : V → List V → Hp → VK → Prop := fun x vs H Q => ∃ l n, x = .ref l ∧ vs = [.int n] ∧ ∃ ns, H l = some (LI ns) ∧ ns.length < 1000000 ∧ Q .non (upd H l (LI (ns ++ [n])))
theorem mt_appI : MtM X "list.append" rAppI := mtImp mt_append fun x vs H Q ⟨l, n, ex, ev, ns, hl, hz, q⟩ => by
  refine ⟨l, ns.map V.int, .int n, ex, ev, hl, sz (by rw [List.length_map]; exact hz), ?_⟩
  rw [← List.map_singleton (f := V.int), ← List.map_append]
  exact q
def rAppV : V → List V → Hp → VK → Prop := fun x vs H Q => ∃ l v, x = .ref l ∧ vs = [v] ∧ ∃ xs, H l = some (.lst xs) ∧ xs.length < 1000000 ∧ Q .non (upd H l (.lst (xs ++ [v])))
theorem mt_appV : MtM X "list.append" rAppV := mtImp mt_append fun x vs H Q ⟨l, n, ex, ev, ns, hl, hz, q⟩ => ⟨l, ns, n, ex, ev, hl, sz hz, q⟩
def rTupL : List V → Hp → VK → Prop := fun vs H Q => ∃ p, vs = [.ref p] ∧ ∃ xs, H p = some (.lst xs) ∧ ∀ l, H l = none → Q (.ref l) (upd H l (.tup xs))
theorem cr_tupL : CallR X (.type "tuple") rTupL := callImp call_tuple_of fun vs H Q ⟨p, e, xs, h, q⟩ => ⟨p, xs, e, .inl ⟨.inl (.inl h), q⟩⟩
def rListS : List V → Hp → VK → Prop := fun vs H Q => ∃ p, vs = [.ref p] ∧ ∃ xs, (H p = some (.lst xs) ∨ H p = some (.tup xs)) ∧ ∀ l, H l = none → Q (.ref l) (upd H l (.lst xs))
theorem cr_listS : CallR X (.type "list") rListS := callImp call_list_of fun vs H Q ⟨p, e, xs, h, q⟩ => ⟨p, xs, e, h.elim (fun h => .inl (.inl (.inl h))) (fun h => .inr (.inl (.inl h))), q⟩
def rSumLI : List V → Hp → VK → Prop := fun vs H Q => ∃ p, vs = [.ref p] ∧ ∃ ns, H p = some (LI ns) ∧ Q (.int ns.sum) H
theorem cr_sumLI (hc : X.calm = true) : CallR X (.builtin "sum") rSumLI := callImp (cr_sum hc) fun vs H Q ⟨p, e, ns, h, q⟩ => ⟨p, ns, e, .inl (.inl h), q⟩
/-- xs * k of a new list -/
def rRepLI : R2 := fun x y H Q => ∃ l k, x = .ref l ∧ y = .int k ∧ ∃ n, H l = some (LI [n]) ∧ k < 1000000 ∧ -1000000 < k ∧ ∀ p, H p = none → Q (.ref p) (upd H p (LI (List.replicate k.toNat n)))
theorem flat_rep (k : Nat) (n : Int) : (List.replicate k [V.int n]).flatten = (List.replicate k n).map V.int := by
  induction k with
  | zero => rfl
  | succ k ih =>
    rw [List.replicate_succ, List.flatten_cons, ih, List.replicate_succ]
    rfl
theorem op_repLI : OpR X (binaryOp .Mult) rRepLI := opImp op_rep fun x y H Q ⟨l, k, ex, ey, n, hl, h0, h1, q⟩ => by
  refine ⟨l, k, [V.int n], ex, ey, hl, by omega, by omega, ?_, fun p hp => ?_⟩
  · show 1 * k.toNat ≤ sizeLine
    rw [Nat.one_mul]
    exact Nat.le_of_lt (sz (by omega))
  · rw [flat_rep]
    exact q p hp
/-- int(n) -/
def rIntI : List V → Hp → VK → Prop := fun vs H Q => ∃ i, vs = [.int i] ∧ Q (.int i) H
theorem cr_intI : CallR X (.type "int") rIntI := callImp call_int1 fun vs H Q ⟨i, e, q⟩ => .inl ⟨i, e, q⟩
def rIntB : List V → Hp → VK → Prop := fun vs H Q => ∃ k, vs = [.bl k] ∧ Q (.int (if k then 1 else 0)) H
theorem cr_intB : CallR X (.type "int") rIntB := callImp call_int1 fun vs H Q ⟨i, e, q⟩ => .inr ⟨i, e, q⟩
/-- isinstance(x, T) by what x is, T a builtin class -/
def tyOf : V → Hp → Option String
  | .non, _ => some "NoneType"
  | .bl _, _ => some "bool"
  | .int _, _ => some "int"
  | .str _, _ => some "str"
  | .ref a, H => match H a with
    | some (.lst _) => some "list"
    | some (.tup _) => some "tuple"
    | some (.dK _) => some "dict"
    | some (.dT _) => some "dict"
    | _ => none
  | _, _ => none
end
end Pr

namespace Pr
open PySem PySem.Spec PyProof.Rows L2

/-! ### == of lists and tuples of ints -/
theorem dpAll_ints (K : PySem.W.Frag) (H : Hp) : ∀ ns : List Int, DpAll K H (ns.map V.int) (ns.map PyData.int)
  | [] => .nil
  | n :: ns => .cons (.int n) (dpAll_ints K H ns)
theorem eqvAll_ints : ∀ ns ms : List Int, PyData.eqvAll (ns.map .int) (ms.map .int) = decide (ns = ms)
  | [], [] => rfl
  | [], m :: ms => by simp [PyData.eqvAll]
  | n :: ns, [] => by simp [PyData.eqvAll]
  | n :: ns, m :: ms => by
    show (PyData.eqv (.int n) (.int m) && PyData.eqvAll (ns.map .int) (ms.map .int)) = decide (n :: ns = m :: ms)
    rw [eqvAll_ints ns ms]
    simp [PyData.eqv, ]
    by_cases h : n = m <;> simp [h]
theorem lay_ints : ∀ ns : List Int, PyData.canLayAll0 (ns.map .int) = true
  | [] => rfl
  | n :: ns => by
    show (PyData.canLay0 (.int n) && PyData.canLayAll0 (ns.map .int)) = true
    rw [lay_ints ns]
    rfl
theorem depth_ints : ∀ ns : List Int, PyData.depthAll (ns.map .int) = 0
  | [] => rfl
  | n :: ns => by
    show max (PyData.depth (.int n)) (PyData.depthAll (ns.map .int)) = 0
    rw [depth_ints ns]
    rfl
theorem shaped_TI (ns : List Int) : SeqAt.shaped (.tuple (ns.map .int)) = true := by
  unfold SeqAt.shaped
  simp [PyData.canLay0, PyData.depth, lay_ints, depth_ints]
theorem shaped_LI (ns : List Int) : SeqAt.shaped (.list (ns.map .int)) = true := by
  unfold SeqAt.shaped
  simp [PyData.canLay0, PyData.depth, lay_ints, depth_ints]
section
variable {X : Cx}
def rEqTI : R2 := fun x y H Q => ∃ p q, x = .ref p ∧ y = .ref q ∧ ∃ ns, H p = some (TI ns) ∧ ∃ ms, H q = some (TI ms) ∧ Q (.bl (decide (ns = ms))) H
theorem op_eqTI (hu : X.A.units + 64 < cLine) : OpR X (compareOp .Eq) rEqTI := opImp (op_eqD hu) fun x y H Q ⟨p, q, ex, ey, ns, hp, ms, hq, k⟩ => by
  subst ex ey
  refine ⟨_, _, .tup (.inl (.inl hp)) (dpAll_ints _ _ ns), .tup (.inl (.inl hq)) (dpAll_ints _ _ ms), shaped_TI ns, shaped_TI ms, ?_⟩
  show Q (.bl (PyData.eqvAll (ns.map .int) (ms.map .int))) H
  rw [eqvAll_ints]
  exact k
def rNeTI : R2 := fun x y H Q => ∃ p q, x = .ref p ∧ y = .ref q ∧ ∃ ns, H p = some (TI ns) ∧ ∃ ms, H q = some (TI ms) ∧ Q (.bl (!decide (ns = ms))) H
theorem op_neTI (hu : X.A.units + 64 < cLine) : OpR X (compareOp .NotEq) rNeTI := opImp (op_neD hu) fun x y H Q ⟨p, q, ex, ey, ns, hp, ms, hq, k⟩ => by
  subst ex ey
  refine ⟨_, _, .tup (.inl (.inl hp)) (dpAll_ints _ _ ns), .tup (.inl (.inl hq)) (dpAll_ints _ _ ms), shaped_TI ns, shaped_TI ms, ?_⟩
  show Q (.bl (!PyData.eqvAll (ns.map .int) (ms.map .int))) H
  rw [eqvAll_ints]
  exact k
def rEqLI : R2 := fun x y H Q => ∃ p q, x = .ref p ∧ y = .ref q ∧ ∃ ns, H p = some (LI ns) ∧ ∃ ms, H q = some (LI ms) ∧ Q (.bl (decide (ns = ms))) H
theorem op_eqLI (hu : X.A.units + 64 < cLine) : OpR X (compareOp .Eq) rEqLI := opImp (op_eqD hu) fun x y H Q ⟨p, q, ex, ey, ns, hp, ms, hq, k⟩ => by
  subst ex ey
  refine ⟨_, _, .lst (.inl (.inl hp)) (dpAll_ints _ _ ns), .lst (.inl (.inl hq)) (dpAll_ints _ _ ms), shaped_LI ns, shaped_LI ms, ?_⟩
  show Q (.bl (PyData.eqvAll (ns.map .int) (ms.map .int))) H
  rw [eqvAll_ints]
  exact k
def rNeLI : R2 := fun x y H Q => ∃ p q, x = .ref p ∧ y = .ref q ∧ ∃ ns, H p = some (LI ns) ∧ ∃ ms, H q = some (LI ms) ∧ Q (.bl (!decide (ns = ms))) H
theorem op_neLI (hu : X.A.units + 64 < cLine) : OpR X (compareOp .NotEq) rNeLI := opImp (op_neD hu) fun x y H Q ⟨p, q, ex, ey, ns, hp, ms, hq, k⟩ => by
  subst ex ey
  refine ⟨_, _, .lst (.inl (.inl hp)) (dpAll_ints _ _ ns), .lst (.inl (.inl hq)) (dpAll_ints _ _ ms), shaped_LI ns, shaped_LI ms, ?_⟩
  show Q (.bl (!PyData.eqvAll (ns.map .int) (ms.map .int))) H
  rw [eqvAll_ints]
  exact k
/-- isinstance of what is no object -/
def rIsiS : List V → Hp → VK → Prop := fun vs H Q => ∃ x T, vs = [x, .ty T] ∧ ∃ t, tyOf x H = some t ∧ ∃ b, kitB t T = some b ∧ Q (.bl b) H
theorem cr_isiS : CallR X (.builtin "isinstance") rIsiS := callImp call_isi fun vs H Q ⟨x, T, e, t, ht, b, hb, q⟩ => by
  refine ⟨x, .ty T, .type t, .type T, b, e, ?_, ?_, kit_ty hb, q⟩
  · exact .ty T
  · unfold tyOf at ht
    split at ht
    · cases ht; exact .base .non
    · cases ht; exact .base (.bl _)
    · cases ht; exact .base (.int _)
    · cases ht; exact .base (.str _)
    · split at ht <;> cases ht
      · exact .base (.lst ‹_›)
      · exact .base (.tup ‹_›)
      · exact .base (.dK ‹_›)
      · exact .base (.dT ‹_›)
    · cases ht
end

/-! ### sum of a tuple of ints -/
section
variable {prog : Program} {w : World} {A : Around} {E : Value → Shared → Prop} {s : Shared} {l : Addr} {xs : Array (Int × Tok)}
theorem sum_intTupG {Q : Value → Shared → Prop} (hh : A.handled = none) (hl : IsTup s.heap l (intItems xs))
    (h : ∀ h' tk t', (∀ b o, s.heap.get? b = some o → h'.get? b = some o) → Q (.int (preSum (numAt xs) xs.size) t') { s with heap := h', toks := tk }) :
    wpAny (model prog w) A (call (.builtin "sum") [.ref l]) Q E s := by
  have hlt : l < s.heap.objs.size := hl.lt
  refine call_sum_walkG (wpAny_pyIter_tuple hl ?_)
  refine ⟨_, [_, l], [_], _, _, _, numAt xs, rfl, Walks.tuple (A := A.in1) hh _ l (Nat.ne_of_lt hlt) (intItems xs), ⟨⟨_, Heap.get?_push_size _ rfl, rfl, rfl⟩, hl.push _⟩, fun b hb => ?_, (fun _ _ => intItems_at), fun h' tk t' hk => ?_⟩
  · show b < (s.heap.push _).objs.size
    rw [Heap.size_push]
    rcases List.mem_cons.mp hb with rfl | hb
    · exact Nat.lt_succ_self _
    · rcases List.mem_cons.mp hb with rfl | hb
      · exact Nat.lt_succ_of_lt hlt
      · cases hb
  · have := h h' tk t' (fun b o e => by
      refine hk b o (fun hm => ?_) (Heap.get?_push_of_some _ e)
      rcases List.mem_cons.mp hm with e1 | hm
      · exact absurd (e1 ▸ Heap.lt_size e) (Nat.lt_irrefl _)
      · cases hm)
    simpa [intItems] using this
end
section
variable {X : Cx}
def rSumTI : List V → Hp → VK → Prop := fun vs H Q => ∃ p, vs = [.ref p] ∧ ∃ ns, H p = some (TI ns) ∧ Q (.int ns.sum) H
theorem cr_sumTI (hc : X.calm = true) : CallR X (.builtin "sum") rSumTI := by
  intro pins s σ H vs us Q I r h
  obtain ⟨a, rfl, ns, hs, q⟩ := h
  obtain ⟨its, rv, hl, _⟩ := I.tuple (.inl (.inl hs))
  rw [Vals.ref1 r]
  obtain ⟨xs, e⟩ := rv.ints.allInts.items
  have hn : numsOf (intItems xs).toList = ns := by rw [← e]; exact rv.ints.numsOf
  rw [nums_intItems] at hn
  rw [e] at hl
  refine sum_intTupG (I.ok.hd hc) hl fun h' tk t' hk => ?_
  refine ⟨.int _, H, I.kept hk, ⟨_, rfl⟩, ?_⟩
  rw [preSum_eq, List.take_of_length_le (by simp), hn]
  exact q
end

/-! ### t[::-1] of a tuple -/
section
variable {prog : Program} {w : World} {A : Around} {E : Value → Shared → Prop} {s : Shared}
theorem rev_pick (xs : Array Value) : ((List.range xs.size).filterMap fun (m : Nat) => xs[(((xs.size : Int) - 1) + (m : Int) * (-1)).toNat]?).toArray = xs.toList.reverse.toArray := by
  congr 1
  have e : (List.range xs.size).filterMap (fun (m : Nat) => xs[(((xs.size : Int) - 1) + (m : Int) * (-1)).toNat]?) = (List.range xs.size).map fun m => xs.toList.reverse.getD m .none := by
    have h1 : ∀ m ∈ List.range xs.size, xs[(((xs.size : Int) - 1) + (m : Int) * (-1)).toNat]? = some (xs.toList.reverse.getD m .none) := fun m hm => by
      have hm := List.mem_range.mp hm
      have e1 : (((xs.size : Int) - 1) + (m : Int) * (-1)).toNat = xs.size - 1 - m := by omega
      rw [e1, List.getD_eq_getElem?_getD, List.getElem?_reverse (by simpa using hm), Array.getElem?_toList, Array.length_toList]
      rw [Array.getElem?_eq_getElem (by omega)]
      rfl
    generalize hg : (List.range xs.size) = L at h1 ⊢
    clear hg
    induction L with
    | nil => rfl
    | cons a L ih =>
      rw [List.filterMap_cons]
      simp only [h1 a List.mem_cons_self]
      rw [List.map_cons, ih fun m hm => h1 m (List.mem_cons_of_mem _ hm)]
  rw [e]
  apply List.ext_getElem
  · simp
  · intro i h1 h2
    rw [List.getElem_map, List.getElem_range, List.getD_eq_getElem?_getD, List.getElem?_eq_getElem h2]
    rfl
theorem sliceApplied_rev {sl : Addr} {n : Nat} {tk : Tok} {Q : Int × Int × Nat → Shared → Prop} (hs : s.heap.IsSliceOf sl .none .none (.int (-1) tk))
    (h : Q ((n : Int) - 1, -1, n) s) : wpAny (model prog w) A (Builtin.Slice.sliceApplied (.ref sl) (pure (n : Int))) Q E s := by
  obtain ⟨os, hos, hcs, hds⟩ := id hs
  unfold Builtin.Slice.sliceApplied Builtin.Slice.sliceFields
  refine wpAny_bind (wpAny_bind (wpAny_field hos hds (x := .none) rfl (wpAny_bind (wpAny_field hos hds (x := .none) rfl (wpAny_bind (wpAny_field hos hds (x := .int (-1) tk) rfl (wpAny_pure ?_)))))))
  refine wpAny_bind (slicePart_int ?_)
  show wpAny _ _ (if ((-1 : Int) == 0) = true then _ else _) _ _ s
  rw [if_neg (by decide)]
  refine wpAny_bind (slicePart_none (wpAny_bind (slicePart_none (wpAny_bind (wpAny_pure ?_)))))
  show wpAny _ _ (pure (((n : Int) - 1), (-1 : Int), Builtin.Slice.slicePlaces ((n : Int) - 1) (-1) (-1))) _ _ s
  have e : Builtin.Slice.slicePlaces ((n : Int) - 1) (-1) (-1) = n := by
    unfold Builtin.Slice.slicePlaces
    rw [if_neg (by omega)]
    by_cases h0 : (n : Int) - 1 > -1
    · rw [if_pos h0]
      show (((n : Int) - 1 - -1 - 1) / 1 + 1).toNat = n
      omega
    · rw [if_neg h0]
      omega
  rw [e]
  exact wpAny_pure h
theorem getItem_tuple_rev {t sl : Addr} {items : Array Value} {tk : Tok} {Q : Value → Shared → Prop} (ht : IsTup s.heap t items) (hs : s.heap.IsSliceOf sl .none .none (.int (-1) tk))
    (h : Q (.ref s.heap.objs.size) { s with heap := s.heap.push { cls := .type "tuple", data := .seq items.toList.reverse.toArray } })
    (hsz : items.size ≤ sizeLine) : wpAny (model prog w) A (getItem (.ref t) (.ref sl)) Q E s := by
  have htake : sizeOk (.seq (items.toList.reverse).toArray) := by
    show (items.toList.reverse).toArray.size ≤ sizeLine
    rw [List.size_toArray, List.length_reverse, Array.length_toList]
    omega
  obtain ⟨os, hos, hcs, hds⟩ := id hs
  have hTs : s.TypeIs (.ref sl) "slice" := ⟨os, hos, hcs⟩
  unfold getItem
  try with_reducible refine wpAny_holding ?_
  first | refine wpAny_bind (wpAny_pure ?_) | skip
  refine wpAny_bind (wpAny_sequenceKey ht.typeIs (by decide) ?_)
  refine wpAny_bind (wpAny_callSpecial?_slot (name := Str.ofString "__getitem__") ht.typeIs PyProof.Rows.slot_tuple_getitem
    (wpAny_call_entry PyProof.Rows.slot_tuple_getitem ht.typeIs PyProof.Rows.entry_tuple_getitem ?_ (PyProof.Rows.args_tuple_getitem _ _)))
  show wpAny _ _ (Builtin.Tuple.tupleItemsOf (.ref t) >>= _) _ _ s
  refine wpAny_bind (tupleItemsOf_ ht ?_)
  refine wpAny_bind (wpAny_typeOf hTs ?_)
  rw [if_pos (by decide)]
  refine wpAny_bind (sliceApplied_rev hs ?_)
  have hno : ¬ (((((items.size : Nat) : Int) - 1) == 0 && (-1 : Int) == 1 && items.size == items.size) = true) := by
    intro q
    rw [Bool.and_eq_true, Bool.and_eq_true] at q
    exact absurd q.1.2 (by decide)
  show wpAny _ _ (if ((((items.size : Nat) : Int) - 1) == 0 && (-1 : Int) == 1 && items.size == items.size) = true then _ else _) _ _ s
  rw [if_neg hno, rev_pick]
  first
    | exact wpAny_bind (m := Builtin.Tuple.tupleExact _) (wpAny_newObj_type (wpAny_pure ⟨_, rfl, wpAny_pure h⟩) htake)
    | exact wpAny_bind (m := Builtin.Tuple.tupleExact _) (wpAny_newObj_type (wpAny_bind (wpAny_pure (wpAny_pure ⟨_, rfl, wpAny_pure h⟩))) htake)
    | exact wpAny_bind (wpAny_bind (m := Builtin.Tuple.tupleExact _) (wpAny_newObj_type (wpAny_pure (wpAny_pure ⟨_, rfl, wpAny_pure h⟩)) htake))
    | exact wpAny_bind (wpAny_bind (m := Builtin.Tuple.tupleExact _) (wpAny_newObj_type (wpAny_pure ⟨_, rfl, wpAny_pure h⟩) htake))
end
section
variable {X : Cx}
def tRevT (te : TE) : TE := fun σ H Q => te σ H fun x H1 => ∃ a, x = .ref a ∧ ∃ xs, H1 a = some (.tup xs) ∧ ∀ p, H1 p = none → Q (.ref p) (upd H1 p (.tup xs.reverse))
theorem pe_revT {e : Expr} {te : TE} {k : Nat} {p1 p2 p3 pos : Pos} (he : PE X e te) : PE X (.Subscript e (.Slice none none (some (.UnaryOp .USub (.Constant (.int 1) k p1) p2)) p3) pos) (tRevT te) := by
  refine ⟨fun pins s σ H Q I h => ?_⟩
  refine Subscript_ (thn (he.run pins s σ H _ I h) fun v s1 ⟨x, H1, I1, r1, q1⟩ => ?_)
  obtain ⟨a, ex, xs, hx, q⟩ := q1
  subst ex
  cases r1
  have hst : PO X (some (.UnaryOp .USub (.Constant (.int 1) k p1) p2)) (tPart (tUn (rU fun i => .int (-i)) (tC (.int 1)))) := po_some (pe_un un_neg pe_int)
  refine wpAny_Slice (thn (po_none.run pins s1 σ H1 (fun o H2 => o = none ∧ H2 = H1) I1 ⟨rfl, rfl⟩) fun vl s2 ⟨l, H2, I2, pl, el, e2⟩ => ?_)
  subst el e2
  refine thn (po_none.run pins s2 σ H2 (fun o H3 => o = none ∧ H3 = H2) I2 ⟨rfl, rfl⟩) fun vu s3 ⟨u, H3, I3, pu, eu, e3⟩ => ?_
  subst eu e3
  refine thn (hst.run pins s3 σ H3 (fun o H4 => o = some (-1) ∧ H4 = H3) I3 ⟨1, rfl, -1, rfl, rfl, rfl⟩) fun vs s4 ⟨o, H4, I4, ps, eo, e4⟩ => ?_
  subst eo e4
  cases pl
  cases pu
  cases ps with
  | int i tk =>
  have I5 : Inv X pins σ H4 { s4 with heap := s4.heap.push { cls := .type "slice", data := .fields #[.none, .none, .int (-1) tk] } } := I4.kept (t' := s4.toks) fun b ob q => Heap.get?_push_of_some _ q
  obtain ⟨its, r, ht, hz⟩ := I5.tuple (.inl (.inl hx))
  have hlen := r.length
  show wpAny (model X.prog X.w) X.A (subscriptTail e (.Slice none none (some (.UnaryOp .USub (.Constant (.int 1) k p1) p2)) p3) (.ref a) (.ref s4.heap.objs.size)) (EP X pins σ Q) X.xe { s4 with heap := s4.heap.push { cls := .type "slice", data := .fields #[.none, .none, .int (-1) tk] } }
  refine tail_any (ops := [.ref a, .ref s4.heap.objs.size]) ht.typeIs (PyProof.Rows.slot_tuple_getitem.lookup) ?_ (by with_unfolding_all rfl)
  refine getItem_tuple_rev ht (Heap.IsSliceOf.new _ .none .none (.int (-1) tk)) ?_ (by rw [List.size_toArray]; omega)
  refine ⟨.ref _, _, I5.laid (t' := s4.toks) (o := .tup xs.reverse) (fun b ob q => Heap.get?_push_of_some _ q) (Nat.le_refl _) ?_, rfl, q _ (I5.hok.fresh (Nat.le_refl _))⟩
  exact ⟨by rw [List.length_reverse]; exact hz, _, r.reverse, IsTup.new _ _⟩
end
end Pr

namespace Pr
open PySem PySem.Spec PyProof.Rows L2

/-! ### readings, applied -/
section
variable {K : PySem.W.Frag} {σ : L2.St} {H : Hp} {Q : VK} {ta tb tc te : TE} {t u : TT} {D : Ends} {tu tw : TS} {g : TG} {x y v : V} {i j : Nat} {QT : Bool → Hp → Prop} {QA : List V → Hp → Prop}
theorem ap_seq : tSeq tu tw D σ H = tu { D with nx := tw D } σ H := rfl
theorem ap_next : tNext D σ H = D.nx σ H := rfl
theorem ap_asg : tAsg te g D σ H = te σ H fun x H1 => g x σ H1 D.nx := rfl
theorem ap_gName {QN : L2.St → Hp → Prop} : gName i v σ H QN = QN (σ.set i (some v)) H := rfl
theorem ap_ret : tRet te D σ H = te σ H D.rt := rfl
theorem ap_retN : tRetN D σ H = D.rt .non H := rfl
theorem ap_drop : tDrop te D σ H = te σ H fun _ H1 => D.nx σ H1 := rfl
theorem ap_ifS : tIfS t tu tw D σ H = t σ H fun b H1 => if b = true then tu D σ H1 else tw D σ H1 := rfl
theorem ap_break : tBreak D σ H = D.bk σ H := rfl
theorem ap_cont : tCont D σ H = D.ct σ H := rfl
theorem ap_par {ta : TA} : tPar i j ta D σ H = ta σ H fun vs H1 => ∃ v w, vs = [v, w] ∧ D.nx ((σ.set i (some v)).set j (some w)) H1 := rfl
theorem ap_aug {ti : TIp} : tAug i te ti D σ H = ∃ x, σ[i]? = some (some x) ∧ te σ H fun y H1 => ti x y H1 fun z H2 => D.nx (σ.set i (some z)) H2 := rfl
theorem ap_ip {f : Int → Int → Int} : ipI f x y H Q = ∃ i j, x = .int i ∧ y = .int j ∧ Q (.int (f i j)) H := rfl
theorem ap_gSub {to ti : TE} {ts : TSet} {QN : L2.St → Hp → Prop} : gSub to ti ts v σ H QN = to σ H fun o H1 => ti σ H1 fun i H2 => ts o i v H2 fun H3 => QN σ H3 := rfl
theorem ap_gTup {n : Nat} {ts : TGs} {QN : L2.St → Hp → Prop} : gTup K n ts v σ H QN = ∃ a xs, v = .ref a ∧ SqT K H a xs ∧ xs.length = n ∧ ts xs σ H QN := rfl
theorem ap_gNil {vs : List V} {QN : L2.St → Hp → Prop} : gNil vs σ H QN = (vs = [] ∧ QN σ H) := rfl
theorem ap_gCons {t : TG} {u : TGs} {vs : List V} {QN : L2.St → Hp → Prop} : gCons t u vs σ H QN = ∃ v r, vs = v :: r ∧ t v σ H fun σ' H' => u r σ' H' QN := rfl
theorem ap_var : tVar i σ H Q = ∃ v, σ[i]? = some (some v) ∧ Q v H := rfl
theorem ap_c : tC v σ H Q = Q v H := rfl
theorem ap_op {r : R2} : tOp r ta tb σ H Q = ta σ H fun x H1 => tb σ H1 fun y H2 => r x y H2 Q := rfl
theorem ap_un {r : V → Hp → VK → Prop} : tUn r ta σ H Q = ta σ H fun x H1 => r x H1 Q := rfl
theorem ap_if : tIf t ta tb σ H Q = t σ H fun c H1 => if c = true then ta σ H1 Q else tb σ H1 Q := rfl
theorem ap_test : tTest te σ H QT = te σ H fun x H' => ∃ k, x = .bl k ∧ QT k H' := rfl
theorem ap_B : tB te σ H QT = te σ H fun x H' => ∃ k, x = .bl k ∧ QT k H' := rfl
theorem ap_and : tAnd t u σ H QT = t σ H fun c H1 => if c = true then u σ H1 QT else QT false H1 := rfl
theorem ap_or : tOr t u σ H QT = t σ H fun c H1 => if c = true then QT true H1 else u σ H1 QT := rfl
theorem ap_not : tNot t σ H QT = t σ H fun c H1 => QT (!c) H1 := rfl
theorem ap_andV : tAndV ta tb σ H Q = ta σ H fun x H1 => ∃ c, x = .bl c ∧ if c = true then tb σ H1 Q else Q (.bl false) H1 := rfl
theorem ap_orV : tOrV ta tb σ H Q = ta σ H fun x H1 => ∃ c, x = .bl c ∧ if c = true then Q (.bl true) H1 else tb σ H1 Q := rfl
theorem ap_notV : tNotV ta σ H Q = ta σ H fun x H1 => ∃ c, x = .bl c ∧ Q (.bl (!c)) H1 := rfl
theorem ap_nil : tNil σ H QA = QA [] H := rfl
theorem ap_cons {tr : TA} : tCons ta tr σ H QA = ta σ H fun x H1 => tr σ H1 fun xs H2 => QA (x :: xs) H2 := rfl
theorem ap_tup {ta : TA} : tTup ta σ H Q = ta σ H fun xs H1 => xs.length ≤ sizeLine ∧ ∀ p, H1 p = none → Q (.ref p) (upd H1 p (.tup xs)) := rfl
theorem ap_lst {ta : TA} : tLst ta σ H Q = ta σ H fun xs H1 => xs.length ≤ sizeLine ∧ ∀ p, H1 p = none → Q (.ref p) (upd H1 p (.lst xs)) := rfl
theorem ap_cb {r : List V → Hp → VK → Prop} {ta : TA} : tCB r ta σ H Q = ta σ H fun vs H1 => r vs H1 Q := rfl
theorem ap_bm {T : String} {r : V → List V → Hp → VK → Prop} {ta : TA} : tBM K T r te ta σ H Q = te σ H fun x H1 => tyV K T x H1 ∧ ta σ H1 fun xs H2 => r x xs H2 Q := rfl
theorem ap_call {sp : Sp} {dvs : List V} {E : XK} {ta : TA} : tCall sp dvs E ta σ H Q = ta σ H fun vs H1 => sp (vs ++ dvs) H1 Q E := rfl
theorem ap_chain {r r' : R2} : tChain r r' ta tb tc σ H Q = ta σ H fun x H1 => tb σ H1 fun y H2 => r x y H2 fun z H3 => ∃ k, z = .bl k ∧ (if k = true then tc σ H3 fun w H4 => r' y w H4 Q else Q (.bl false) H3) := by
  unfold tChain
  apply propext
  rfl
theorem ap_rI {C : Int → Int → Prop} {f : Int → Int → V} : rI C f x y H Q = ∃ i j, x = .int i ∧ y = .int j ∧ C i j ∧ Q (f i j) H := rfl
theorem ap_rI0 {f : Int → Int → V} : rI0 f x y H Q = ∃ i j, x = .int i ∧ y = .int j ∧ Q (f i j) H := rfl
theorem ap_rU {f : Int → V} : rU f x H Q = ∃ i, x = .int i ∧ Q (f i) H := rfl
theorem ap_rEq : rEq x y H Q = (scal x y = true ∧ Q (.bl (decide (x = y))) H) := rfl
theorem ap_rNe : rNe x y H Q = (scal x y = true ∧ Q (.bl (!decide (x = y))) H) := rfl
theorem ap_revT : tRevT te σ H Q = te σ H fun x H1 => ∃ a, x = .ref a ∧ ∃ xs, H1 a = some (.tup xs) ∧ ∀ p, H1 p = none → Q (.ref p) (upd H1 p (.tup xs.reverse)) := rfl
theorem ap_sl {r : V → Option Int → Option Int → Hp → VK → Prop} {tl th : TO} : tSl r te tl th σ H Q = te σ H fun x H1 => tl σ H1 fun l H2 => th σ H2 fun u H3 => r x l u H3 Q := rfl
theorem ap_part {QO : Option Int → Hp → Prop} : tPart te σ H QO = te σ H fun x H1 => ∃ i, x = .int i ∧ QO (some i) H1 := rfl
theorem ap_noPart {QO : Option Int → Hp → Prop} : tNoPart σ H QO = QO none H := rfl
theorem ap_ixLI : rIxLI x y H Q = ∃ p i, x = .ref p ∧ y = .int i ∧ ∃ ns, H p = some (LI ns) ∧ 0 ≤ i ∧ i < (ns.length : Int) ∧ Q (.int (gi ns i)) H := rfl
theorem ap_ixTI : rIxTI x y H Q = ∃ p i, x = .ref p ∧ y = .int i ∧ ∃ ns, H p = some (TI ns) ∧ 0 ≤ i ∧ i < (ns.length : Int) ∧ Q (.int (gi ns i)) H := rfl
theorem ap_ixLV : rIxLV x y H Q = ∃ p i, x = .ref p ∧ y = .int i ∧ ∃ xs, H p = some (.lst xs) ∧ ∃ v, atI xs i = some v ∧ Q v H := rfl
theorem ap_ixTV : rIxTV x y H Q = ∃ p i, x = .ref p ∧ y = .int i ∧ ∃ xs, H p = some (.tup xs) ∧ ∃ v, atI xs i = some v ∧ Q v H := rfl
theorem ap_ixL : rIxL K x y H Q = ∃ p xs i v, x = .ref p ∧ y = .int i ∧ SqL K H p xs ∧ atI xs i = some v ∧ Q v H := rfl
theorem ap_len {vs : List V} : rLen vs H Q = ∃ p, vs = [.ref p] ∧ ∃ xs, (H p = some (.lst xs) ∨ H p = some (.tup xs)) ∧ Q (.int (xs.length : Nat)) H := rfl
theorem ap_setLI {o : V} {QH : Hp → Prop} : rSetLI o x v H QH = ∃ p i n, o = .ref p ∧ x = .int i ∧ v = .int n ∧ ∃ ns, H p = some (LI ns) ∧ 0 ≤ i ∧ i < (ns.length : Int) ∧ QH (upd H p (LI (ns.set i.toNat n))) := rfl
theorem ap_setLV {o : V} {QH : Hp → Prop} : rSetLV o x v H QH = ∃ p i, o = .ref p ∧ x = .int i ∧ ∃ xs, H p = some (.lst xs) ∧ 0 ≤ i ∧ i < (xs.length : Int) ∧ QH (upd H p (.lst (xs.set i.toNat v))) := rfl
theorem ap_appI {vs : List V} : rAppI x vs H Q = ∃ l n, x = .ref l ∧ vs = [.int n] ∧ ∃ ns, H l = some (LI ns) ∧ ns.length < 1000000 ∧ Q .non (upd H l (LI (ns ++ [n]))) := rfl
theorem ap_appV {vs : List V} : rAppV x vs H Q = ∃ l v, x = .ref l ∧ vs = [v] ∧ ∃ xs, H l = some (.lst xs) ∧ xs.length < 1000000 ∧ Q .non (upd H l (.lst (xs ++ [v]))) := rfl
theorem ap_tupL {vs : List V} : rTupL vs H Q = ∃ p, vs = [.ref p] ∧ ∃ xs, H p = some (.lst xs) ∧ ∀ l, H l = none → Q (.ref l) (upd H l (.tup xs)) := rfl
theorem ap_listS {vs : List V} : rListS vs H Q = ∃ p, vs = [.ref p] ∧ ∃ xs, (H p = some (.lst xs) ∨ H p = some (.tup xs)) ∧ ∀ l, H l = none → Q (.ref l) (upd H l (.lst xs)) := rfl
theorem ap_sumLI {vs : List V} : rSumLI vs H Q = ∃ p, vs = [.ref p] ∧ ∃ ns, H p = some (LI ns) ∧ Q (.int ns.sum) H := rfl
theorem ap_sumTI {vs : List V} : rSumTI vs H Q = ∃ p, vs = [.ref p] ∧ ∃ ns, H p = some (TI ns) ∧ Q (.int ns.sum) H := rfl
theorem ap_repLI : rRepLI x y H Q = ∃ l k, x = .ref l ∧ y = .int k ∧ ∃ n, H l = some (LI [n]) ∧ k < 1000000 ∧ -1000000 < k ∧ ∀ p, H p = none → Q (.ref p) (upd H p (LI (List.replicate k.toNat n))) := rfl
theorem ap_intI {vs : List V} : rIntI vs H Q = ∃ i, vs = [.int i] ∧ Q (.int i) H := rfl
theorem ap_intB {vs : List V} : rIntB vs H Q = ∃ k, vs = [.bl k] ∧ Q (.int (if k then 1 else 0)) H := rfl
theorem ap_eqTI : rEqTI x y H Q = ∃ p q, x = .ref p ∧ y = .ref q ∧ ∃ ns, H p = some (TI ns) ∧ ∃ ms, H q = some (TI ms) ∧ Q (.bl (decide (ns = ms))) H := rfl
theorem ap_neTI : rNeTI x y H Q = ∃ p q, x = .ref p ∧ y = .ref q ∧ ∃ ns, H p = some (TI ns) ∧ ∃ ms, H q = some (TI ms) ∧ Q (.bl (!decide (ns = ms))) H := rfl
theorem ap_eqLI : rEqLI x y H Q = ∃ p q, x = .ref p ∧ y = .ref q ∧ ∃ ns, H p = some (LI ns) ∧ ∃ ms, H q = some (LI ms) ∧ Q (.bl (decide (ns = ms))) H := rfl
theorem ap_neLI : rNeLI x y H Q = ∃ p q, x = .ref p ∧ y = .ref q ∧ ∃ ns, H p = some (LI ns) ∧ ∃ ms, H q = some (LI ms) ∧ Q (.bl (!decide (ns = ms))) H := rfl
theorem ap_isi {vs : List V} : rIsiS vs H Q = ∃ x T, vs = [x, .ty T] ∧ ∃ t, tyOf x H = some t ∧ ∃ b, kitB t T = some b ∧ Q (.bl b) H := rfl
/-- a loop over what has begun -/
def tLoop (g : TG) (tb : TS) (D : Ends) (σ : L2.St) (J : It) (H1 : Hp) : Prop := ∃ W : Nat → Nat → L2.St → Hp → Prop, (∃ m, W 0 m σ H1) ∧ ∀ i m σ H, W i m σ H →
  (J.stop i H ∧ D.nx σ H) ∨ (J.go i H ∧ ∃ N : L2.St → Hp → Prop, (∀ σ' H', N σ' H' → ∃ m', m' < m ∧ W (i + 1) m' σ' H') ∧ ∀ x H', J.yld i H x H' → g x σ H' fun σ2 H2 => tb { D with nx := N, ct := N, bk := D.nx } σ2 H2)
theorem ap_for {wi : L2.TI} : tFor wi g tu D σ H = wi σ H (tLoop g tu D σ) := rfl
theorem ap_rng1 {ta : TA} {R : It → Hp → Prop} : iRng1 ta σ H R = ta σ H fun vs H1 => ∃ j : Int, vs = [.int j] ∧ -(2 ^ 62) ≤ j ∧ j < 2 ^ 62 ∧ R (Itr 0 j.toNat) H1 := rfl
theorem ap_rng2 {ta : TA} {R : It → Hp → Prop} : iRng2 ta σ H R = ta σ H fun vs H1 => ∃ i j : Int, vs = [.int i, .int j] ∧ (-(2 ^ 62) ≤ i ∧ i < 2 ^ 62 ∧ -(2 ^ 62) ≤ j ∧ j < 2 ^ 62) ∧ R (Itr i (j - i).toNat) H1 := rfl
theorem ap_iList {R : It → Hp → Prop} : iList K te σ H R = te σ H fun x H1 => ∃ a, x = .ref a ∧ (∃ xs, SqL K H1 a xs) ∧ R (Itl K a) H1 := rfl
theorem ap_iTup {R : It → Hp → Prop} : iTup K te σ H R = te σ H fun x H1 => ∃ a, x = .ref a ∧ (∃ xs, SqT K H1 a xs) ∧ R (Itt K a) H1 := rfl
/-- a comprehension over what has begun -/
def tLcIn (g : TG) (tt : TT) (te : TE) (vs : List Nat) (σ : L2.St) (Q : VK) (J : It) (H1 : Hp) : Prop := ∀ D, H1 D = none → ∃ W : Nat → Nat → Hp → Prop, (∃ m, W 0 m (upd H1 D (.lst []))) ∧ ∀ i m H, W i m H →
  (J.stop i H ∧ Q (.ref D) H) ∨ (J.go i H ∧ ∃ Nx : Hp → Prop, (∀ H', Nx H' → ∃ m', m' < m ∧ W (i + 1) m' H') ∧ ∀ x H', J.yld i H x H' → g x (wipe σ vs) H' fun σ2 H2 => wipe σ2 vs = wipe σ vs ∧ tt σ2 H2 fun b H3 =>
    if b = true then te σ2 H3 fun y H4 => ∃ acc, H4 D = some (.lst acc) ∧ acc.length < sizeLine ∧ Nx (upd H4 D (.lst (acc ++ [y]))) else Nx H3)
theorem ap_lc {wi : L2.TI} {vs : List Nat} : tLc wi g t te vs σ H Q = wi σ H (tLcIn g t te vs σ Q) := rfl
theorem ap_yes : tYes σ H QT = QT true H := rfl
theorem tyV_l {p : Addr} (h : ∃ xs, H p = some (.lst xs)) : tyV K "list" (.ref p) H = True := by
  obtain ⟨xs, h⟩ := h
  exact eq_true (.inl ⟨rfl, xs, .inl (.inl h)⟩)
theorem sqL_of {p : Addr} {xs : List V} (h : H p = some (.lst xs)) : SqL K H p xs := .inl (.inl h)
theorem sqT_of {p : Addr} {xs : List V} (h : H p = some (.tup xs)) : SqT K H p xs := .inl (.inl h)
end

/-! ### loops -/
section
variable {K : PySem.W.Frag} {g : TG} {tb : TS} {D : Ends} {σ : L2.St} {H : Hp} {j : Nat} {te : TE} {vs : List Nat} {Q : VK} {tt : TT}
theorem loop_range {lo : Int} {n : Nat} (Pv : Nat → L2.St → Hp → Prop) (h0 : Pv 0 σ H)
    (hs : ∀ (i : Nat) σ H, i < n → Pv i σ H → tb { D with nx := Pv (i + 1), ct := Pv (i + 1), bk := D.nx } (σ.set j (some (.int (lo + i)))) H) (hd : ∀ σ H, Pv n σ H → D.nx σ H) :
    tLoop (gName j) tb D σ (Itr lo n) H := for_range (g := gName j) Pv h0 hs hd
theorem loop_list {a : Addr} {xs : List V} (Pv : Nat → L2.St → Hp → Prop) (h0 : Pv 0 σ H) (hl : ∀ i σ H, i ≤ xs.length → Pv i σ H → SqL K H a xs)
    (hs : ∀ i x σ H, xs[i]? = some x → Pv i σ H → tb { D with nx := Pv (i + 1), ct := Pv (i + 1), bk := D.nx } (σ.set j (some x)) H) (hd : ∀ σ H, Pv xs.length σ H → D.nx σ H) :
    tLoop (gName j) tb D σ (Itl K a) H := for_list (g := gName j) Pv h0 hl hs hd
theorem loop_tup {a : Addr} {xs : List V} (Pv : Nat → L2.St → Hp → Prop) (h0 : Pv 0 σ H) (hl : ∀ i σ H, i ≤ xs.length → Pv i σ H → SqT K H a xs)
    (hs : ∀ i x σ H, xs[i]? = some x → Pv i σ H → tb { D with nx := Pv (i + 1), ct := Pv (i + 1), bk := D.nx } (σ.set j (some x)) H) (hd : ∀ σ H, Pv xs.length σ H → D.nx σ H) :
    tLoop (gName j) tb D σ (Itt K a) H := for_tup (g := gName j) Pv h0 hl hs hd
theorem same_upd {H : Hp} {p : Addr} {o : HO} (h : H p = none) : Same H (upd H p o) := fun b x e => by
  rw [upd_ne (ne_of_none e h)]
  exact e
theorem same_mut {H H' : Hp} {p : Addr} {o : HO} (e : Same H H') (h : H p = none) : Same H (upd H' p o) := fun b x eb => by
  rw [upd_ne (ne_of_none eb h)]
  exact e b x eb
/-- a comprehension whose turns leave what H knows, and give ints -/
theorem lc_rangeI {lo : Int} {n : Nat} (f : Nat → Int) (hn : n < 1000000) (hw : ∀ x, wipe ((wipe σ vs).set j (some x)) vs = wipe σ vs)
    (he : ∀ (i : Nat) H', i < n → Same H H' → ∀ Q' : VK, (∀ H'', Same H' H'' → Q' (.int (f i)) H'') → te ((wipe σ vs).set j (some (.int (lo + i)))) H' Q')
    (hq : ∀ p H', H p = none → Same H H' → H' p = some (LI ((List.range n).map f)) → Q (.ref p) H') :
    tLcIn (gName j) tYes te vs σ Q (Itr lo n) H := fun Dl hD => by
  refine lc_range (g := gName j) (lo := lo) (n := n) (fun i H' => Same H H' ∧ H' Dl = some (LI ((List.range i).map f))) ⟨same_upd hD, ?_⟩ (fun i H' hi hP => ?_) (fun H' hP => hq Dl H' hD hP.1 hP.2)
  · rw [upd_same]
    rfl
  · obtain ⟨sm, ed⟩ := hP
    refine ⟨hw _, he i H' hi sm _ fun H'' sm' => ⟨_, sm' _ _ ed, sz (by simp; omega), same_mut (sm.trans sm') hD, ?_⟩⟩
    rw [upd_same, List.range_succ, List.map_append]
    simp
theorem lc_listI {a : Addr} {xs : List V} (f : Nat → Int) (hx : H a = some (.lst xs)) (hn : xs.length < 1000000) (hw : ∀ x, wipe ((wipe σ vs).set j (some x)) vs = wipe σ vs)
    (he : ∀ (i : Nat) x H', xs[i]? = some x → Same H H' → ∀ Q' : VK, (∀ H'', Same H' H'' → Q' (.int (f i)) H'') → te ((wipe σ vs).set j (some x)) H' Q')
    (hq : ∀ p H', H p = none → Same H H' → H' p = some (LI ((List.range xs.length).map f)) → Q (.ref p) H') :
    tLcIn (gName j) tYes te vs σ Q (Itl K a) H := fun Dl hD => by
  refine lc_list (g := gName j) (xs := xs) (fun i H' => Same H H' ∧ H' Dl = some (LI ((List.range i).map f))) ⟨same_upd hD, ?_⟩ (fun i H' hi hP => sqL_of (hP.1 _ _ hx)) (fun i x H' hi hP => ?_) (fun H' hP => hq Dl H' hD hP.1 hP.2)
  · rw [upd_same]
    rfl
  · obtain ⟨sm, ed⟩ := hP
    have hl := (List.getElem?_eq_some_iff.mp hi).1
    refine ⟨hw _, he i x H' hi sm _ fun H'' sm' => ⟨_, sm' _ _ ed, sz (by simp; omega), same_mut (sm.trans sm') hD, ?_⟩⟩
    rw [upd_same, List.range_succ, List.map_append]
    simp
theorem iteC {c A B : Prop} {inst : Decidable c} (h1 : c → A) (h2 : ¬c → B) : @ite Prop c inst A B := by
  by_cases h : c
  · rw [if_pos h]
    exact h1 h
  · rw [if_neg h]
    exact h2 h
theorem gi_c0 {a : Int} {l : List Int} : gi (a :: l) 0 = a := by
  unfold gi
  rfl
theorem gi_c1 {a b : Int} {l : List Int} : gi (a :: b :: l) 1 = b := by
  unfold gi
  rfl
theorem gi_c2 {a b c : Int} {l : List Int} : gi (a :: b :: c :: l) 2 = c := by
  unfold gi
  rfl
theorem gi_c3 {a b c d : Int} {l : List Int} : gi (a :: b :: c :: d :: l) 3 = d := by
  unfold gi
  rfl
theorem own_cons {p : Str × Nat} {l : List (Str × Nat)} : List.map (fun x : Str × Nat => x.snd) (p :: l) = p.snd :: List.map (fun x : Str × Nat => x.snd) l := rfl
theorem own_nil : List.map (fun x : Str × Nat => x.snd) [] = [] := rfl
theorem le1 {a : Int} {ns : List Int} : ([V.int a] = List.map V.int ns) ↔ [a] = ns := map_int_inj (xs := [a])
theorem le2 {a b : Int} {ns : List Int} : ([V.int a, V.int b] = List.map V.int ns) ↔ [a, b] = ns := map_int_inj (xs := [a, b])
theorem le3 {a b c : Int} {ns : List Int} : ([V.int a, V.int b, V.int c] = List.map V.int ns) ↔ [a, b, c] = ns := map_int_inj (xs := [a, b, c])
theorem le4 {a b c d : Int} {ns : List Int} : ([V.int a, V.int b, V.int c, V.int d] = List.map V.int ns) ↔ [a, b, c, d] = ns := map_int_inj (xs := [a, b, c, d])
theorem me_cons {a : Int} {l : List Int} {v : V} {r : List V} : (List.map V.int (a :: l) = v :: r) ↔ (V.int a = v ∧ List.map V.int l = r) := by
  rw [List.map_cons, List.cons.injEq]
theorem me_nil {r : List V} : (List.map V.int ([] : List Int) = r) ↔ [] = r := Iff.rfl
theorem wipe_nil : wipe σ [] = σ := rfl
theorem wipe_cons {v : Nat} : wipe σ (v :: vs) = (wipe σ vs).set v none := rfl
end
/-! the written part named, for what stands in a comprehension within another one -/
section
variable {X : Cx} {K : PySem.W.Frag} {tg l : Expr} {tl : TE}
theorem pi_listK (hK : X.K = K) (hl : PE X l tl) : PI X tg l (iList K tl) := by
  subst hK
  exact pi_list hl
theorem pi_tupK (hK : X.K = K) (hl : PE X l tl) : PI X tg l (iTup K tl) := by
  subst hK
  exact pi_tup hl
theorem ix_listK (hK : X.K = K) : IxR X (rIxL K) := by
  subst hK
  exact ix_list
end
end Pr

namespace Pr
open PySem PySem.Spec PyProof.Rows L2

/-! ### ints of any sign and some hundred digits -/
abbrev Big : Int := (2 ^ 250) ^ 16
def CFd (_ j : Int) : Prop := j ≠ 0 ∧ -((2 ^ 250) ^ 16) < j ∧ j < (2 ^ 250) ^ 16
def CMu (i j : Int) : Prop := (-((2 ^ 250) ^ 16) < i ∧ i < (2 ^ 250) ^ 16) ∧ -((2 ^ 250) ^ 16) < j ∧ j < (2 ^ 250) ^ 16
theorem bigE : ((2 : Int) ^ 250) ^ 16 = ((2 ^ 4000 : Nat) : Int) := by
  rw [← Int.pow_mul]
  norm_cast
theorem big_abs {i : Int} (h : -(2 ^ 250) ^ 16 < i ∧ i < (2 ^ 250) ^ 16) : i.natAbs < 2 ^ 4000 := by
  have e := bigE
  generalize (2 ^ 4000 : Nat) = B at e ⊢
  rw [e] at h
  omega
section
variable {X : Cx}
theorem op_fdivG : OpR X (binaryOp .FloorDiv) (rI CFd fun i j => .int (i.fdiv j)) := opI fun i j _ _ _ _ _ hc q => by
  have h1 : j ≠ 0 := hc.1
  have h2 : j.natAbs.log2 < 9000 := Nat.lt_of_lt_of_le (PySem.Flt.log2_lt_of (by decide) (big_abs hc.2)) (by decide)
  exact floordiv_int h1 q (.inl (PyProof.noPylong_of_log2 h2))
theorem op_mulB : OpR X (binaryOp .Mult) (rI CMu fun i j => .int (i * j)) := opImp op_mulW fun x y H Q ⟨i, j, ex, ey, c, q⟩ =>
  ⟨i, j, ex, ey, wide_mul (big_abs c.1) (big_abs c.2) (by decide) (by decide) (by decide), q⟩
def CDp (_ j : Int) : Prop := 0 < j ∧ j < (2 ^ 250) ^ 16
theorem op_fdivP : OpR X (binaryOp .FloorDiv) (rI CDp fun i j => .int (i / j)) := opImp op_fdivW fun x y H Q ⟨i, j, ex, ey, c, q⟩ => by
  refine ⟨i, j, ex, ey, wide_div c.1 (big_abs (i := j) ⟨?_, c.2⟩) (by decide) (by decide), q⟩
  have := c.1
  have e := bigE
  generalize (2 ^ 4000 : Nat) = B at e
  rw [e]
  omega
/-- isqrt -/
def rIsqrt : List V → Hp → VK → Prop := fun vs H Q => ∃ i, vs = [.int i] ∧ 0 ≤ i ∧ i < (2 ^ 250) ^ 16 ∧ Q (.int ((Float64.isqrt i.toNat : Nat) : Int)) H
theorem cr_isqrt : CallR X (.builtin "math.isqrt") rIsqrt := by
  intro pins s σ H vs us Q I r h
  obtain ⟨i, rfl, h0, h1, q⟩ := h
  obtain ⟨u, rfl, ru⟩ := r.one
  obtain ⟨t, rfl⟩ := ru
  have hb : i.toNat.log2 < 4000 := by
    have e := bigE
    refine PySem.Flt.log2_lt_of (by decide) ?_
    generalize (2 ^ 4000 : Nat) = B at e ⊢
    rw [e] at h1
    omega
  exact PySem.call_function_meets PySem.W.MGF.kind_isqrt PySem.W.MGF.plain_isqrt PySem.W.MGF.entry_isqrt (PySem.W.MGF.args_isqrt _) (PySem.W.mg_run_isqrt i t (by omega) (by omega) (by omega)).meets ⟨.int _, H, I.tok _, ⟨_, rfl⟩, q⟩
end
theorem ty_cases {x : V} {H : Hp} {t : String} (h : tyOf x H = some t) : x = .non ∨ (∃ b, x = .bl b) ∨ (∃ i, x = .int i) ∨ (∃ s, x = .str s) ∨ (∃ a, x = .ref a ∧ (t = "list" ∨ t = "tuple" ∨ t = "dict")) := by
  cases x with
  | non => exact .inl rfl
  | bl b => exact .inr (.inl ⟨b, rfl⟩)
  | int i => exact .inr (.inr (.inl ⟨i, rfl⟩))
  | str s => exact .inr (.inr (.inr (.inl ⟨s, rfl⟩)))
  | ref a =>
    refine .inr (.inr (.inr (.inr ⟨a, rfl, ?_⟩)))
    have e : tyOf (.ref a) H = (match H a with
      | some (.lst _) => some "list"
      | some (.tup _) => some "tuple"
      | some (.dK _) => some "dict"
      | some (.dT _) => some "dict"
      | _ => none) := rfl
    rw [e] at h
    split at h
    · exact .inl (Option.some.inj h).symm
    · exact .inr (.inl (Option.some.inj h).symm)
    · exact .inr (.inr (Option.some.inj h).symm)
    · exact .inr (.inr (Option.some.inj h).symm)
    · cases h
  | byt b => cases h
  | flt b => cases h
  | ty n => cases h
theorem ty_non (H : Hp) : tyOf .non H = some "NoneType" := rfl
theorem ty_bl (b : Bool) (H : Hp) : tyOf (.bl b) H = some "bool" := rfl
theorem ty_int (i : Int) (H : Hp) : tyOf (.int i) H = some "int" := rfl
theorem ty_str (s : Str) (H : Hp) : tyOf (.str s) H = some "str" := rfl
theorem ty_tup {a : Addr} {H : Hp} {xs : List V} (h : H a = some (.tup xs)) : tyOf (.ref a) H = some "tuple" := by
  show (match H a with
      | some (.lst _) => some "list"
      | some (.tup _) => some "tuple"
      | some (.dK _) => some "dict"
      | some (.dT _) => some "dict"
      | _ => none) = _
  rw [h]
theorem ty_lst {a : Addr} {H : Hp} {xs : List V} (h : H a = some (.lst xs)) : tyOf (.ref a) H = some "list" := by
  show (match H a with
      | some (.lst _) => some "list"
      | some (.tup _) => some "tuple"
      | some (.dK _) => some "dict"
      | some (.dT _) => some "dict"
      | _ => none) = _
  rw [h]
/-! ### unpacking, texts -/
section
variable {X : Cx}
def gTupH (n : Nat) (t : TGs) : TG := fun v σ H Q => ∃ a, v = .ref a ∧ ∃ xs, H a = some (.tup xs) ∧ xs.length = n ∧ t xs σ H Q
theorem pg_tupH {es : List Expr} {t : TGs} {k n : Nat} {pos : Pos} (hc : X.calm = true) (h : PGs X es t)
    (hn : (assignEach es X.env).length = n := by rfl) (hst : (assignEach es X.env).findIdx? (·.1) = none := by rfl) : PG X (.Tuple es k pos) (gTupH n t) := by
  have g := pg_tup (k := k) (pos := pos) hc h hn hst
  exact ⟨fun pins s σ H v u Q I r q => g.run pins s σ H v u Q I r (by
    obtain ⟨a, e, xs, hx, hl, k⟩ := q
    exact ⟨a, xs, e, .inl (.inl hx), hl, k⟩)⟩
variable {K : PySem.W.Frag} {σ : L2.St} {H : Hp} {Q : VK} {te : TE} {ts : List TE}
theorem ap_cut {D : Ends} {tu tw : TS} : Evl.tCut tu tw D σ H = ∃ Mid : L2.St → Hp → Prop, tu { D with nx := Mid } σ H ∧ ∀ σ' H', Mid σ' H' → tw D σ' H' := rfl
theorem ap_gTupH {n : Nat} {t : TGs} {v : V} {QN : L2.St → Hp → Prop} : gTupH n t v σ H QN = ∃ a, v = .ref a ∧ ∃ xs, H a = some (.tup xs) ∧ xs.length = n ∧ t xs σ H QN := rfl
theorem ap_fmt : tFmt te σ H Q = te σ H fun x H1 => (∃ y : Str, x = .str y ∧ y.length ≤ sizeLine ∧ Q (.str y) H1) ∨ ∃ i : Int, x = .int i ∧ i.natAbs.log2 < 1920 ∧ Q (.str (toString i)) H1 := rfl
theorem ap_jsn {acc : Str} {QS : Str → Hp → Prop} : tJs [] acc σ H QS = QS acc H := rfl
theorem ap_jsc {acc : Str} {QS : Str → Hp → Prop} : tJs (te :: ts) acc σ H QS = te σ H fun x H1 => ∃ y : Str, x = .str y ∧ (acc ++ y).length ≤ sizeLine ∧ tJs ts (acc ++ y) σ H1 QS := rfl
theorem ap_gcd {vs : List V} : rGcd vs H Q = ∃ a b : Int, vs = [.int a, .int b] ∧ Q (.int ((Nat.gcd a.natAbs b.natAbs : Nat) : Int)) H := rfl
theorem ap_isqrt {vs : List V} : rIsqrt vs H Q = ∃ i, vs = [.int i] ∧ 0 ≤ i ∧ i < (2 ^ 250) ^ 16 ∧ Q (.int ((Float64.isqrt i.toNat : Nat) : Int)) H := rfl
end
end Pr

namespace My
open PySem PySem.Spec PyProof.Rows L2 Pr
def topS (i : Nat) : Stmt := PySem.Challenge.pw_sourceforms_k00_whole_ratios.main.body.getD i (.Pass ⟨0, 0, 0, 0⟩)
abbrev s_is_integer : Stmt := topS 8
abbrev n_is_integer : List Str := ["value"]
abbrev p_is_integer : List Str := ["value"]
theorem st_is_integer {v0 : V} : L2.start n_is_integer [v0] = [some v0] := rfl
theorem sc_is_integer : FnScope n_is_integer p_is_integer (defScope s_is_integer) := ⟨rfl, rfl, rfl, by decide +kernel, rfl, by decide +kernel, by decide +kernel⟩
abbrev s_is_ratio : Stmt := topS 9
abbrev n_is_ratio : List Str := ["value", "top", "bottom"]
abbrev p_is_ratio : List Str := ["value"]
theorem st_is_ratio {v0 : V} : L2.start n_is_ratio [v0] = [some v0, none, none] := rfl
theorem sc_is_ratio : FnScope n_is_ratio p_is_ratio (defScope s_is_ratio) := ⟨rfl, rfl, rfl, by decide +kernel, rfl, by decide +kernel, by decide +kernel⟩
abbrev s_need_ratio : Stmt := topS 10
abbrev n_need_ratio : List Str := ["value"]
abbrev p_need_ratio : List Str := ["value"]
theorem st_need_ratio {v0 : V} : L2.start n_need_ratio [v0] = [some v0] := rfl
theorem sc_need_ratio : FnScope n_need_ratio p_need_ratio (defScope s_need_ratio) := ⟨rfl, rfl, rfl, by decide +kernel, rfl, by decide +kernel, by decide +kernel⟩
abbrev s_reduced : Stmt := topS 11
abbrev n_reduced : List Str := ["top", "bottom", "shared"]
abbrev p_reduced : List Str := ["top", "bottom"]
theorem st_reduced {v0 : V} {v1 : V} : L2.start n_reduced [v0, v1] = [some v0, some v1, none] := rfl
theorem sc_reduced : FnScope n_reduced p_reduced (defScope s_reduced) := ⟨rfl, rfl, rfl, by decide +kernel, rfl, by decide +kernel, by decide +kernel⟩
abbrev s_lowest : Stmt := topS 12
abbrev n_lowest : List Str := ["top", "bottom"]
abbrev p_lowest : List Str := ["top", "bottom"]
theorem st_lowest {v0 : V} {v1 : V} : L2.start n_lowest [v0, v1] = [some v0, some v1] := rfl
theorem sc_lowest : FnScope n_lowest p_lowest (defScope s_lowest) := ⟨rfl, rfl, rfl, by decide +kernel, rfl, by decide +kernel, by decide +kernel⟩
abbrev s_plus : Stmt := topS 13
abbrev n_plus : List Str := ["one", "other"]
abbrev p_plus : List Str := ["one", "other"]
theorem st_plus {v0 : V} {v1 : V} : L2.start n_plus [v0, v1] = [some v0, some v1] := rfl
theorem sc_plus : FnScope n_plus p_plus (defScope s_plus) := ⟨rfl, rfl, rfl, by decide +kernel, rfl, by decide +kernel, by decide +kernel⟩
abbrev s_minus : Stmt := topS 14
abbrev n_minus : List Str := ["one", "other"]
abbrev p_minus : List Str := ["one", "other"]
theorem st_minus {v0 : V} {v1 : V} : L2.start n_minus [v0, v1] = [some v0, some v1] := rfl
theorem sc_minus : FnScope n_minus p_minus (defScope s_minus) := ⟨rfl, rfl, rfl, by decide +kernel, rfl, by decide +kernel, by decide +kernel⟩
abbrev s_times : Stmt := topS 15
abbrev n_times : List Str := ["one", "other"]
abbrev p_times : List Str := ["one", "other"]
theorem st_times {v0 : V} {v1 : V} : L2.start n_times [v0, v1] = [some v0, some v1] := rfl
theorem sc_times : FnScope n_times p_times (defScope s_times) := ⟨rfl, rfl, rfl, by decide +kernel, rfl, by decide +kernel, by decide +kernel⟩
abbrev s_over : Stmt := topS 16
abbrev n_over : List Str := ["one", "other"]
abbrev p_over : List Str := ["one", "other"]
theorem st_over {v0 : V} {v1 : V} : L2.start n_over [v0, v1] = [some v0, some v1] := rfl
theorem sc_over : FnScope n_over p_over (defScope s_over) := ⟨rfl, rfl, rfl, by decide +kernel, rfl, by decide +kernel, by decide +kernel⟩
abbrev s_compare : Stmt := topS 17
abbrev n_compare : List Str := ["one", "other", "first", "second"]
abbrev p_compare : List Str := ["one", "other"]
theorem st_compare {v0 : V} {v1 : V} : L2.start n_compare [v0, v1] = [some v0, some v1, none, none] := rfl
theorem sc_compare : FnScope n_compare p_compare (defScope s_compare) := ⟨rfl, rfl, rfl, by decide +kernel, rfl, by decide +kernel, by decide +kernel⟩
abbrev s_root_of : Stmt := topS 18
abbrev n_root_of : List Str := ["ratio", "top", "bottom", "high", "low"]
abbrev p_root_of : List Str := ["ratio"]
theorem st_root_of {v0 : V} : L2.start n_root_of [v0] = [some v0, none, none, none, none] := rfl
theorem sc_root_of : FnScope n_root_of p_root_of (defScope s_root_of) := ⟨rfl, rfl, rfl, by decide +kernel, rfl, by decide +kernel, by decide +kernel⟩
abbrev s_ratio_text : Stmt := topS 19
abbrev n_ratio_text : List Str := ["ratio", "top", "bottom"]
abbrev p_ratio_text : List Str := ["ratio"]
theorem st_ratio_text {v0 : V} : L2.start n_ratio_text [v0] = [some v0, none, none] := rfl
theorem sc_ratio_text : FnScope n_ratio_text p_ratio_text (defScope s_ratio_text) := ⟨rfl, rfl, rfl, by decide +kernel, rfl, by decide +kernel, by decide +kernel⟩
abbrev s_law_dice : Stmt := topS 21
abbrev n_law_dice : List Str := ["_law_script", "_law_spot", "_law_cell", "_law_left"]
abbrev p_law_dice : List Str := ["_law_script", "_law_spot"]
theorem st_law_dice {v0 : V} {v1 : V} : L2.start n_law_dice [v0, v1] = [some v0, some v1, none, none] := rfl
theorem sc_law_dice : FnScope n_law_dice p_law_dice (defScope s_law_dice) := ⟨rfl, rfl, rfl, by decide +kernel, rfl, by decide +kernel, by decide +kernel⟩
abbrev s_law_roll : Stmt := topS 22
abbrev n_law_roll : List Str := ["_law_dice_here", "_law_total", "_law_found", "_law_one", "_law_two"]
abbrev p_law_roll : List Str := ["_law_dice_here", "_law_total"]
theorem st_law_roll {v0 : V} {v1 : V} : L2.start n_law_roll [v0, v1] = [some v0, some v1, none, none, none] := rfl
theorem sc_law_roll : FnScope n_law_roll p_law_roll (defScope s_law_roll) := ⟨rfl, rfl, rfl, by decide +kernel, rfl, by decide +kernel, by decide +kernel⟩
abbrev s_law_pick : Stmt := topS 23
abbrev n_law_pick : List Str := ["_law_dice_here", "_law_items"]
abbrev p_law_pick : List Str := ["_law_dice_here", "_law_items"]
theorem st_law_pick {v0 : V} {v1 : V} : L2.start n_law_pick [v0, v1] = [some v0, some v1] := rfl
theorem sc_law_pick : FnScope n_law_pick p_law_pick (defScope s_law_pick) := ⟨rfl, rfl, rfl, by decide +kernel, rfl, by decide +kernel, by decide +kernel⟩
abbrev s_law_near : Stmt := topS 24
abbrev n_law_near : List Str := ["_law_dice_here", "_law_most"]
abbrev p_law_near : List Str := ["_law_dice_here", "_law_most"]
theorem st_law_near {v0 : V} {v1 : V} : L2.start n_law_near [v0, v1] = [some v0, some v1] := rfl
theorem sc_law_near : FnScope n_law_near p_law_near (defScope s_law_near) := ⟨rfl, rfl, rfl, by decide +kernel, rfl, by decide +kernel, by decide +kernel⟩
abbrev s_law_gcd : Stmt := topS 25
abbrev n_law_gcd : List Str := ["_law_one", "_law_other"]
abbrev p_law_gcd : List Str := ["_law_one", "_law_other"]
theorem st_law_gcd {v0 : V} {v1 : V} : L2.start n_law_gcd [v0, v1] = [some v0, some v1] := rfl
theorem sc_law_gcd : FnScope n_law_gcd p_law_gcd (defScope s_law_gcd) := ⟨rfl, rfl, rfl, by decide +kernel, rfl, by decide +kernel, by decide +kernel⟩
abbrev s_law_lowest : Stmt := topS 26
abbrev n_law_lowest : List Str := ["_law_top", "_law_bottom", "_law_part"]
abbrev p_law_lowest : List Str := ["_law_top", "_law_bottom"]
theorem st_law_lowest {v0 : V} {v1 : V} : L2.start n_law_lowest [v0, v1] = [some v0, some v1, none] := rfl
theorem sc_law_lowest : FnScope n_law_lowest p_law_lowest (defScope s_law_lowest) := ⟨rfl, rfl, rfl, by decide +kernel, rfl, by decide +kernel, by decide +kernel⟩
abbrev s_law_ratio_sum : Stmt := topS 27
abbrev n_law_ratio_sum : List Str := ["_law_one", "_law_other"]
abbrev p_law_ratio_sum : List Str := ["_law_one", "_law_other"]
theorem st_law_ratio_sum {v0 : V} {v1 : V} : L2.start n_law_ratio_sum [v0, v1] = [some v0, some v1] := rfl
theorem sc_law_ratio_sum : FnScope n_law_ratio_sum p_law_ratio_sum (defScope s_law_ratio_sum) := ⟨rfl, rfl, rfl, by decide +kernel, rfl, by decide +kernel, by decide +kernel⟩
abbrev s_law_ratio_product : Stmt := topS 28
abbrev n_law_ratio_product : List Str := ["_law_one", "_law_other"]
abbrev p_law_ratio_product : List Str := ["_law_one", "_law_other"]
theorem st_law_ratio_product {v0 : V} {v1 : V} : L2.start n_law_ratio_product [v0, v1] = [some v0, some v1] := rfl
theorem sc_law_ratio_product : FnScope n_law_ratio_product p_law_ratio_product (defScope s_law_ratio_product) := ⟨rfl, rfl, rfl, by decide +kernel, rfl, by decide +kernel, by decide +kernel⟩
abbrev s_law_some_ratio : Stmt := topS 29
abbrev n_law_some_ratio : List Str := ["_law_dice_here", "_law_most"]
abbrev p_law_some_ratio : List Str := ["_law_dice_here", "_law_most"]
theorem st_law_some_ratio {v0 : V} {v1 : V} : L2.start n_law_some_ratio [v0, v1] = [some v0, some v1] := rfl
theorem sc_law_some_ratio : FnScope n_law_some_ratio p_law_some_ratio (defScope s_law_some_ratio) := ⟨rfl, rfl, rfl, by decide +kernel, rfl, by decide +kernel, by decide +kernel⟩
abbrev s_law_int_root : Stmt := topS 30
abbrev n_law_int_root : List Str := ["_law_number", "_law_low", "_law_high", "_law_middle"]
abbrev p_law_int_root : List Str := ["_law_number"]
theorem st_law_int_root {v0 : V} : L2.start n_law_int_root [v0] = [some v0, none, none, none] := rfl
theorem sc_law_int_root : FnScope n_law_int_root p_law_int_root (defScope s_law_int_root) := ⟨rfl, rfl, rfl, by decide +kernel, rfl, by decide +kernel, by decide +kernel⟩
abbrev s_law_text_of : Stmt := topS 31
abbrev n_law_text_of : List Str := ["_law_ratio"]
abbrev p_law_text_of : List Str := ["_law_ratio"]
theorem st_law_text_of {v0 : V} : L2.start n_law_text_of [v0] = [some v0] := rfl
theorem sc_law_text_of : FnScope n_law_text_of p_law_text_of (defScope s_law_text_of) := ⟨rfl, rfl, rfl, by decide +kernel, rfl, by decide +kernel, by decide +kernel⟩
abbrev s_law_root_due : Stmt := topS 32
abbrev n_law_root_due : List Str := ["_law_ratio", "_law_top", "_law_bottom"]
abbrev p_law_root_due : List Str := ["_law_ratio"]
theorem st_law_root_due {v0 : V} : L2.start n_law_root_due [v0] = [some v0, none, none] := rfl
theorem sc_law_root_due : FnScope n_law_root_due p_law_root_due (defScope s_law_root_due) := ⟨rfl, rfl, rfl, by decide +kernel, rfl, by decide +kernel, by decide +kernel⟩
abbrev s_law_pair_right : Stmt := topS 33
abbrev n_law_pair_right : List Str := ["_law_dice_here", "_law_one", "_law_other", "_law_total", "_law_product", "_law_due", "_law_left", "_law_right_here", "_law_square", "_law_ratio"]
abbrev p_law_pair_right : List Str := ["_law_dice_here", "_law_one", "_law_other"]
theorem st_law_pair_right {v0 : V} {v1 : V} {v2 : V} : L2.start n_law_pair_right [v0, v1, v2] = [some v0, some v1, some v2, none, none, none, none, none, none, none] := rfl
theorem sc_law_pair_right : FnScope n_law_pair_right p_law_pair_right (defScope s_law_pair_right) := ⟨rfl, rfl, rfl, by decide +kernel, rfl, by decide +kernel, by decide +kernel⟩
abbrev s_law_right : Stmt := topS 34
abbrev n_law_right : List Str := ["_law_dice_here", "_law_most", "_law_one", "_law_other", "_law_top", "_law_bottom", "_law_part", "_law_odd", "_law_value"]
abbrev p_law_right : List Str := ["_law_dice_here"]
theorem st_law_right {v0 : V} : L2.start n_law_right [v0] = [some v0, none, none, none, none, none, none, none, none] := rfl
theorem sc_law_right : FnScope n_law_right p_law_right (defScope s_law_right) := ⟨rfl, rfl, rfl, by decide +kernel, rfl, by decide +kernel, by decide +kernel⟩
abbrev s_law : Stmt := topS 35
abbrev n_law : List Str := ["_law_script", "_law_spot", "_law_told", "_law_value"]
abbrev p_law : List Str := ["_law_script"]
theorem st_law {v0 : V} : L2.start n_law [v0] = [some v0, none, none, none] := rfl
theorem sc_law : FnScope n_law p_law (defScope s_law) := ⟨rfl, rfl, rfl, by decide +kernel, rfl, by decide +kernel, by decide +kernel⟩
structure Tx (K : PySem.W.Frag) (mg : Str → Option Value) where
  f_is_integer : Addr
  d_is_integer : FuncData
  F_is_integer : Fun K "is_integer" "is_integer" s_is_integer f_is_integer d_is_integer
  b_is_integer : Binds K d_is_integer p_is_integer []
  m_is_integer : mg "is_integer" = some (.ref f_is_integer)
  f_is_ratio : Addr
  d_is_ratio : FuncData
  F_is_ratio : Fun K "is_ratio" "is_ratio" s_is_ratio f_is_ratio d_is_ratio
  b_is_ratio : Binds K d_is_ratio p_is_ratio []
  m_is_ratio : mg "is_ratio" = some (.ref f_is_ratio)
  f_need_ratio : Addr
  d_need_ratio : FuncData
  F_need_ratio : Fun K "need_ratio" "need_ratio" s_need_ratio f_need_ratio d_need_ratio
  b_need_ratio : Binds K d_need_ratio p_need_ratio []
  m_need_ratio : mg "need_ratio" = some (.ref f_need_ratio)
  f_reduced : Addr
  d_reduced : FuncData
  F_reduced : Fun K "reduced" "reduced" s_reduced f_reduced d_reduced
  b_reduced : Binds K d_reduced p_reduced []
  m_reduced : mg "reduced" = some (.ref f_reduced)
  f_lowest : Addr
  d_lowest : FuncData
  F_lowest : Fun K "lowest" "lowest" s_lowest f_lowest d_lowest
  b_lowest : Binds K d_lowest p_lowest []
  m_lowest : mg "lowest" = some (.ref f_lowest)
  f_plus : Addr
  d_plus : FuncData
  F_plus : Fun K "plus" "plus" s_plus f_plus d_plus
  b_plus : Binds K d_plus p_plus []
  m_plus : mg "plus" = some (.ref f_plus)
  f_minus : Addr
  d_minus : FuncData
  F_minus : Fun K "minus" "minus" s_minus f_minus d_minus
  b_minus : Binds K d_minus p_minus []
  m_minus : mg "minus" = some (.ref f_minus)
  f_times : Addr
  d_times : FuncData
  F_times : Fun K "times" "times" s_times f_times d_times
  b_times : Binds K d_times p_times []
  m_times : mg "times" = some (.ref f_times)
  f_over : Addr
  d_over : FuncData
  F_over : Fun K "over" "over" s_over f_over d_over
  b_over : Binds K d_over p_over []
  m_over : mg "over" = some (.ref f_over)
  f_compare : Addr
  d_compare : FuncData
  F_compare : Fun K "compare" "compare" s_compare f_compare d_compare
  b_compare : Binds K d_compare p_compare []
  m_compare : mg "compare" = some (.ref f_compare)
  f_root_of : Addr
  d_root_of : FuncData
  F_root_of : Fun K "root_of" "root_of" s_root_of f_root_of d_root_of
  b_root_of : Binds K d_root_of p_root_of []
  m_root_of : mg "root_of" = some (.ref f_root_of)
  f_ratio_text : Addr
  d_ratio_text : FuncData
  F_ratio_text : Fun K "ratio_text" "ratio_text" s_ratio_text f_ratio_text d_ratio_text
  b_ratio_text : Binds K d_ratio_text p_ratio_text []
  m_ratio_text : mg "ratio_text" = some (.ref f_ratio_text)
  f_law_dice : Addr
  d_law_dice : FuncData
  F_law_dice : Fun K "_law_dice" "_law_dice" s_law_dice f_law_dice d_law_dice
  b_law_dice : Binds K d_law_dice p_law_dice []
  m_law_dice : mg "_law_dice" = some (.ref f_law_dice)
  f_law_roll : Addr
  d_law_roll : FuncData
  F_law_roll : Fun K "_law_roll" "_law_roll" s_law_roll f_law_roll d_law_roll
  b_law_roll : Binds K d_law_roll p_law_roll []
  m_law_roll : mg "_law_roll" = some (.ref f_law_roll)
  f_law_pick : Addr
  d_law_pick : FuncData
  F_law_pick : Fun K "_law_pick" "_law_pick" s_law_pick f_law_pick d_law_pick
  b_law_pick : Binds K d_law_pick p_law_pick []
  m_law_pick : mg "_law_pick" = some (.ref f_law_pick)
  f_law_near : Addr
  d_law_near : FuncData
  F_law_near : Fun K "_law_near" "_law_near" s_law_near f_law_near d_law_near
  b_law_near : Binds K d_law_near p_law_near []
  m_law_near : mg "_law_near" = some (.ref f_law_near)
  f_law_gcd : Addr
  d_law_gcd : FuncData
  F_law_gcd : Fun K "_law_gcd" "_law_gcd" s_law_gcd f_law_gcd d_law_gcd
  b_law_gcd : Binds K d_law_gcd p_law_gcd []
  m_law_gcd : mg "_law_gcd" = some (.ref f_law_gcd)
  f_law_lowest : Addr
  d_law_lowest : FuncData
  F_law_lowest : Fun K "_law_lowest" "_law_lowest" s_law_lowest f_law_lowest d_law_lowest
  b_law_lowest : Binds K d_law_lowest p_law_lowest []
  m_law_lowest : mg "_law_lowest" = some (.ref f_law_lowest)
  f_law_ratio_sum : Addr
  d_law_ratio_sum : FuncData
  F_law_ratio_sum : Fun K "_law_ratio_sum" "_law_ratio_sum" s_law_ratio_sum f_law_ratio_sum d_law_ratio_sum
  b_law_ratio_sum : Binds K d_law_ratio_sum p_law_ratio_sum []
  m_law_ratio_sum : mg "_law_ratio_sum" = some (.ref f_law_ratio_sum)
  f_law_ratio_product : Addr
  d_law_ratio_product : FuncData
  F_law_ratio_product : Fun K "_law_ratio_product" "_law_ratio_product" s_law_ratio_product f_law_ratio_product d_law_ratio_product
  b_law_ratio_product : Binds K d_law_ratio_product p_law_ratio_product []
  m_law_ratio_product : mg "_law_ratio_product" = some (.ref f_law_ratio_product)
  f_law_some_ratio : Addr
  d_law_some_ratio : FuncData
  F_law_some_ratio : Fun K "_law_some_ratio" "_law_some_ratio" s_law_some_ratio f_law_some_ratio d_law_some_ratio
  b_law_some_ratio : Binds K d_law_some_ratio p_law_some_ratio []
  m_law_some_ratio : mg "_law_some_ratio" = some (.ref f_law_some_ratio)
  f_law_int_root : Addr
  d_law_int_root : FuncData
  F_law_int_root : Fun K "_law_int_root" "_law_int_root" s_law_int_root f_law_int_root d_law_int_root
  b_law_int_root : Binds K d_law_int_root p_law_int_root []
  m_law_int_root : mg "_law_int_root" = some (.ref f_law_int_root)
  f_law_text_of : Addr
  d_law_text_of : FuncData
  F_law_text_of : Fun K "_law_text_of" "_law_text_of" s_law_text_of f_law_text_of d_law_text_of
  b_law_text_of : Binds K d_law_text_of p_law_text_of []
  m_law_text_of : mg "_law_text_of" = some (.ref f_law_text_of)
  f_law_root_due : Addr
  d_law_root_due : FuncData
  F_law_root_due : Fun K "_law_root_due" "_law_root_due" s_law_root_due f_law_root_due d_law_root_due
  b_law_root_due : Binds K d_law_root_due p_law_root_due []
  m_law_root_due : mg "_law_root_due" = some (.ref f_law_root_due)
  f_law_pair_right : Addr
  d_law_pair_right : FuncData
  F_law_pair_right : Fun K "_law_pair_right" "_law_pair_right" s_law_pair_right f_law_pair_right d_law_pair_right
  b_law_pair_right : Binds K d_law_pair_right p_law_pair_right []
  m_law_pair_right : mg "_law_pair_right" = some (.ref f_law_pair_right)
  f_law_right : Addr
  d_law_right : FuncData
  F_law_right : Fun K "_law_right" "_law_right" s_law_right f_law_right d_law_right
  b_law_right : Binds K d_law_right p_law_right []
  m_law_right : mg "_law_right" = some (.ref f_law_right)
  f_law : Addr
  d_law : FuncData
  F_law : Fun K "law" "law" s_law f_law d_law
  b_law : Binds K d_law p_law []
  m_law : mg "law" = some (.ref f_law)
  z_abs : mg "abs" = none
  z_bool : mg "bool" = none
  z_int : mg "int" = none
  z_isinstance : mg "isinstance" = none
  z_len : mg "len" = none
  z_max : mg "max" = none
  z_min : mg "min" = none
  z_range : mg "range" = none
  z_str : mg "str" = none
  z_tuple : mg "tuple" = none
  i_gcd : mg "gcd" = some (.builtin "math.gcd")
  i_isqrt : mg "isqrt" = some (.builtin "math.isqrt")
  t_TOO_LONG : Tok
  c_TOO_LONG : mg "TOO_LONG" = some (.int 1000000000000000000000000000000000000000000000000000000000000 t_TOO_LONG)
end My

namespace M00
/-- two ints in lowest terms -/
structure Low (a b : Int) : Prop where
  pos : 0 < b
  gcd : Int.gcd a b = 1
def rt (t b : Int) : Int := if 0 < b then t / (Int.gcd t b : Int) else (-t) / (Int.gcd t b : Int)
def rb (t b : Int) : Int := if 0 < b then b / (Int.gcd t b : Int) else (-b) / (Int.gcd t b : Int)
theorem rt_pos {t b : Int} (h : 0 < b) : rt t b = t / (Int.gcd t b : Int) := if_pos h
theorem rb_pos {t b : Int} (h : 0 < b) : rb t b = b / (Int.gcd t b : Int) := if_pos h
theorem rt_neg {t b : Int} (h : b < 0) : rt t b = rt (-t) (-b) := by
  unfold rt
  rw [if_neg (by omega), if_pos (by omega), Int.neg_gcd, Int.gcd_neg]
theorem rb_neg {t b : Int} (h : b < 0) : rb t b = rb (-t) (-b) := by
  unfold rb
  rw [if_neg (by omega), if_pos (by omega), Int.neg_gcd, Int.gcd_neg]
theorem gpos {t b : Int} (h : b ≠ 0) : (0 : Int) < (Int.gcd t b : Int) := by
  have := Int.gcd_pos_of_ne_zero_right t h
  omega
theorem low_pos {t b : Int} (h : 0 < b) : Low (rt t b) (rb t b) := by
  rw [rt_pos h, rb_pos h]
  have g := gpos (t := t) (b := b) (by omega)
  refine ⟨?_, Int.gcd_ediv_gcd_ediv_gcd (by omega)⟩
  have e := Int.ediv_mul_cancel (Int.gcd_dvd_right t b)
  rcases Int.lt_trichotomy (b / (Int.gcd t b : Int)) 0 with c | c | c
  · have := Int.mul_neg_of_neg_of_pos c g
    omega
  · rw [c] at e
    omega
  · exact c
theorem low (t b : Int) (h : b ≠ 0) : Low (rt t b) (rb t b) := by
  rcases Int.lt_trichotomy b 0 with c | c | c
  · rw [rt_neg c, rb_neg c]
    exact low_pos (by omega)
  · exact absurd c h
  · exact low_pos c
theorem cross_pos {t b : Int} (h : 0 < b) : rt t b * b = t * rb t b := by
  rw [rt_pos h, rb_pos h]
  have e1 := Int.ediv_mul_cancel (Int.gcd_dvd_left t b)
  have e2 := Int.ediv_mul_cancel (Int.gcd_dvd_right t b)
  generalize (Int.gcd t b : Int) = g at e1 e2 ⊢
  generalize t / g = x at e1 ⊢
  generalize b / g = y at e2 ⊢
  rw [← e1, ← e2]
  grind
theorem cross (t b : Int) (h : b ≠ 0) : rt t b * b = t * rb t b := by
  rcases Int.lt_trichotomy b 0 with c | c | c
  · have := cross_pos (t := -t) (b := -b) (by omega)
    rw [rt_neg c, rb_neg c]
    grind
  · exact absurd c h
  · exact cross_pos c
theorem uniq {a b c d : Int} (h1 : Low a b) (h2 : Low c d) (h : a * d = c * b) : a = c ∧ b = d := by
  have k1 : b ∣ d := by
    have : b.natAbs ∣ (a * d).natAbs := Int.natAbs_dvd_natAbs.mpr (by rw [h]; exact Int.dvd_mul_left c b)
    rw [Int.natAbs_mul] at this
    have co : Nat.Coprime b.natAbs a.natAbs := by
      have := h1.gcd
      rw [Int.gcd_comm] at this
      exact this
    exact Int.natAbs_dvd_natAbs.mp (Nat.Coprime.dvd_of_dvd_mul_left co this)
  have k2 : d ∣ b := by
    have : d.natAbs ∣ (c * b).natAbs := Int.natAbs_dvd_natAbs.mpr (by rw [← h]; exact Int.dvd_mul_left a d)
    rw [Int.natAbs_mul] at this
    have co : Nat.Coprime d.natAbs c.natAbs := by
      have := h2.gcd
      rw [Int.gcd_comm] at this
      exact this
    exact Int.natAbs_dvd_natAbs.mp (Nat.Coprime.dvd_of_dvd_mul_left co this)
  have p1 := h1.pos
  have p2 := h2.pos
  have e1 := Int.le_of_dvd p2 k1
  have e2 := Int.le_of_dvd p1 k2
  have e : b = d := by omega
  subst e
  refine ⟨?_, rfl⟩
  exact Int.eq_of_mul_eq_mul_right (by omega) h
/-- a ratio told by any pair that stands for it -/
theorem told {a b x y : Int} (h : Low a b) (hy : y ≠ 0) (e : x * b = a * y) : rt x y = a ∧ rb x y = b := by
  refine uniq (low x y hy) h ?_
  have c := cross x y hy
  have hh : (rt x y * b) * y = (a * rb x y) * y := by grind
  exact Int.eq_of_mul_eq_mul_right hy hh
theorem rt_le {t b B : Int} (hb : b ≠ 0) (h : -B ≤ t ∧ t ≤ B) : -B ≤ rt t b ∧ rt t b ≤ B := by
  have g := gpos (t := t) (b := b) hb
  have aux : ∀ s : Int, -B ≤ s → s ≤ B → -B ≤ s / (Int.gcd t b : Int) ∧ s / (Int.gcd t b : Int) ≤ B := by
    intro s h0 h1
    generalize (Int.gcd t b : Int) = q at g
    constructor
    · by_cases c : 0 ≤ s
      · have := Int.ediv_nonneg c (show 0 ≤ q by omega)
        omega
      · have : s ≤ s / q := by
          apply Int.le_ediv_of_mul_le g
          have : s * q ≤ s * 1 := Int.mul_le_mul_of_nonpos_left (by omega) (by omega)
          omega
        omega
    · by_cases c : 0 ≤ s
      · have := Int.ediv_le_self q c
        omega
      · have := Int.ediv_neg_of_neg_of_pos (show s < 0 by omega) g
        omega
  unfold rt
  split
  · exact aux t h.1 h.2
  · exact aux (-t) (by omega) (by omega)
theorem rb_le {t b B : Int} (hb : b ≠ 0) (h : -B ≤ b ∧ b ≤ B) : 0 < rb t b ∧ rb t b ≤ B := by
  refine ⟨(low t b hb).pos, ?_⟩
  have g := gpos (t := t) (b := b) hb
  unfold rb
  split
  · have := Int.ediv_le_self (Int.gcd t b : Int) (show 0 ≤ b by omega)
    omega
  · have := Int.ediv_le_self (Int.gcd t b : Int) (show 0 ≤ -b by omega)
    omega
theorem fdiv_rt {t b : Int} (hb : 0 < b) : t.fdiv (Int.gcd t b : Int) = rt t b := by
  rw [rt_pos hb, Int.fdiv_eq_ediv_of_dvd (Int.gcd_dvd_left t b)]
theorem fdiv_rb {t b : Int} (hb : 0 < b) : b.fdiv (Int.gcd t b : Int) = rb t b := by
  rw [rb_pos hb, Int.fdiv_eq_ediv_of_dvd (Int.gcd_dvd_right t b)]
theorem fdiv_rtn {t b : Int} (hb : ¬ 0 < b) : t.fdiv (-(Int.gcd t b : Int)) = rt t b := by
  unfold rt
  rw [if_neg hb, Int.fdiv_eq_ediv_of_dvd (Int.neg_dvd.mpr (Int.gcd_dvd_left t b)), Int.ediv_neg, Int.neg_ediv_of_dvd (Int.gcd_dvd_left t b)]
theorem fdiv_rbn {t b : Int} (hb : ¬ 0 < b) : b.fdiv (-(Int.gcd t b : Int)) = rb t b := by
  unfold rb
  rw [if_neg hb, Int.fdiv_eq_ediv_of_dvd (Int.neg_dvd.mpr (Int.gcd_dvd_right t b)), Int.ediv_neg, Int.neg_ediv_of_dvd (Int.gcd_dvd_right t b)]

/-! ### roots -/
/-- r is the root of n, rounded down -/
def IsRt (n r : Nat) : Prop := r * r ≤ n ∧ n < (r + 1) * (r + 1)
theorem isRt_uniq {n r s : Nat} (h : IsRt n r) (k : IsRt n s) : r = s := by
  rcases Nat.lt_trichotomy r s with c | c | c
  · have := Nat.mul_le_mul (show r + 1 ≤ s from c) (show r + 1 ≤ s from c)
    have := h.2
    have := k.1
    omega
  · exact c
  · have := Nat.mul_le_mul (show s + 1 ≤ r from c) (show s + 1 ≤ r from c)
    have := h.1
    have := k.2
    omega
theorem sq0 (a : Int) : 0 ≤ a * a := by
  rcases Int.le_total 0 a with h | h
  · exact Int.mul_nonneg h h
  · exact Int.mul_nonneg_of_nonpos_of_nonpos h h
theorem sq_le {a b : Int} (h0 : 0 ≤ a) (h : a ≤ b) : a * a ≤ b * b := Int.mul_le_mul h h h0 (by omega)
/-- one step of Newton from above, not too far -/
theorem newton {n x q : Int} (hx : 0 < x) (hq0 : 0 ≤ q) (h1 : q * x ≤ n) (h2 : n < (q + 1) * x) (hc : (x - q) * (x - q) ≤ 4 * (x + q - 1)) (h8 : 2 ≤ x + q) :
    n < ((x + q) / 2 + 1) * ((x + q) / 2 + 1) ∧ ((x + q) / 2 - 1) * ((x + q) / 2 - 1) ≤ n := by
  obtain ⟨y, hy⟩ : ∃ y, y = (x + q) / 2 := ⟨_, rfl⟩
  rw [← hy]
  have a1 : x + q + 1 ≤ 2 * (y + 1) := by omega
  have a2 : 2 * (y - 1) ≤ x + q - 2 := by omega
  have s1 := sq_le (show 0 ≤ x + q + 1 by omega) a1
  have s2 := sq_le (show 0 ≤ 2 * (y - 1) by omega) a2
  have s3 := sq0 (x - (q + 1))
  constructor
  · have e1 : (x + q + 1) * (x + q + 1) = (x - (q + 1)) * (x - (q + 1)) + 4 * ((q + 1) * x) := by grind
    have e2 : 2 * (y + 1) * (2 * (y + 1)) = 4 * ((y + 1) * (y + 1)) := by grind
    omega
  · have e1 : (x + q - 2) * (x + q - 2) = 4 * (q * x) + (x - q) * (x - q) - 4 * (x + q - 1) := by grind
    have e2 : 2 * (y - 1) * (2 * (y - 1)) = 4 * ((y - 1) * (y - 1)) := by grind
    omega
def fine (n x : Nat) : Bool := decide (((x : Int) - (n / x : Nat)) * ((x : Int) - (n / x : Nat)) ≤ 4 * ((x : Int) + (n / x : Nat) - 1))
theorem small2 : ∀ n : Nat, n < 144 → ∀ s : Nat, s < 12 → 8 ≤ n → s * s ≤ n / 4 → n / 4 < (s + 1) * (s + 1) → fine n ((s + 1) * 2) = true := by decide +kernel
theorem small4 : ∀ n : Nat, n < 144 → ∀ s : Nat, s < 12 → 128 ≤ n → s * s ≤ n / 16 → n / 16 < (s + 1) * (s + 1) → fine n ((s + 1) * 4) = true := by decide +kernel
open PySem.Float64
theorem below8 {n : Nat} (h : n < 8) : IsRt n (rootBelow8 n) := by
  have : ∀ n < 8, rootBelow8 n * rootBelow8 n ≤ n ∧ n < (rootBelow8 n + 1) * (rootBelow8 n + 1) := by decide
  exact this n h
theorem halves : ∀ (l n : Nat), n < 2 ^ (l + 1) → IsRt n (rootByHalves l n)
  | 0, n, h => by
    unfold rootByHalves
    exact below8 (by omega)
  | l + 1, n, h => by
    unfold rootByHalves
    by_cases h8 : n < 8
    · rw [if_pos h8]
      exact below8 h8
    · rw [if_neg h8]
      have hL3 : 3 ≤ n.log2 := (Nat.le_log2 (by omega)).mpr (by omega)
      have hLl : n.log2 < l + 2 := (Nat.log2_lt (by omega)).mpr h
      obtain ⟨k, hk⟩ : ∃ k, k = (n.log2 + 1) / 4 := ⟨_, rfl⟩
      have hk1 : 1 ≤ k := by omega
      have hn1 : 2 ^ n.log2 ≤ n := Nat.log2_self_le (by omega)
      have hn2 : n < 2 ^ (n.log2 + 1) := Nat.lt_log2_self
      simp only [← hk]
      obtain ⟨u, hu⟩ : ∃ u, u = 2 ^ k := ⟨_, rfl⟩
      have hu4 : 4 ^ k = u * u := by
        rw [hu, ← Nat.mul_pow]
      have hu2 : 2 ≤ u := by
        rw [hu]
        exact Nat.le_trans (by decide : 2 ≤ 2 ^ 1) (Nat.pow_le_pow_right (by omega) hk1)
      rw [hu4, ← hu]
      have hm : n / (u * u) < 2 ^ (l + 1) := by
        rw [Nat.div_lt_iff_lt_mul (Nat.mul_pos (by omega) (by omega))]
        have : 2 ^ (l + 1 + 1) ≤ 2 ^ (l + 1) * (u * u) := by
          rw [Nat.pow_succ]
          exact Nat.mul_le_mul_left _ (Nat.le_trans hu2 (Nat.le_mul_of_pos_left u (by omega)))
        omega
      obtain ⟨m, hmm⟩ : ∃ m, m = n / (u * u) := ⟨_, rfl⟩
      rw [← hmm] at hm ⊢
      have ih := halves l m hm
      obtain ⟨s, hs⟩ : ∃ s, s = rootByHalves l m := ⟨_, rfl⟩
      rw [← hs] at ih ⊢
      obtain ⟨i1, i2⟩ := ih
      obtain ⟨x, hx⟩ : ∃ x, x = (s + 1) * u := ⟨_, rfl⟩
      have hx0 : 0 < x := by
        rw [hx]
        exact Nat.mul_pos (by omega) (by omega)
      obtain ⟨q, hq⟩ : ∃ q, q = n / x := ⟨_, rfl⟩
      have q1 : q * x ≤ n := by
        rw [hq]
        exact Nat.div_mul_le_self n x
      have q2 : n < (q + 1) * x := by
        rw [hq, Nat.add_mul, Nat.one_mul]
        exact Nat.lt_div_mul_add hx0
      have m1 : m * (u * u) ≤ n := by
        rw [hmm]
        exact Nat.div_mul_le_self n (u * u)
      have m2 : n < (m + 1) * (u * u) := by
        rw [hmm, Nat.add_mul, Nat.one_mul]
        exact Nat.lt_div_mul_add (Nat.mul_pos (by omega) (by omega))
      have x2 : n < x * x := by
        have e : x * x = (s + 1) * (s + 1) * (u * u) := by
          rw [hx]
          grind
        rw [e]
        exact Nat.lt_of_lt_of_le m2 (Nat.mul_le_mul_right _ i2)
      have qx : q < x := by
        rw [hq]
        exact Nat.div_lt_of_lt_mul x2
      have hc : ((x : Int) - q) * (x - q) ≤ 4 * (x + q - 1) := by
        by_cases c : u + 1 ≤ 2 * s
        · have hqu : u * (s - 1) ≤ q := by
            rw [hq, Nat.le_div_iff_mul_le hx0]
            refine Nat.le_trans ?_ m1
            have e : u * (s - 1) * x = (s - 1) * (s + 1) * (u * u) := by
              rw [hx]
              grind
            rw [e]
            refine Nat.mul_le_mul_right _ (Nat.le_trans ?_ i1)
            obtain ⟨v, rfl⟩ : ∃ v, s = v + 1 := ⟨s - 1, by omega⟩
            show (v + 1 - 1) * (v + 1 + 1) ≤ (v + 1) * (v + 1)
            rw [Nat.add_sub_cancel]
            have : v * (v + 1 + 1) + 1 = (v + 1) * (v + 1) := by grind
            omega
          obtain ⟨v, rfl⟩ : ∃ v, s = v + 1 := ⟨s - 1, by omega⟩
          rw [Nat.add_sub_cancel] at hqu
          have d1 : (x : Int) - q ≤ 2 * u := by
            have : (x : Int) = (v + 2) * u := by
              rw [hx]
              push_cast
              grind
            have h3 : (u : Int) * v ≤ q := by exact_mod_cast hqu
            have h4 : ((v : Int) + 2) * u = u * v + 2 * u := by grind
            omega
          have d2 := sq_le (show (0 : Int) ≤ (x : Int) - q by omega) d1
          have e3 : (2 * (u : Int)) * (2 * u) = 4 * (u * u) := by grind
          have d3 : (u : Int) * u ≤ x + q - 1 := by
            have h5 : (x : Int) = (v + 2) * u := by
              rw [hx]
              push_cast
              grind
            have h3 : (u : Int) * v ≤ q := by exact_mod_cast hqu
            have h6 : (u : Int) * (u + 1) ≤ u * (2 * (v + 1)) := Int.mul_le_mul_of_nonneg_left (by omega) (by omega)
            have h7 : (u : Int) * (u + 1) = u * u + u := by grind
            have h8 : (u : Int) * (2 * (v + 1)) = (v + 2) * u + u * v := by grind
            omega
          omega
        · -- few numbers
          have hnu : u * u * (u * u) ≤ 2 * n := by
            have e : u * u * (u * u) = 2 ^ (4 * k) := by
              rw [hu, ← Nat.pow_add, ← Nat.pow_add]
              congr 1
              omega
            rw [e]
            have : 2 ^ (4 * k) ≤ 2 ^ (n.log2 + 1) := Nat.pow_le_pow_right (by omega) (by omega)
            rw [Nat.pow_succ] at this
            omega
          have hm3 : u * u ≤ 2 * m + 1 := by
            have h3 : u * u * (u * u) < (2 * m + 2) * (u * u) := by
              have e : (2 * m + 2) * (u * u) = 2 * ((m + 1) * (u * u)) := by grind
              omega
            have := Nat.lt_of_mul_lt_mul_right h3
            omega
          have hu' : u ≤ 4 := by
            have h3 : (2 * (s + 1)) * (2 * (s + 1)) ≤ (u + 2) * (u + 2) := Nat.mul_le_mul (by omega) (by omega)
            have e1 : (2 * (s + 1)) * (2 * (s + 1)) = 4 * ((s + 1) * (s + 1)) := by grind
            have e2 : (u + 2) * (u + 2) = u * u + 4 * u + 4 := by grind
            have h4 : u * u ≤ 4 * u + 2 := by omega
            by_cases c5 : u ≤ 4
            · exact c5
            · have : 5 * u ≤ u * u := Nat.mul_le_mul_right u (by omega)
              omega
          have hk3 : k < 3 := by
            by_cases c5 : k < 3
            · exact c5
            · have : 2 ^ 3 ≤ 2 ^ k := Nat.pow_le_pow_right (by omega) (by omega)
              omega
          have hs2 : s ≤ 2 := by omega
          have hn7 : n < 144 := by
            have h3 : (s + 1) * (s + 1) ≤ 3 * 3 := Nat.mul_le_mul (by omega) (by omega)
            have h4 : u * u ≤ 4 * 4 := Nat.mul_le_mul hu' hu'
            have h5 : (m + 1) * (u * u) ≤ 9 * 16 := Nat.mul_le_mul (by omega) h4
            omega
          have hk12 : k = 1 ∨ k = 2 := by omega
          rcases hk12 with e | e
          · subst e
            have hu2' : u = 2 := hu
            subst hu2'
            have := small2 n hn7 s (by omega) (by omega) (by rw [← show m = n / 4 from hmm]; exact i1) (by rw [← show m = n / 4 from hmm]; exact i2)
            rw [hq, hx]
            exact of_decide_eq_true this
          · subst e
            have hu2' : u = 4 := hu
            subst hu2'
            have h128 : 128 ≤ n := by
              have : 2 ^ 7 ≤ 2 ^ n.log2 := Nat.pow_le_pow_right (by omega) (by omega)
              omega
            have := small4 n hn7 s (by omega) h128 (by rw [← show m = n / 16 from hmm]; exact i1) (by rw [← show m = n / 16 from hmm]; exact i2)
            rw [hq, hx]
            exact of_decide_eq_true this
      have hxq : 2 ≤ x + q := by
        have : 2 ≤ x := by
          rw [hx]
          exact Nat.le_trans hu2 (Nat.le_mul_of_pos_left u (by omega))
        omega
      have nw := newton (n := (n : Int)) (x := x) (q := q) (by omega) (by omega) (by exact_mod_cast q1) (by exact_mod_cast q2) hc (by omega)
      rw [← hx, ← hq]
      obtain ⟨y, hy⟩ : ∃ y, y = (x + q) / 2 := ⟨_, rfl⟩
      rw [← hy]
      have hyI : ((x : Int) + q) / 2 = (y : Int) := by
        rw [hy]
        norm_cast
      rw [hyI] at nw
      have hy1 : 1 ≤ y := by omega
      by_cases c : y * y > n
      · rw [if_pos c]
        refine ⟨?_, ?_⟩
        · have := nw.2
          obtain ⟨z, rfl⟩ : ∃ z, y = z + 1 := ⟨y - 1, by omega⟩
          rw [Nat.add_sub_cancel]
          have e : ((z + 1 : Nat) : Int) - 1 = (z : Int) := by omega
          rw [e] at this
          exact_mod_cast this
        · rw [Nat.sub_add_cancel hy1]
          exact c
      · rw [if_neg c]
        refine ⟨by omega, ?_⟩
        have := nw.1
        exact_mod_cast this
theorem isqrt_ok (n : Nat) : IsRt n (isqrt n) := halves n.log2 n Nat.lt_log2_self
end M00

namespace My
open PySem PySem.Spec PyProof.Rows L2 Pr M00
section
variable {P : Program} {w : World} {K : PySem.W.Frag} {mg : Str → Option Value} {base : Heap}
/-- an int of at most sixty digits -/
def isI : V → Bool
  | .int i => decide (-(10 ^ 60) < i ∧ i < 10 ^ 60)
  | _ => false
def sp_is_integer : Sp := fun vs H Q _ => ∃ x, vs = [x] ∧ (∃ t, tyOf x H = some t) ∧ Q (.bl (isI x)) H
theorem kit_ii : kitB "int" "int" = some true := by decide +kernel
theorem kit_ib : kitB "int" "bool" = some false := by decide +kernel
theorem kit_bi : kitB "bool" "int" = some true := by decide +kernel
theorem kit_bb : kitB "bool" "bool" = some true := by decide +kernel
theorem kit_ni : kitB "NoneType" "int" = some false := by decide +kernel
theorem kit_si : kitB "str" "int" = some false := by decide +kernel
theorem kit_li : kitB "list" "int" = some false := by decide +kernel
theorem kit_ti : kitB "tuple" "int" = some false := by decide +kernel
theorem kit_di : kitB "dict" "int" = some false := by decide +kernel
theorem kit_nt : kitB "NoneType" "tuple" = some false := by decide +kernel
theorem kit_it : kitB "int" "tuple" = some false := by decide +kernel
theorem kit_bt : kitB "bool" "tuple" = some false := by decide +kernel
theorem kit_st : kitB "str" "tuple" = some false := by decide +kernel
theorem kit_lt : kitB "list" "tuple" = some false := by decide +kernel
theorem kit_tt : kitB "tuple" "tuple" = some true := by decide +kernel
theorem kit_dt : kitB "dict" "tuple" = some false := by decide +kernel
theorem ok_is_integer (T : Tx K mg) : FnOk P w K mg base CX0 1 T.f_is_integer T.d_is_integer p_is_integer sp_is_integer := by
  refine T.F_is_integer.ok sc_is_integer (fun vs H Q E h => ?_) (fun cdv A outer s H vs Q E hr h => ?_)
  · obtain ⟨i, rfl, _⟩ := h
    rfl
  · obtain ⟨x, rfl, ⟨t, ht⟩, q⟩ := h
    refine ⟨_, (pss_cons (ps_if (PW.pt (pw_or (pt_not (pt_val (pe_callB cr_isiS (by rfl) T.z_isinstance (by decide +kernel) (pa_cons (pv 0) (pa_cons (pe_bltn (v := .ty "int") (by rfl) T.z_int (by decide +kernel) rfl) pa_nil))))) (pw_or1 (pt_val (pe_callB cr_isiS (by rfl) T.z_isinstance (by decide +kernel) (pa_cons (pv 0) (pa_cons (pe_bltn (v := .ty "bool") (by rfl) T.z_bool (by decide +kernel) rfl) pa_nil))))))) (pss_one (ps_ret pe_bl)) pss_nil)
      (pss_one (ps_ret (pe_chain op_lt op_lt (pe_un un_neg (pe_glob (v := .int 1000000000000000000000000000000000000000000000000000000000000) (by rfl) T.c_TOO_LONG ⟨_, rfl⟩)) (pv 0) (pe_glob (v := .int 1000000000000000000000000000000000000000000000000000000000000) (by rfl) T.c_TOO_LONG ⟨_, rfl⟩))))), ?_⟩
    rw [st_is_integer]
    rcases ty_cases ht with rfl | ⟨b, rfl⟩ | ⟨i, rfl⟩ | ⟨x, rfl⟩ | ⟨a, rfl, ht2⟩
    · simp only [ap_seq, ap_next, ap_asg, ap_gName, ap_ret, ap_retN, ap_drop, ap_ifS, ap_break, ap_cont, ap_par, ap_aug, ap_ip, ap_gSub, ap_gTup, ap_gNil, ap_gCons, ap_var, ap_c, ap_op, ap_un, ap_if, ap_test, ap_B, ap_and, ap_or, ap_not, ap_andV, ap_orV, ap_notV, ap_nil, ap_cons, ap_tup, ap_lst, ap_cb, ap_bm, ap_call, ap_chain, ap_rI, ap_rI0, ap_rU, ap_rEq, ap_rNe, ap_revT, ap_sl, ap_part, ap_noPart, ap_ixLI, ap_ixTI, ap_ixLV, ap_ixTV, ap_len, ap_setLI, ap_setLV, ap_appI, ap_appV, ap_tupL, ap_listS, ap_sumLI, ap_sumTI, ap_repLI, ap_intI, ap_intB, ap_eqTI, ap_neTI, ap_eqLI, ap_neLI, ap_isi, ap_for, ap_rng1, ap_rng2, ap_iList, ap_iTup, ap_lc, ap_yes, ap_cut, ap_gTupH, ap_fmt, ap_jsn, ap_jsc, ap_gcd, ap_isqrt, ap_ixL, tyV_l, wipe_nil, wipe_cons, upd_same, List.set_cons_zero, List.set_cons_succ, List.getElem?_cons_zero, List.getElem?_cons_succ, List.cons_append, List.nil_append, List.append_nil, Option.some.injEq, V.int.injEq, V.ref.injEq, V.bl.injEq, V.str.injEq, V.ty.injEq, Bool.not_true, Bool.not_false, HO.lst.injEq, HO.tup.injEq, reduceCtorEq, Int.reduceToNat, Int.reduceLT, Int.reduceLE, Nat.reduceAdd, Int.cast_ofNat_Int, gi_c0, gi_c1, gi_c2, gi_c3, Int.natCast_inj, map_int_inj, map_nil_iff, List.cons.injEq, exists_eq_left, exists_eq_left', exists_eq, exists_eq', exists_and_left, exists_and_right, exists_const, and_assoc, and_true, true_and, and_false, false_and, or_false, false_or, or_true, true_or, ite_true, ite_false, if_true, if_false, Bool.false_eq_true, own_cons, own_nil, le1, le2, le3, le4, me_cons, me_nil, List.length_map, List.length_cons, List.length_nil, ne_eq, not_false_eq_true, not_true_eq_false, decide_eq_true_eq, ty_non, kit_ni]
      exact q
    · simp only [ap_seq, ap_next, ap_asg, ap_gName, ap_ret, ap_retN, ap_drop, ap_ifS, ap_break, ap_cont, ap_par, ap_aug, ap_ip, ap_gSub, ap_gTup, ap_gNil, ap_gCons, ap_var, ap_c, ap_op, ap_un, ap_if, ap_test, ap_B, ap_and, ap_or, ap_not, ap_andV, ap_orV, ap_notV, ap_nil, ap_cons, ap_tup, ap_lst, ap_cb, ap_bm, ap_call, ap_chain, ap_rI, ap_rI0, ap_rU, ap_rEq, ap_rNe, ap_revT, ap_sl, ap_part, ap_noPart, ap_ixLI, ap_ixTI, ap_ixLV, ap_ixTV, ap_len, ap_setLI, ap_setLV, ap_appI, ap_appV, ap_tupL, ap_listS, ap_sumLI, ap_sumTI, ap_repLI, ap_intI, ap_intB, ap_eqTI, ap_neTI, ap_eqLI, ap_neLI, ap_isi, ap_for, ap_rng1, ap_rng2, ap_iList, ap_iTup, ap_lc, ap_yes, ap_cut, ap_gTupH, ap_fmt, ap_jsn, ap_jsc, ap_gcd, ap_isqrt, ap_ixL, tyV_l, wipe_nil, wipe_cons, upd_same, List.set_cons_zero, List.set_cons_succ, List.getElem?_cons_zero, List.getElem?_cons_succ, List.cons_append, List.nil_append, List.append_nil, Option.some.injEq, V.int.injEq, V.ref.injEq, V.bl.injEq, V.str.injEq, V.ty.injEq, Bool.not_true, Bool.not_false, HO.lst.injEq, HO.tup.injEq, reduceCtorEq, Int.reduceToNat, Int.reduceLT, Int.reduceLE, Nat.reduceAdd, Int.cast_ofNat_Int, gi_c0, gi_c1, gi_c2, gi_c3, Int.natCast_inj, map_int_inj, map_nil_iff, List.cons.injEq, exists_eq_left, exists_eq_left', exists_eq, exists_eq', exists_and_left, exists_and_right, exists_const, and_assoc, and_true, true_and, and_false, false_and, or_false, false_or, or_true, true_or, ite_true, ite_false, if_true, if_false, Bool.false_eq_true, own_cons, own_nil, le1, le2, le3, le4, me_cons, me_nil, List.length_map, List.length_cons, List.length_nil, ne_eq, not_false_eq_true, not_true_eq_false, decide_eq_true_eq, ty_bl, kit_bi, kit_bb]
      exact q
    · simp only [ap_seq, ap_next, ap_asg, ap_gName, ap_ret, ap_retN, ap_drop, ap_ifS, ap_break, ap_cont, ap_par, ap_aug, ap_ip, ap_gSub, ap_gTup, ap_gNil, ap_gCons, ap_var, ap_c, ap_op, ap_un, ap_if, ap_test, ap_B, ap_and, ap_or, ap_not, ap_andV, ap_orV, ap_notV, ap_nil, ap_cons, ap_tup, ap_lst, ap_cb, ap_bm, ap_call, ap_chain, ap_rI, ap_rI0, ap_rU, ap_rEq, ap_rNe, ap_revT, ap_sl, ap_part, ap_noPart, ap_ixLI, ap_ixTI, ap_ixLV, ap_ixTV, ap_len, ap_setLI, ap_setLV, ap_appI, ap_appV, ap_tupL, ap_listS, ap_sumLI, ap_sumTI, ap_repLI, ap_intI, ap_intB, ap_eqTI, ap_neTI, ap_eqLI, ap_neLI, ap_isi, ap_for, ap_rng1, ap_rng2, ap_iList, ap_iTup, ap_lc, ap_yes, ap_cut, ap_gTupH, ap_fmt, ap_jsn, ap_jsc, ap_gcd, ap_isqrt, ap_ixL, tyV_l, wipe_nil, wipe_cons, upd_same, List.set_cons_zero, List.set_cons_succ, List.getElem?_cons_zero, List.getElem?_cons_succ, List.cons_append, List.nil_append, List.append_nil, Option.some.injEq, V.int.injEq, V.ref.injEq, V.bl.injEq, V.str.injEq, V.ty.injEq, Bool.not_true, Bool.not_false, HO.lst.injEq, HO.tup.injEq, reduceCtorEq, Int.reduceToNat, Int.reduceLT, Int.reduceLE, Nat.reduceAdd, Int.cast_ofNat_Int, gi_c0, gi_c1, gi_c2, gi_c3, Int.natCast_inj, map_int_inj, map_nil_iff, List.cons.injEq, exists_eq_left, exists_eq_left', exists_eq, exists_eq', exists_and_left, exists_and_right, exists_const, and_assoc, and_true, true_and, and_false, false_and, or_false, false_or, or_true, true_or, ite_true, ite_false, if_true, if_false, Bool.false_eq_true, own_cons, own_nil, le1, le2, le3, le4, me_cons, me_nil, List.length_map, List.length_cons, List.length_nil, ne_eq, not_false_eq_true, not_true_eq_false, decide_eq_true_eq, ty_int, kit_ii, kit_ib]
      have e : isI (.int i) = decide (-(10 ^ 60) < i ∧ i < 10 ^ 60) := rfl
      refine iteC (fun c => ?_) (fun c => ?_)
      · have : decide (i < 1000000000000000000000000000000000000000000000000000000000000) = isI (.int i) := by
          rw [e]
          exact decide_eq_decide.mpr (by omega)
        rw [this]
        exact q
      · have : false = isI (.int i) := by
          rw [e, decide_eq_false (by omega)]
        rw [this]
        exact q
    · simp only [ap_seq, ap_next, ap_asg, ap_gName, ap_ret, ap_retN, ap_drop, ap_ifS, ap_break, ap_cont, ap_par, ap_aug, ap_ip, ap_gSub, ap_gTup, ap_gNil, ap_gCons, ap_var, ap_c, ap_op, ap_un, ap_if, ap_test, ap_B, ap_and, ap_or, ap_not, ap_andV, ap_orV, ap_notV, ap_nil, ap_cons, ap_tup, ap_lst, ap_cb, ap_bm, ap_call, ap_chain, ap_rI, ap_rI0, ap_rU, ap_rEq, ap_rNe, ap_revT, ap_sl, ap_part, ap_noPart, ap_ixLI, ap_ixTI, ap_ixLV, ap_ixTV, ap_len, ap_setLI, ap_setLV, ap_appI, ap_appV, ap_tupL, ap_listS, ap_sumLI, ap_sumTI, ap_repLI, ap_intI, ap_intB, ap_eqTI, ap_neTI, ap_eqLI, ap_neLI, ap_isi, ap_for, ap_rng1, ap_rng2, ap_iList, ap_iTup, ap_lc, ap_yes, ap_cut, ap_gTupH, ap_fmt, ap_jsn, ap_jsc, ap_gcd, ap_isqrt, ap_ixL, tyV_l, wipe_nil, wipe_cons, upd_same, List.set_cons_zero, List.set_cons_succ, List.getElem?_cons_zero, List.getElem?_cons_succ, List.cons_append, List.nil_append, List.append_nil, Option.some.injEq, V.int.injEq, V.ref.injEq, V.bl.injEq, V.str.injEq, V.ty.injEq, Bool.not_true, Bool.not_false, HO.lst.injEq, HO.tup.injEq, reduceCtorEq, Int.reduceToNat, Int.reduceLT, Int.reduceLE, Nat.reduceAdd, Int.cast_ofNat_Int, gi_c0, gi_c1, gi_c2, gi_c3, Int.natCast_inj, map_int_inj, map_nil_iff, List.cons.injEq, exists_eq_left, exists_eq_left', exists_eq, exists_eq', exists_and_left, exists_and_right, exists_const, and_assoc, and_true, true_and, and_false, false_and, or_false, false_or, or_true, true_or, ite_true, ite_false, if_true, if_false, Bool.false_eq_true, own_cons, own_nil, le1, le2, le3, le4, me_cons, me_nil, List.length_map, List.length_cons, List.length_nil, ne_eq, not_false_eq_true, not_true_eq_false, decide_eq_true_eq, ty_str, kit_si]
      exact q
    · rcases ht2 with rfl | rfl | rfl
      · simp only [ap_seq, ap_next, ap_asg, ap_gName, ap_ret, ap_retN, ap_drop, ap_ifS, ap_break, ap_cont, ap_par, ap_aug, ap_ip, ap_gSub, ap_gTup, ap_gNil, ap_gCons, ap_var, ap_c, ap_op, ap_un, ap_if, ap_test, ap_B, ap_and, ap_or, ap_not, ap_andV, ap_orV, ap_notV, ap_nil, ap_cons, ap_tup, ap_lst, ap_cb, ap_bm, ap_call, ap_chain, ap_rI, ap_rI0, ap_rU, ap_rEq, ap_rNe, ap_revT, ap_sl, ap_part, ap_noPart, ap_ixLI, ap_ixTI, ap_ixLV, ap_ixTV, ap_len, ap_setLI, ap_setLV, ap_appI, ap_appV, ap_tupL, ap_listS, ap_sumLI, ap_sumTI, ap_repLI, ap_intI, ap_intB, ap_eqTI, ap_neTI, ap_eqLI, ap_neLI, ap_isi, ap_for, ap_rng1, ap_rng2, ap_iList, ap_iTup, ap_lc, ap_yes, ap_cut, ap_gTupH, ap_fmt, ap_jsn, ap_jsc, ap_gcd, ap_isqrt, ap_ixL, tyV_l, wipe_nil, wipe_cons, upd_same, List.set_cons_zero, List.set_cons_succ, List.getElem?_cons_zero, List.getElem?_cons_succ, List.cons_append, List.nil_append, List.append_nil, Option.some.injEq, V.int.injEq, V.ref.injEq, V.bl.injEq, V.str.injEq, V.ty.injEq, Bool.not_true, Bool.not_false, HO.lst.injEq, HO.tup.injEq, reduceCtorEq, Int.reduceToNat, Int.reduceLT, Int.reduceLE, Nat.reduceAdd, Int.cast_ofNat_Int, gi_c0, gi_c1, gi_c2, gi_c3, Int.natCast_inj, map_int_inj, map_nil_iff, List.cons.injEq, exists_eq_left, exists_eq_left', exists_eq, exists_eq', exists_and_left, exists_and_right, exists_const, and_assoc, and_true, true_and, and_false, false_and, or_false, false_or, or_true, true_or, ite_true, ite_false, if_true, if_false, Bool.false_eq_true, own_cons, own_nil, le1, le2, le3, le4, me_cons, me_nil, List.length_map, List.length_cons, List.length_nil, ne_eq, not_false_eq_true, not_true_eq_false, decide_eq_true_eq, ht, kit_li]
        exact q
      · simp only [ap_seq, ap_next, ap_asg, ap_gName, ap_ret, ap_retN, ap_drop, ap_ifS, ap_break, ap_cont, ap_par, ap_aug, ap_ip, ap_gSub, ap_gTup, ap_gNil, ap_gCons, ap_var, ap_c, ap_op, ap_un, ap_if, ap_test, ap_B, ap_and, ap_or, ap_not, ap_andV, ap_orV, ap_notV, ap_nil, ap_cons, ap_tup, ap_lst, ap_cb, ap_bm, ap_call, ap_chain, ap_rI, ap_rI0, ap_rU, ap_rEq, ap_rNe, ap_revT, ap_sl, ap_part, ap_noPart, ap_ixLI, ap_ixTI, ap_ixLV, ap_ixTV, ap_len, ap_setLI, ap_setLV, ap_appI, ap_appV, ap_tupL, ap_listS, ap_sumLI, ap_sumTI, ap_repLI, ap_intI, ap_intB, ap_eqTI, ap_neTI, ap_eqLI, ap_neLI, ap_isi, ap_for, ap_rng1, ap_rng2, ap_iList, ap_iTup, ap_lc, ap_yes, ap_cut, ap_gTupH, ap_fmt, ap_jsn, ap_jsc, ap_gcd, ap_isqrt, ap_ixL, tyV_l, wipe_nil, wipe_cons, upd_same, List.set_cons_zero, List.set_cons_succ, List.getElem?_cons_zero, List.getElem?_cons_succ, List.cons_append, List.nil_append, List.append_nil, Option.some.injEq, V.int.injEq, V.ref.injEq, V.bl.injEq, V.str.injEq, V.ty.injEq, Bool.not_true, Bool.not_false, HO.lst.injEq, HO.tup.injEq, reduceCtorEq, Int.reduceToNat, Int.reduceLT, Int.reduceLE, Nat.reduceAdd, Int.cast_ofNat_Int, gi_c0, gi_c1, gi_c2, gi_c3, Int.natCast_inj, map_int_inj, map_nil_iff, List.cons.injEq, exists_eq_left, exists_eq_left', exists_eq, exists_eq', exists_and_left, exists_and_right, exists_const, and_assoc, and_true, true_and, and_false, false_and, or_false, false_or, or_true, true_or, ite_true, ite_false, if_true, if_false, Bool.false_eq_true, own_cons, own_nil, le1, le2, le3, le4, me_cons, me_nil, List.length_map, List.length_cons, List.length_nil, ne_eq, not_false_eq_true, not_true_eq_false, decide_eq_true_eq, ht, kit_ti]
        exact q
      · simp only [ap_seq, ap_next, ap_asg, ap_gName, ap_ret, ap_retN, ap_drop, ap_ifS, ap_break, ap_cont, ap_par, ap_aug, ap_ip, ap_gSub, ap_gTup, ap_gNil, ap_gCons, ap_var, ap_c, ap_op, ap_un, ap_if, ap_test, ap_B, ap_and, ap_or, ap_not, ap_andV, ap_orV, ap_notV, ap_nil, ap_cons, ap_tup, ap_lst, ap_cb, ap_bm, ap_call, ap_chain, ap_rI, ap_rI0, ap_rU, ap_rEq, ap_rNe, ap_revT, ap_sl, ap_part, ap_noPart, ap_ixLI, ap_ixTI, ap_ixLV, ap_ixTV, ap_len, ap_setLI, ap_setLV, ap_appI, ap_appV, ap_tupL, ap_listS, ap_sumLI, ap_sumTI, ap_repLI, ap_intI, ap_intB, ap_eqTI, ap_neTI, ap_eqLI, ap_neLI, ap_isi, ap_for, ap_rng1, ap_rng2, ap_iList, ap_iTup, ap_lc, ap_yes, ap_cut, ap_gTupH, ap_fmt, ap_jsn, ap_jsc, ap_gcd, ap_isqrt, ap_ixL, tyV_l, wipe_nil, wipe_cons, upd_same, List.set_cons_zero, List.set_cons_succ, List.getElem?_cons_zero, List.getElem?_cons_succ, List.cons_append, List.nil_append, List.append_nil, Option.some.injEq, V.int.injEq, V.ref.injEq, V.bl.injEq, V.str.injEq, V.ty.injEq, Bool.not_true, Bool.not_false, HO.lst.injEq, HO.tup.injEq, reduceCtorEq, Int.reduceToNat, Int.reduceLT, Int.reduceLE, Nat.reduceAdd, Int.cast_ofNat_Int, gi_c0, gi_c1, gi_c2, gi_c3, Int.natCast_inj, map_int_inj, map_nil_iff, List.cons.injEq, exists_eq_left, exists_eq_left', exists_eq, exists_eq', exists_and_left, exists_and_right, exists_const, and_assoc, and_true, true_and, and_false, false_and, or_false, false_or, or_true, true_or, ite_true, ite_false, if_true, if_false, Bool.false_eq_true, own_cons, own_nil, le1, le2, le3, le4, me_cons, me_nil, List.length_map, List.length_cons, List.length_nil, ne_eq, not_false_eq_true, not_true_eq_false, decide_eq_true_eq, ht, kit_di]
        exact q
/-- a right ratio -/
structure Rat (a b : Int) : Prop where
  low : Low a b
  lo : -(10 ^ 60) < a
  hi : a < 10 ^ 60
  bo : b < 10 ^ 60
def ratB (y z : V) : Bool := match y, z with
  | .int a, .int b => isI (.int a) && isI (.int b) && decide (0 < b) && decide (Int.gcd a b = 1)
  | _, _ => false
/-- whether x is a ratio -/
def RatV (x : V) (H : Hp) (b : Bool) : Prop :=
  ((∃ t, tyOf x H = some t ∧ t ≠ "tuple") ∧ b = false) ∨
  (∃ a xs, x = .ref a ∧ H a = some (.tup xs) ∧ xs.length ≠ 2 ∧ b = false) ∨
  (∃ a y z, x = .ref a ∧ H a = some (.tup [y, z]) ∧ (∃ t, tyOf y H = some t) ∧ (∃ t, tyOf z H = some t) ∧ b = ratB y z)
def sp_is_ratio : Sp := fun vs H Q _ => ∃ x b, vs = [x] ∧ RatV x H b ∧ Q (.bl b) H
theorem ok_is_ratio (T : Tx K mg) : FnOk P w K mg base CX0 2 T.f_is_ratio T.d_is_ratio p_is_ratio sp_is_ratio := by
  refine T.F_is_ratio.ok sc_is_ratio (fun vs H Q E h => ?_) (fun cdv A outer s H vs Q E hr h => ?_)
  · obtain ⟨x, b, rfl, _⟩ := h
    rfl
  · obtain ⟨x, b, rfl, hx, q⟩ := h
    refine ⟨_, (pss_cons (ps_if (PW.pt (pw_or (pt_not (pt_val (pe_callB cr_isiS (by rfl) T.z_isinstance (by decide +kernel) (pa_cons (pv 0) (pa_cons (pe_bltn (v := .ty "tuple") (by rfl) T.z_tuple (by decide +kernel) rfl) pa_nil))))) (pw_or1 (pt_cmpR op_ne (pe_callB cr_len (by rfl) T.z_len PySem.boot_len (pa_cons (pv 0) pa_nil)) pe_int (nomark _))))) (pss_one (ps_ret pe_bl)) pss_nil)
      (pss_cons (ps_asg (pv 0) (pg_tupH (n := 2) (by rfl) (pgs_cons (pg_name (i := 1) sc_is_ratio.nd rfl (by first | exact .inl rfl | exact .inr rfl)) (pgs_cons (pg_name (i := 2) sc_is_ratio.nd rfl (by first | exact .inl rfl | exact .inr rfl)) pgs_nil))))
      (pss_cons (ps_if (PW.pt (pw_or (pt_not (pt_val (pe_call (ok_is_integer T) (hr.mono (by decide)) (by rfl) T.m_is_integer T.F_is_integer.kp T.b_is_integer .nil pass0 (pa_cons (pv 1) pa_nil)))) (pw_or1 (pt_not (pt_val (pe_call (ok_is_integer T) (hr.mono (by decide)) (by rfl) T.m_is_integer T.F_is_integer.kp T.b_is_integer .nil pass0 (pa_cons (pv 2) pa_nil))))))) (pss_one (ps_ret pe_bl)) pss_nil)
      (pss_one (ps_ret (pe_and (pe_cmpR op_gt (pv 2) pe_int (nomark _)) (pe_one (pe_cmpR op_eq (pe_callBfun cr_gcd (by rfl) T.i_gcd (pa_cons (pv 1) (pa_cons (pv 2) pa_nil))) pe_int (nomark _))))))))), ?_⟩
    rw [st_is_ratio]
    rcases hx with ⟨⟨t, ht, hn⟩, rfl⟩ | ⟨a, xs, rfl, ha, hl, rfl⟩ | ⟨a, y, z, rfl, ha, hy, hz, rfl⟩
    · rcases ty_cases ht with rfl | ⟨b, rfl⟩ | ⟨i, rfl⟩ | ⟨x, rfl⟩ | ⟨a, rfl, ht2⟩
      · simp only [ap_seq, ap_next, ap_asg, ap_gName, ap_ret, ap_retN, ap_drop, ap_ifS, ap_break, ap_cont, ap_par, ap_aug, ap_ip, ap_gSub, ap_gTup, ap_gNil, ap_gCons, ap_var, ap_c, ap_op, ap_un, ap_if, ap_test, ap_B, ap_and, ap_or, ap_not, ap_andV, ap_orV, ap_notV, ap_nil, ap_cons, ap_tup, ap_lst, ap_cb, ap_bm, ap_call, ap_chain, ap_rI, ap_rI0, ap_rU, ap_rEq, ap_rNe, ap_revT, ap_sl, ap_part, ap_noPart, ap_ixLI, ap_ixTI, ap_ixLV, ap_ixTV, ap_len, ap_setLI, ap_setLV, ap_appI, ap_appV, ap_tupL, ap_listS, ap_sumLI, ap_sumTI, ap_repLI, ap_intI, ap_intB, ap_eqTI, ap_neTI, ap_eqLI, ap_neLI, ap_isi, ap_for, ap_rng1, ap_rng2, ap_iList, ap_iTup, ap_lc, ap_yes, ap_cut, ap_gTupH, ap_fmt, ap_jsn, ap_jsc, ap_gcd, ap_isqrt, ap_ixL, tyV_l, wipe_nil, wipe_cons, upd_same, List.set_cons_zero, List.set_cons_succ, List.getElem?_cons_zero, List.getElem?_cons_succ, List.cons_append, List.nil_append, List.append_nil, Option.some.injEq, V.int.injEq, V.ref.injEq, V.bl.injEq, V.str.injEq, V.ty.injEq, Bool.not_true, Bool.not_false, HO.lst.injEq, HO.tup.injEq, reduceCtorEq, Int.reduceToNat, Int.reduceLT, Int.reduceLE, Nat.reduceAdd, Int.cast_ofNat_Int, gi_c0, gi_c1, gi_c2, gi_c3, Int.natCast_inj, map_int_inj, map_nil_iff, List.cons.injEq, exists_eq_left, exists_eq_left', exists_eq, exists_eq', exists_and_left, exists_and_right, exists_const, and_assoc, and_true, true_and, and_false, false_and, or_false, false_or, or_true, true_or, ite_true, ite_false, if_true, if_false, Bool.false_eq_true, own_cons, own_nil, le1, le2, le3, le4, me_cons, me_nil, List.length_map, List.length_cons, List.length_nil, ne_eq, not_false_eq_true, not_true_eq_false, decide_eq_true_eq, ty_non, kit_nt]
        exact q
      · simp only [ap_seq, ap_next, ap_asg, ap_gName, ap_ret, ap_retN, ap_drop, ap_ifS, ap_break, ap_cont, ap_par, ap_aug, ap_ip, ap_gSub, ap_gTup, ap_gNil, ap_gCons, ap_var, ap_c, ap_op, ap_un, ap_if, ap_test, ap_B, ap_and, ap_or, ap_not, ap_andV, ap_orV, ap_notV, ap_nil, ap_cons, ap_tup, ap_lst, ap_cb, ap_bm, ap_call, ap_chain, ap_rI, ap_rI0, ap_rU, ap_rEq, ap_rNe, ap_revT, ap_sl, ap_part, ap_noPart, ap_ixLI, ap_ixTI, ap_ixLV, ap_ixTV, ap_len, ap_setLI, ap_setLV, ap_appI, ap_appV, ap_tupL, ap_listS, ap_sumLI, ap_sumTI, ap_repLI, ap_intI, ap_intB, ap_eqTI, ap_neTI, ap_eqLI, ap_neLI, ap_isi, ap_for, ap_rng1, ap_rng2, ap_iList, ap_iTup, ap_lc, ap_yes, ap_cut, ap_gTupH, ap_fmt, ap_jsn, ap_jsc, ap_gcd, ap_isqrt, ap_ixL, tyV_l, wipe_nil, wipe_cons, upd_same, List.set_cons_zero, List.set_cons_succ, List.getElem?_cons_zero, List.getElem?_cons_succ, List.cons_append, List.nil_append, List.append_nil, Option.some.injEq, V.int.injEq, V.ref.injEq, V.bl.injEq, V.str.injEq, V.ty.injEq, Bool.not_true, Bool.not_false, HO.lst.injEq, HO.tup.injEq, reduceCtorEq, Int.reduceToNat, Int.reduceLT, Int.reduceLE, Nat.reduceAdd, Int.cast_ofNat_Int, gi_c0, gi_c1, gi_c2, gi_c3, Int.natCast_inj, map_int_inj, map_nil_iff, List.cons.injEq, exists_eq_left, exists_eq_left', exists_eq, exists_eq', exists_and_left, exists_and_right, exists_const, and_assoc, and_true, true_and, and_false, false_and, or_false, false_or, or_true, true_or, ite_true, ite_false, if_true, if_false, Bool.false_eq_true, own_cons, own_nil, le1, le2, le3, le4, me_cons, me_nil, List.length_map, List.length_cons, List.length_nil, ne_eq, not_false_eq_true, not_true_eq_false, decide_eq_true_eq, ty_bl, kit_bt]
        exact q
      · simp only [ap_seq, ap_next, ap_asg, ap_gName, ap_ret, ap_retN, ap_drop, ap_ifS, ap_break, ap_cont, ap_par, ap_aug, ap_ip, ap_gSub, ap_gTup, ap_gNil, ap_gCons, ap_var, ap_c, ap_op, ap_un, ap_if, ap_test, ap_B, ap_and, ap_or, ap_not, ap_andV, ap_orV, ap_notV, ap_nil, ap_cons, ap_tup, ap_lst, ap_cb, ap_bm, ap_call, ap_chain, ap_rI, ap_rI0, ap_rU, ap_rEq, ap_rNe, ap_revT, ap_sl, ap_part, ap_noPart, ap_ixLI, ap_ixTI, ap_ixLV, ap_ixTV, ap_len, ap_setLI, ap_setLV, ap_appI, ap_appV, ap_tupL, ap_listS, ap_sumLI, ap_sumTI, ap_repLI, ap_intI, ap_intB, ap_eqTI, ap_neTI, ap_eqLI, ap_neLI, ap_isi, ap_for, ap_rng1, ap_rng2, ap_iList, ap_iTup, ap_lc, ap_yes, ap_cut, ap_gTupH, ap_fmt, ap_jsn, ap_jsc, ap_gcd, ap_isqrt, ap_ixL, tyV_l, wipe_nil, wipe_cons, upd_same, List.set_cons_zero, List.set_cons_succ, List.getElem?_cons_zero, List.getElem?_cons_succ, List.cons_append, List.nil_append, List.append_nil, Option.some.injEq, V.int.injEq, V.ref.injEq, V.bl.injEq, V.str.injEq, V.ty.injEq, Bool.not_true, Bool.not_false, HO.lst.injEq, HO.tup.injEq, reduceCtorEq, Int.reduceToNat, Int.reduceLT, Int.reduceLE, Nat.reduceAdd, Int.cast_ofNat_Int, gi_c0, gi_c1, gi_c2, gi_c3, Int.natCast_inj, map_int_inj, map_nil_iff, List.cons.injEq, exists_eq_left, exists_eq_left', exists_eq, exists_eq', exists_and_left, exists_and_right, exists_const, and_assoc, and_true, true_and, and_false, false_and, or_false, false_or, or_true, true_or, ite_true, ite_false, if_true, if_false, Bool.false_eq_true, own_cons, own_nil, le1, le2, le3, le4, me_cons, me_nil, List.length_map, List.length_cons, List.length_nil, ne_eq, not_false_eq_true, not_true_eq_false, decide_eq_true_eq, ty_int, kit_it]
        exact q
      · simp only [ap_seq, ap_next, ap_asg, ap_gName, ap_ret, ap_retN, ap_drop, ap_ifS, ap_break, ap_cont, ap_par, ap_aug, ap_ip, ap_gSub, ap_gTup, ap_gNil, ap_gCons, ap_var, ap_c, ap_op, ap_un, ap_if, ap_test, ap_B, ap_and, ap_or, ap_not, ap_andV, ap_orV, ap_notV, ap_nil, ap_cons, ap_tup, ap_lst, ap_cb, ap_bm, ap_call, ap_chain, ap_rI, ap_rI0, ap_rU, ap_rEq, ap_rNe, ap_revT, ap_sl, ap_part, ap_noPart, ap_ixLI, ap_ixTI, ap_ixLV, ap_ixTV, ap_len, ap_setLI, ap_setLV, ap_appI, ap_appV, ap_tupL, ap_listS, ap_sumLI, ap_sumTI, ap_repLI, ap_intI, ap_intB, ap_eqTI, ap_neTI, ap_eqLI, ap_neLI, ap_isi, ap_for, ap_rng1, ap_rng2, ap_iList, ap_iTup, ap_lc, ap_yes, ap_cut, ap_gTupH, ap_fmt, ap_jsn, ap_jsc, ap_gcd, ap_isqrt, ap_ixL, tyV_l, wipe_nil, wipe_cons, upd_same, List.set_cons_zero, List.set_cons_succ, List.getElem?_cons_zero, List.getElem?_cons_succ, List.cons_append, List.nil_append, List.append_nil, Option.some.injEq, V.int.injEq, V.ref.injEq, V.bl.injEq, V.str.injEq, V.ty.injEq, Bool.not_true, Bool.not_false, HO.lst.injEq, HO.tup.injEq, reduceCtorEq, Int.reduceToNat, Int.reduceLT, Int.reduceLE, Nat.reduceAdd, Int.cast_ofNat_Int, gi_c0, gi_c1, gi_c2, gi_c3, Int.natCast_inj, map_int_inj, map_nil_iff, List.cons.injEq, exists_eq_left, exists_eq_left', exists_eq, exists_eq', exists_and_left, exists_and_right, exists_const, and_assoc, and_true, true_and, and_false, false_and, or_false, false_or, or_true, true_or, ite_true, ite_false, if_true, if_false, Bool.false_eq_true, own_cons, own_nil, le1, le2, le3, le4, me_cons, me_nil, List.length_map, List.length_cons, List.length_nil, ne_eq, not_false_eq_true, not_true_eq_false, decide_eq_true_eq, ty_str, kit_st]
        exact q
      · rcases ht2 with rfl | rfl | rfl
        · simp only [ap_seq, ap_next, ap_asg, ap_gName, ap_ret, ap_retN, ap_drop, ap_ifS, ap_break, ap_cont, ap_par, ap_aug, ap_ip, ap_gSub, ap_gTup, ap_gNil, ap_gCons, ap_var, ap_c, ap_op, ap_un, ap_if, ap_test, ap_B, ap_and, ap_or, ap_not, ap_andV, ap_orV, ap_notV, ap_nil, ap_cons, ap_tup, ap_lst, ap_cb, ap_bm, ap_call, ap_chain, ap_rI, ap_rI0, ap_rU, ap_rEq, ap_rNe, ap_revT, ap_sl, ap_part, ap_noPart, ap_ixLI, ap_ixTI, ap_ixLV, ap_ixTV, ap_len, ap_setLI, ap_setLV, ap_appI, ap_appV, ap_tupL, ap_listS, ap_sumLI, ap_sumTI, ap_repLI, ap_intI, ap_intB, ap_eqTI, ap_neTI, ap_eqLI, ap_neLI, ap_isi, ap_for, ap_rng1, ap_rng2, ap_iList, ap_iTup, ap_lc, ap_yes, ap_cut, ap_gTupH, ap_fmt, ap_jsn, ap_jsc, ap_gcd, ap_isqrt, ap_ixL, tyV_l, wipe_nil, wipe_cons, upd_same, List.set_cons_zero, List.set_cons_succ, List.getElem?_cons_zero, List.getElem?_cons_succ, List.cons_append, List.nil_append, List.append_nil, Option.some.injEq, V.int.injEq, V.ref.injEq, V.bl.injEq, V.str.injEq, V.ty.injEq, Bool.not_true, Bool.not_false, HO.lst.injEq, HO.tup.injEq, reduceCtorEq, Int.reduceToNat, Int.reduceLT, Int.reduceLE, Nat.reduceAdd, Int.cast_ofNat_Int, gi_c0, gi_c1, gi_c2, gi_c3, Int.natCast_inj, map_int_inj, map_nil_iff, List.cons.injEq, exists_eq_left, exists_eq_left', exists_eq, exists_eq', exists_and_left, exists_and_right, exists_const, and_assoc, and_true, true_and, and_false, false_and, or_false, false_or, or_true, true_or, ite_true, ite_false, if_true, if_false, Bool.false_eq_true, own_cons, own_nil, le1, le2, le3, le4, me_cons, me_nil, List.length_map, List.length_cons, List.length_nil, ne_eq, not_false_eq_true, not_true_eq_false, decide_eq_true_eq, ht, kit_lt]
          exact q
        · exact absurd rfl hn
        · simp only [ap_seq, ap_next, ap_asg, ap_gName, ap_ret, ap_retN, ap_drop, ap_ifS, ap_break, ap_cont, ap_par, ap_aug, ap_ip, ap_gSub, ap_gTup, ap_gNil, ap_gCons, ap_var, ap_c, ap_op, ap_un, ap_if, ap_test, ap_B, ap_and, ap_or, ap_not, ap_andV, ap_orV, ap_notV, ap_nil, ap_cons, ap_tup, ap_lst, ap_cb, ap_bm, ap_call, ap_chain, ap_rI, ap_rI0, ap_rU, ap_rEq, ap_rNe, ap_revT, ap_sl, ap_part, ap_noPart, ap_ixLI, ap_ixTI, ap_ixLV, ap_ixTV, ap_len, ap_setLI, ap_setLV, ap_appI, ap_appV, ap_tupL, ap_listS, ap_sumLI, ap_sumTI, ap_repLI, ap_intI, ap_intB, ap_eqTI, ap_neTI, ap_eqLI, ap_neLI, ap_isi, ap_for, ap_rng1, ap_rng2, ap_iList, ap_iTup, ap_lc, ap_yes, ap_cut, ap_gTupH, ap_fmt, ap_jsn, ap_jsc, ap_gcd, ap_isqrt, ap_ixL, tyV_l, wipe_nil, wipe_cons, upd_same, List.set_cons_zero, List.set_cons_succ, List.getElem?_cons_zero, List.getElem?_cons_succ, List.cons_append, List.nil_append, List.append_nil, Option.some.injEq, V.int.injEq, V.ref.injEq, V.bl.injEq, V.str.injEq, V.ty.injEq, Bool.not_true, Bool.not_false, HO.lst.injEq, HO.tup.injEq, reduceCtorEq, Int.reduceToNat, Int.reduceLT, Int.reduceLE, Nat.reduceAdd, Int.cast_ofNat_Int, gi_c0, gi_c1, gi_c2, gi_c3, Int.natCast_inj, map_int_inj, map_nil_iff, List.cons.injEq, exists_eq_left, exists_eq_left', exists_eq, exists_eq', exists_and_left, exists_and_right, exists_const, and_assoc, and_true, true_and, and_false, false_and, or_false, false_or, or_true, true_or, ite_true, ite_false, if_true, if_false, Bool.false_eq_true, own_cons, own_nil, le1, le2, le3, le4, me_cons, me_nil, List.length_map, List.length_cons, List.length_nil, ne_eq, not_false_eq_true, not_true_eq_false, decide_eq_true_eq, ht, kit_dt]
          exact q
    · have ht := ty_tup ha
      simp only [ap_seq, ap_next, ap_asg, ap_gName, ap_ret, ap_retN, ap_drop, ap_ifS, ap_break, ap_cont, ap_par, ap_aug, ap_ip, ap_gSub, ap_gTup, ap_gNil, ap_gCons, ap_var, ap_c, ap_op, ap_un, ap_if, ap_test, ap_B, ap_and, ap_or, ap_not, ap_andV, ap_orV, ap_notV, ap_nil, ap_cons, ap_tup, ap_lst, ap_cb, ap_bm, ap_call, ap_chain, ap_rI, ap_rI0, ap_rU, ap_rEq, ap_rNe, ap_revT, ap_sl, ap_part, ap_noPart, ap_ixLI, ap_ixTI, ap_ixLV, ap_ixTV, ap_len, ap_setLI, ap_setLV, ap_appI, ap_appV, ap_tupL, ap_listS, ap_sumLI, ap_sumTI, ap_repLI, ap_intI, ap_intB, ap_eqTI, ap_neTI, ap_eqLI, ap_neLI, ap_isi, ap_for, ap_rng1, ap_rng2, ap_iList, ap_iTup, ap_lc, ap_yes, ap_cut, ap_gTupH, ap_fmt, ap_jsn, ap_jsc, ap_gcd, ap_isqrt, ap_ixL, tyV_l, wipe_nil, wipe_cons, upd_same, List.set_cons_zero, List.set_cons_succ, List.getElem?_cons_zero, List.getElem?_cons_succ, List.cons_append, List.nil_append, List.append_nil, Option.some.injEq, V.int.injEq, V.ref.injEq, V.bl.injEq, V.str.injEq, V.ty.injEq, Bool.not_true, Bool.not_false, HO.lst.injEq, HO.tup.injEq, reduceCtorEq, Int.reduceToNat, Int.reduceLT, Int.reduceLE, Nat.reduceAdd, Int.cast_ofNat_Int, gi_c0, gi_c1, gi_c2, gi_c3, Int.natCast_inj, map_int_inj, map_nil_iff, List.cons.injEq, exists_eq_left, exists_eq_left', exists_eq, exists_eq', exists_and_left, exists_and_right, exists_const, and_assoc, and_true, true_and, and_false, false_and, or_false, false_or, or_true, true_or, ite_true, ite_false, if_true, if_false, Bool.false_eq_true, own_cons, own_nil, le1, le2, le3, le4, me_cons, me_nil, List.length_map, List.length_cons, List.length_nil, ne_eq, not_false_eq_true, not_true_eq_false, decide_eq_true_eq, ht, ha, kit_tt]
      exact ⟨rfl, iteC (fun _ => q) fun c => absurd c (by simp; omega)⟩
    · have ht := ty_tup ha
      simp only [ap_seq, ap_next, ap_asg, ap_gName, ap_ret, ap_retN, ap_drop, ap_ifS, ap_break, ap_cont, ap_par, ap_aug, ap_ip, ap_gSub, ap_gTup, ap_gNil, ap_gCons, ap_var, ap_c, ap_op, ap_un, ap_if, ap_test, ap_B, ap_and, ap_or, ap_not, ap_andV, ap_orV, ap_notV, ap_nil, ap_cons, ap_tup, ap_lst, ap_cb, ap_bm, ap_call, ap_chain, ap_rI, ap_rI0, ap_rU, ap_rEq, ap_rNe, ap_revT, ap_sl, ap_part, ap_noPart, ap_ixLI, ap_ixTI, ap_ixLV, ap_ixTV, ap_len, ap_setLI, ap_setLV, ap_appI, ap_appV, ap_tupL, ap_listS, ap_sumLI, ap_sumTI, ap_repLI, ap_intI, ap_intB, ap_eqTI, ap_neTI, ap_eqLI, ap_neLI, ap_isi, ap_for, ap_rng1, ap_rng2, ap_iList, ap_iTup, ap_lc, ap_yes, ap_cut, ap_gTupH, ap_fmt, ap_jsn, ap_jsc, ap_gcd, ap_isqrt, ap_ixL, tyV_l, wipe_nil, wipe_cons, upd_same, List.set_cons_zero, List.set_cons_succ, List.getElem?_cons_zero, List.getElem?_cons_succ, List.cons_append, List.nil_append, List.append_nil, Option.some.injEq, V.int.injEq, V.ref.injEq, V.bl.injEq, V.str.injEq, V.ty.injEq, Bool.not_true, Bool.not_false, HO.lst.injEq, HO.tup.injEq, reduceCtorEq, Int.reduceToNat, Int.reduceLT, Int.reduceLE, Nat.reduceAdd, Int.cast_ofNat_Int, gi_c0, gi_c1, gi_c2, gi_c3, Int.natCast_inj, map_int_inj, map_nil_iff, List.cons.injEq, exists_eq_left, exists_eq_left', exists_eq, exists_eq', exists_and_left, exists_and_right, exists_const, and_assoc, and_true, true_and, and_false, false_and, or_false, false_or, or_true, true_or, ite_true, ite_false, if_true, if_false, Bool.false_eq_true, own_cons, own_nil, le1, le2, le3, le4, me_cons, me_nil, List.length_map, List.length_cons, List.length_nil, ne_eq, not_false_eq_true, not_true_eq_false, decide_eq_true_eq, ht, ha, kit_tt]
      refine ⟨rfl, iteC (fun c => absurd c (by simp)) fun _ => ?_⟩
      refine ⟨y, rfl, hy, _, rfl, ?_⟩
      cases ey : isI y with
      | false =>
        have : ratB y z = false := by
          cases y <;> cases z <;> simp_all [ratB]
        rw [this] at q
        exact q
      | true =>
        refine iteC (fun c => absurd c (by decide)) fun _ => ?_
        refine ⟨z, rfl, hz, _, rfl, ?_⟩
        cases ez : isI z with
        | false =>
          have : ratB y z = false := by
            cases y <;> cases z <;> simp_all [ratB]
          rw [this] at q
          exact q
        | true =>
          refine iteC (fun c => absurd c (by decide)) fun _ => ?_
          obtain ⟨i, rfl⟩ : ∃ i, y = .int i := by
            cases y <;> first | exact ⟨_, rfl⟩ | cases ey
          obtain ⟨j, rfl⟩ : ∃ i, z = .int i := by
            cases z <;> first | exact ⟨_, rfl⟩ | cases ez
          have e : ratB (.int i) (.int j) = (decide (0 < j) && decide (Int.gcd i j = 1)) := by
            show (isI (.int i) && isI (.int j) && decide (0 < j) && decide (Int.gcd i j = 1)) = _
            rw [ey, ez]
            rfl
          rw [e] at q
          refine ⟨j, rfl, iteC (fun c => ?_) (fun c => ?_)⟩
          · rw [decide_eq_true c, Bool.true_and] at q
            refine ⟨i, rfl, j, rfl, rfl, ?_⟩
            have : decide (((i.natAbs.gcd j.natAbs : Nat) : Int) = 1) = decide (Int.gcd i j = 1) := decide_eq_decide.mpr (by
              show ((i.natAbs.gcd j.natAbs : Nat) : Int) = 1 ↔ i.natAbs.gcd j.natAbs = 1
              omega)
            rw [this]
            exact q
          · rw [decide_eq_false c, Bool.false_and] at q
            exact q
theorem Rat.v {a b : Int} (r : Rat a b) {p : Addr} {H : Hp} (h : H p = some (TI [a, b])) : RatV (.ref p) H true := by
  refine .inr (.inr ⟨p, .int a, .int b, rfl, h, ⟨_, rfl⟩, ⟨_, rfl⟩, ?_⟩)
  have h1 := r.lo
  have h2 := r.hi
  have h3 := r.bo
  have h4 := r.low.pos
  show true = (decide (-(10 ^ 60) < a ∧ a < 10 ^ 60) && decide (-(10 ^ 60) < b ∧ b < 10 ^ 60) && decide (0 < b) && decide (Int.gcd a b = 1))
  rw [decide_eq_true ⟨h1, h2⟩, decide_eq_true (by omega), decide_eq_true h4, decide_eq_true r.low.gcd]
  rfl
def sp_need_ratio : Sp := fun vs H Q _ => ∃ p, vs = [.ref p] ∧ RatV (.ref p) H true ∧ Q .non H
theorem ok_need_ratio (T : Tx K mg) : FnOk P w K mg base CX0 3 T.f_need_ratio T.d_need_ratio p_need_ratio sp_need_ratio := by
  refine T.F_need_ratio.ok sc_need_ratio (fun vs H Q E h => ?_) (fun cdv A outer s H vs Q E hr h => ?_)
  · obtain ⟨p, rfl, _⟩ := h
    rfl
  · obtain ⟨p, rfl, h, q⟩ := h
    refine ⟨_, (pss_one (ps_if (pt_not (pt_val (pe_call (ok_is_ratio T) (hr.mono (by decide)) (by rfl) T.m_is_ratio T.F_is_ratio.kp T.b_is_ratio .nil pass0 (pa_cons (pv 0) pa_nil)))) (pss_one ps_never) pss_nil)), ?_⟩
    rw [st_need_ratio]
    simp only [ap_seq, ap_next, ap_asg, ap_gName, ap_ret, ap_retN, ap_drop, ap_ifS, ap_break, ap_cont, ap_par, ap_aug, ap_ip, ap_gSub, ap_gTup, ap_gNil, ap_gCons, ap_var, ap_c, ap_op, ap_un, ap_if, ap_test, ap_B, ap_and, ap_or, ap_not, ap_andV, ap_orV, ap_notV, ap_nil, ap_cons, ap_tup, ap_lst, ap_cb, ap_bm, ap_call, ap_chain, ap_rI, ap_rI0, ap_rU, ap_rEq, ap_rNe, ap_revT, ap_sl, ap_part, ap_noPart, ap_ixLI, ap_ixTI, ap_ixLV, ap_ixTV, ap_len, ap_setLI, ap_setLV, ap_appI, ap_appV, ap_tupL, ap_listS, ap_sumLI, ap_sumTI, ap_repLI, ap_intI, ap_intB, ap_eqTI, ap_neTI, ap_eqLI, ap_neLI, ap_isi, ap_for, ap_rng1, ap_rng2, ap_iList, ap_iTup, ap_lc, ap_yes, ap_cut, ap_gTupH, ap_fmt, ap_jsn, ap_jsc, ap_gcd, ap_isqrt, ap_ixL, tyV_l, wipe_nil, wipe_cons, upd_same, List.set_cons_zero, List.set_cons_succ, List.getElem?_cons_zero, List.getElem?_cons_succ, List.cons_append, List.nil_append, List.append_nil, Option.some.injEq, V.int.injEq, V.ref.injEq, V.bl.injEq, V.str.injEq, V.ty.injEq, Bool.not_true, Bool.not_false, HO.lst.injEq, HO.tup.injEq, reduceCtorEq, Int.reduceToNat, Int.reduceLT, Int.reduceLE, Nat.reduceAdd, Int.cast_ofNat_Int, gi_c0, gi_c1, gi_c2, gi_c3, Int.natCast_inj, map_int_inj, map_nil_iff, List.cons.injEq, exists_eq_left, exists_eq_left', exists_eq, exists_eq', exists_and_left, exists_and_right, exists_const, and_assoc, and_true, true_and, and_false, false_and, or_false, false_or, or_true, true_or, ite_true, ite_false, if_true, if_false, Bool.false_eq_true, own_cons, own_nil, le1, le2, le3, le4, me_cons, me_nil, List.length_map, List.length_cons, List.length_nil, ne_eq, not_false_eq_true, not_true_eq_false, decide_eq_true_eq]
    refine ⟨_, true, rfl, h, true, rfl, ?_⟩
    exact q
theorem gcd_le {t b : Int} {B : Int} (hb : b ≠ 0) (h : -B < b ∧ b < B) : (0 : Int) < ((t.natAbs.gcd b.natAbs : Nat) : Int) ∧ ((t.natAbs.gcd b.natAbs : Nat) : Int) < B := by
  have h1 : 0 < t.natAbs.gcd b.natAbs := Nat.gcd_pos_of_pos_right _ (by omega)
  have h2 : t.natAbs.gcd b.natAbs ≤ b.natAbs := Nat.gcd_le_right _ (by omega)
  omega
def sp_reduced : Sp := fun vs H Q _ => ∃ (t b : Int), vs = [.int t, .int b] ∧ b ≠ 0 ∧ -(10 ^ 200) < b ∧ b < 10 ^ 200 ∧
  ∀ H' r, Same H H' → H r = none → H' r = some (TI [rt t b, rb t b]) → Q (.ref r) H'
theorem ok_reduced (T : Tx K mg) : FnOk P w K mg base CX0 1 T.f_reduced T.d_reduced p_reduced sp_reduced := by
  refine T.F_reduced.ok sc_reduced (fun vs H Q E h => ?_) (fun cdv A outer s H vs Q E hr h => ?_)
  · obtain ⟨t, b, rfl, _⟩ := h
    rfl
  · obtain ⟨t, b, rfl, hb, h1, h2, q⟩ := h
    refine ⟨_, (pss_cons (ps_set (i := 2) sc_reduced.nd rfl (Or.inl rfl) (pe_callBfun cr_gcd (by rfl) T.i_gcd (pa_cons (pv 0) (pa_cons (pv 1) pa_nil))))
      (pss_cons (ps_if (pt_cmpR op_lt (pv 1) pe_int (nomark _)) (pss_one (ps_set (i := 2) sc_reduced.nd rfl (Or.inl rfl) (pe_un un_neg (pv 2)))) pss_nil)
      (pss_one (ps_ret (pe_tup (pa_cons (pe_op op_fdivG (pv 0) (pv 2)) (pa_cons (pe_op op_fdivG (pv 1) (pv 2)) pa_nil))))))), ?_⟩
    rw [st_reduced]
    have g := gcd_le (t := t) hb ⟨h1, h2⟩
    simp only [ap_seq, ap_next, ap_asg, ap_gName, ap_ret, ap_retN, ap_drop, ap_ifS, ap_break, ap_cont, ap_par, ap_aug, ap_ip, ap_gSub, ap_gTup, ap_gNil, ap_gCons, ap_var, ap_c, ap_op, ap_un, ap_if, ap_test, ap_B, ap_and, ap_or, ap_not, ap_andV, ap_orV, ap_notV, ap_nil, ap_cons, ap_tup, ap_lst, ap_cb, ap_bm, ap_call, ap_chain, ap_rI, ap_rI0, ap_rU, ap_rEq, ap_rNe, ap_revT, ap_sl, ap_part, ap_noPart, ap_ixLI, ap_ixTI, ap_ixLV, ap_ixTV, ap_len, ap_setLI, ap_setLV, ap_appI, ap_appV, ap_tupL, ap_listS, ap_sumLI, ap_sumTI, ap_repLI, ap_intI, ap_intB, ap_eqTI, ap_neTI, ap_eqLI, ap_neLI, ap_isi, ap_for, ap_rng1, ap_rng2, ap_iList, ap_iTup, ap_lc, ap_yes, ap_cut, ap_gTupH, ap_fmt, ap_jsn, ap_jsc, ap_gcd, ap_isqrt, ap_ixL, tyV_l, wipe_nil, wipe_cons, upd_same, List.set_cons_zero, List.set_cons_succ, List.getElem?_cons_zero, List.getElem?_cons_succ, List.cons_append, List.nil_append, List.append_nil, Option.some.injEq, V.int.injEq, V.ref.injEq, V.bl.injEq, V.str.injEq, V.ty.injEq, Bool.not_true, Bool.not_false, HO.lst.injEq, HO.tup.injEq, reduceCtorEq, Int.reduceToNat, Int.reduceLT, Int.reduceLE, Nat.reduceAdd, Int.cast_ofNat_Int, gi_c0, gi_c1, gi_c2, gi_c3, Int.natCast_inj, map_int_inj, map_nil_iff, List.cons.injEq, exists_eq_left, exists_eq_left', exists_eq, exists_eq', exists_and_left, exists_and_right, exists_const, and_assoc, and_true, true_and, and_false, false_and, or_false, false_or, or_true, true_or, ite_true, ite_false, if_true, if_false, Bool.false_eq_true, own_cons, own_nil, le1, le2, le3, le4, me_cons, me_nil, List.length_map, List.length_cons, List.length_nil, ne_eq, not_false_eq_true, not_true_eq_false, decide_eq_true_eq, CFd]
    refine iteC (fun c => ?_) (fun c => ?_)
    · refine ⟨by omega, by omega, by omega, by omega, by omega, by omega, by decide, fun p np => ?_⟩
      have e1 := fdiv_rtn (t := t) (b := b) (by omega)
      have e2 := fdiv_rbn (t := t) (b := b) (by omega)
      refine q _ p (same_upd np) np ?_
      rw [upd_same, ← e1, ← e2]
      rfl
    · refine ⟨by omega, by omega, by omega, by omega, by omega, by omega, by decide, fun p np => ?_⟩
      have e1 := fdiv_rt (t := t) (b := b) (by omega)
      have e2 := fdiv_rb (t := t) (b := b) (by omega)
      refine q _ p (same_upd np) np ?_
      rw [upd_same, ← e1, ← e2]
      rfl
def sp_lowest : Sp := fun vs H Q _ => ∃ (t b : Int), vs = [.int t, .int b] ∧ b ≠ 0 ∧ -(10 ^ 60) < t ∧ t < 10 ^ 60 ∧ -(10 ^ 60) < b ∧ b < 10 ^ 60 ∧
  ∀ H' r, Same H H' → H r = none → H' r = some (TI [rt t b, rb t b]) → Q (.ref r) H'
theorem ok_lowest (T : Tx K mg) : FnOk P w K mg base CX0 2 T.f_lowest T.d_lowest p_lowest sp_lowest := by
  refine T.F_lowest.ok sc_lowest (fun vs H Q E h => ?_) (fun cdv A outer s H vs Q E hr h => ?_)
  · obtain ⟨t, b, rfl, _⟩ := h
    rfl
  · obtain ⟨t, b, rfl, hb, h1, h2, h3, h4, q⟩ := h
    refine ⟨_, (pss_cons (ps_if (pt_not (pt_val (pe_call (ok_is_integer T) (hr.mono (by decide)) (by rfl) T.m_is_integer T.F_is_integer.kp T.b_is_integer .nil pass0 (pa_cons (pv 0) pa_nil)))) (pss_one ps_never) pss_nil)
      (pss_cons (ps_if (PW.pt (pw_or (pt_not (pt_val (pe_call (ok_is_integer T) (hr.mono (by decide)) (by rfl) T.m_is_integer T.F_is_integer.kp T.b_is_integer .nil pass0 (pa_cons (pv 1) pa_nil)))) (pw_or1 (pt_cmpR op_eq (pv 1) pe_int (nomark _))))) (pss_one ps_never) pss_nil)
      (pss_one (ps_ret (pe_call (ok_reduced T) (hr.mono (by decide)) (by rfl) T.m_reduced T.F_reduced.kp T.b_reduced .nil pass0 (pa_cons (pv 0) (pa_cons (pv 1) pa_nil))))))), ?_⟩
    rw [st_lowest]
    simp only [ap_seq, ap_next, ap_asg, ap_gName, ap_ret, ap_retN, ap_drop, ap_ifS, ap_break, ap_cont, ap_par, ap_aug, ap_ip, ap_gSub, ap_gTup, ap_gNil, ap_gCons, ap_var, ap_c, ap_op, ap_un, ap_if, ap_test, ap_B, ap_and, ap_or, ap_not, ap_andV, ap_orV, ap_notV, ap_nil, ap_cons, ap_tup, ap_lst, ap_cb, ap_bm, ap_call, ap_chain, ap_rI, ap_rI0, ap_rU, ap_rEq, ap_rNe, ap_revT, ap_sl, ap_part, ap_noPart, ap_ixLI, ap_ixTI, ap_ixLV, ap_ixTV, ap_len, ap_setLI, ap_setLV, ap_appI, ap_appV, ap_tupL, ap_listS, ap_sumLI, ap_sumTI, ap_repLI, ap_intI, ap_intB, ap_eqTI, ap_neTI, ap_eqLI, ap_neLI, ap_isi, ap_for, ap_rng1, ap_rng2, ap_iList, ap_iTup, ap_lc, ap_yes, ap_cut, ap_gTupH, ap_fmt, ap_jsn, ap_jsc, ap_gcd, ap_isqrt, ap_ixL, tyV_l, wipe_nil, wipe_cons, upd_same, List.set_cons_zero, List.set_cons_succ, List.getElem?_cons_zero, List.getElem?_cons_succ, List.cons_append, List.nil_append, List.append_nil, Option.some.injEq, V.int.injEq, V.ref.injEq, V.bl.injEq, V.str.injEq, V.ty.injEq, Bool.not_true, Bool.not_false, HO.lst.injEq, HO.tup.injEq, reduceCtorEq, Int.reduceToNat, Int.reduceLT, Int.reduceLE, Nat.reduceAdd, Int.cast_ofNat_Int, gi_c0, gi_c1, gi_c2, gi_c3, Int.natCast_inj, map_int_inj, map_nil_iff, List.cons.injEq, exists_eq_left, exists_eq_left', exists_eq, exists_eq', exists_and_left, exists_and_right, exists_const, and_assoc, and_true, true_and, and_false, false_and, or_false, false_or, or_true, true_or, ite_true, ite_false, if_true, if_false, Bool.false_eq_true, own_cons, own_nil, le1, le2, le3, le4, me_cons, me_nil, List.length_map, List.length_cons, List.length_nil, ne_eq, not_false_eq_true, not_true_eq_false, decide_eq_true_eq, sp_is_integer, ty_int]
    have e1 : isI (.int t) = true := decide_eq_true ⟨h1, h2⟩
    have e2 : isI (.int b) = true := decide_eq_true ⟨h3, h4⟩
    simp only [ap_seq, ap_next, ap_asg, ap_gName, ap_ret, ap_retN, ap_drop, ap_ifS, ap_break, ap_cont, ap_par, ap_aug, ap_ip, ap_gSub, ap_gTup, ap_gNil, ap_gCons, ap_var, ap_c, ap_op, ap_un, ap_if, ap_test, ap_B, ap_and, ap_or, ap_not, ap_andV, ap_orV, ap_notV, ap_nil, ap_cons, ap_tup, ap_lst, ap_cb, ap_bm, ap_call, ap_chain, ap_rI, ap_rI0, ap_rU, ap_rEq, ap_rNe, ap_revT, ap_sl, ap_part, ap_noPart, ap_ixLI, ap_ixTI, ap_ixLV, ap_ixTV, ap_len, ap_setLI, ap_setLV, ap_appI, ap_appV, ap_tupL, ap_listS, ap_sumLI, ap_sumTI, ap_repLI, ap_intI, ap_intB, ap_eqTI, ap_neTI, ap_eqLI, ap_neLI, ap_isi, ap_for, ap_rng1, ap_rng2, ap_iList, ap_iTup, ap_lc, ap_yes, ap_cut, ap_gTupH, ap_fmt, ap_jsn, ap_jsc, ap_gcd, ap_isqrt, ap_ixL, tyV_l, wipe_nil, wipe_cons, upd_same, List.set_cons_zero, List.set_cons_succ, List.getElem?_cons_zero, List.getElem?_cons_succ, List.cons_append, List.nil_append, List.append_nil, Option.some.injEq, V.int.injEq, V.ref.injEq, V.bl.injEq, V.str.injEq, V.ty.injEq, Bool.not_true, Bool.not_false, HO.lst.injEq, HO.tup.injEq, reduceCtorEq, Int.reduceToNat, Int.reduceLT, Int.reduceLE, Nat.reduceAdd, Int.cast_ofNat_Int, gi_c0, gi_c1, gi_c2, gi_c3, Int.natCast_inj, map_int_inj, map_nil_iff, List.cons.injEq, exists_eq_left, exists_eq_left', exists_eq, exists_eq', exists_and_left, exists_and_right, exists_const, and_assoc, and_true, true_and, and_false, false_and, or_false, false_or, or_true, true_or, ite_true, ite_false, if_true, if_false, Bool.false_eq_true, own_cons, own_nil, le1, le2, le3, le4, me_cons, me_nil, List.length_map, List.length_cons, List.length_nil, ne_eq, not_false_eq_true, not_true_eq_false, decide_eq_true_eq, e1, e2]
    refine ⟨rfl, ?_⟩
    rw [if_neg hb]
    exact ⟨t, b, rfl, hb, by omega, by omega, q⟩
theorem mulb {a d : Int} (ha : -(10 ^ 60) < a ∧ a < 10 ^ 60) (hd : -(10 ^ 60) < d ∧ d < 10 ^ 60) : -(10 ^ 120) < a * d ∧ a * d < 10 ^ 120 := by
  have h := Nat.mul_lt_mul'' (show a.natAbs < 10 ^ 60 by omega) (show d.natAbs < 10 ^ 60 by omega)
  rw [← Int.natAbs_mul] at h
  generalize a * d = x at h ⊢
  omega
end
end My

namespace My
open PySem PySem.Spec PyProof.Rows L2 Pr M00
section
variable {P : Program} {w : World} {K : PySem.W.Frag} {mg : Str → Option Value} {base : Heap}
def sp_plus : Sp := fun vs H Q _ => ∃ (p q : Addr) (a b c d : Int), vs = [.ref p, .ref q] ∧ H p = some (TI [a, b]) ∧ Rat a b ∧ H q = some (TI [c, d]) ∧ Rat c d ∧
  ∀ H' r, Same H H' → H r = none → H' r = some (TI [rt (a * d + c * b) (b * d), rb (a * d + c * b) (b * d)]) → Q (.ref r) H'
theorem ok_plus (T : Tx K mg) : FnOk P w K mg base CX0 4 T.f_plus T.d_plus p_plus sp_plus := by
  refine T.F_plus.ok sc_plus (fun vs H Q E h => ?_) (fun cdv A outer s H vs Q E hr h => ?_)
  · obtain ⟨p, q, a, b, c, d, rfl, _⟩ := h
    rfl
  · obtain ⟨p, q, a, b, c, d, rfl, hp, rp, hq, rq, k⟩ := h
    refine ⟨_, (pss_cons (ps_expr (pe_call (ok_need_ratio T) (hr.mono (by decide)) (by rfl) T.m_need_ratio T.F_need_ratio.kp T.b_need_ratio .nil pass0 (pa_cons (pv 0) pa_nil)))
      (pss_cons (ps_expr (pe_call (ok_need_ratio T) (hr.mono (by decide)) (by rfl) T.m_need_ratio T.F_need_ratio.kp T.b_need_ratio .nil pass0 (pa_cons (pv 1) pa_nil)))
      (pss_one (ps_ret (pe_call (ok_reduced T) (hr.mono (by decide)) (by rfl) T.m_reduced T.F_reduced.kp T.b_reduced .nil pass0 (pa_cons (pe_op op_add (pe_op op_mulB (pe_ix ix_TI (pv 0) pe_int (fun _ _ => rfl)) (pe_ix ix_TI (pv 1) pe_int (fun _ _ => rfl))) (pe_op op_mulB (pe_ix ix_TI (pv 1) pe_int (fun _ _ => rfl)) (pe_ix ix_TI (pv 0) pe_int (fun _ _ => rfl)))) (pa_cons (pe_op op_mulB (pe_ix ix_TI (pv 0) pe_int (fun _ _ => rfl)) (pe_ix ix_TI (pv 1) pe_int (fun _ _ => rfl))) pa_nil))))))), ?_⟩
    rw [st_plus]
    simp only [ap_seq, ap_next, ap_asg, ap_gName, ap_ret, ap_retN, ap_drop, ap_ifS, ap_break, ap_cont, ap_par, ap_aug, ap_ip, ap_gSub, ap_gTup, ap_gNil, ap_gCons, ap_var, ap_c, ap_op, ap_un, ap_if, ap_test, ap_B, ap_and, ap_or, ap_not, ap_andV, ap_orV, ap_notV, ap_nil, ap_cons, ap_tup, ap_lst, ap_cb, ap_bm, ap_call, ap_chain, ap_rI, ap_rI0, ap_rU, ap_rEq, ap_rNe, ap_revT, ap_sl, ap_part, ap_noPart, ap_ixLI, ap_ixTI, ap_ixLV, ap_ixTV, ap_len, ap_setLI, ap_setLV, ap_appI, ap_appV, ap_tupL, ap_listS, ap_sumLI, ap_sumTI, ap_repLI, ap_intI, ap_intB, ap_eqTI, ap_neTI, ap_eqLI, ap_neLI, ap_isi, ap_for, ap_rng1, ap_rng2, ap_iList, ap_iTup, ap_lc, ap_yes, ap_cut, ap_gTupH, ap_fmt, ap_jsn, ap_jsc, ap_gcd, ap_isqrt, ap_ixL, tyV_l, wipe_nil, wipe_cons, upd_same, List.set_cons_zero, List.set_cons_succ, List.getElem?_cons_zero, List.getElem?_cons_succ, List.cons_append, List.nil_append, List.append_nil, Option.some.injEq, V.int.injEq, V.ref.injEq, V.bl.injEq, V.str.injEq, V.ty.injEq, Bool.not_true, Bool.not_false, HO.lst.injEq, HO.tup.injEq, reduceCtorEq, Int.reduceToNat, Int.reduceLT, Int.reduceLE, Nat.reduceAdd, Int.cast_ofNat_Int, gi_c0, gi_c1, gi_c2, gi_c3, Int.natCast_inj, map_int_inj, map_nil_iff, List.cons.injEq, exists_eq_left, exists_eq_left', exists_eq, exists_eq', exists_and_left, exists_and_right, exists_const, and_assoc, and_true, true_and, and_false, false_and, or_false, false_or, or_true, true_or, ite_true, ite_false, if_true, if_false, Bool.false_eq_true, own_cons, own_nil, le1, le2, le3, le4, me_cons, me_nil, List.length_map, List.length_cons, List.length_nil, ne_eq, not_false_eq_true, not_true_eq_false, decide_eq_true_eq, sp_need_ratio, hp, hq, sp_reduced, CMu]
    have v1 := rp.v hp
    have v2 := rq.v hq
    have a1 := rp.lo
    have a2 := rp.hi
    have a3 := rp.bo
    have a4 := rp.low.pos
    have c1 := rq.lo
    have c2 := rq.hi
    have c3 := rq.bo
    have c4 := rq.low.pos
    have m1 := mulb (a := b) (d := d) (by omega) (by omega)
    have m2 := Int.mul_pos a4 c4
    refine ⟨v1, v2, by omega, by omega, by omega, by omega, by omega, by omega, by omega, by omega, by omega, by omega, by omega, by omega, ?_⟩
    exact ⟨by omega, by omega, by omega, k⟩
def sp_minus : Sp := fun vs H Q _ => ∃ (p q : Addr) (a b c d : Int), vs = [.ref p, .ref q] ∧ H p = some (TI [a, b]) ∧ Rat a b ∧ H q = some (TI [c, d]) ∧ Rat c d ∧
  ∀ H' r, Same H H' → H r = none → H' r = some (TI [rt (a * d - c * b) (b * d), rb (a * d - c * b) (b * d)]) → Q (.ref r) H'
theorem ok_minus (T : Tx K mg) : FnOk P w K mg base CX0 4 T.f_minus T.d_minus p_minus sp_minus := by
  refine T.F_minus.ok sc_minus (fun vs H Q E h => ?_) (fun cdv A outer s H vs Q E hr h => ?_)
  · obtain ⟨p, q, a, b, c, d, rfl, _⟩ := h
    rfl
  · obtain ⟨p, q, a, b, c, d, rfl, hp, rp, hq, rq, k⟩ := h
    refine ⟨_, (pss_cons (ps_expr (pe_call (ok_need_ratio T) (hr.mono (by decide)) (by rfl) T.m_need_ratio T.F_need_ratio.kp T.b_need_ratio .nil pass0 (pa_cons (pv 0) pa_nil)))
      (pss_cons (ps_expr (pe_call (ok_need_ratio T) (hr.mono (by decide)) (by rfl) T.m_need_ratio T.F_need_ratio.kp T.b_need_ratio .nil pass0 (pa_cons (pv 1) pa_nil)))
      (pss_one (ps_ret (pe_call (ok_reduced T) (hr.mono (by decide)) (by rfl) T.m_reduced T.F_reduced.kp T.b_reduced .nil pass0 (pa_cons (pe_op op_sub (pe_op op_mulB (pe_ix ix_TI (pv 0) pe_int (fun _ _ => rfl)) (pe_ix ix_TI (pv 1) pe_int (fun _ _ => rfl))) (pe_op op_mulB (pe_ix ix_TI (pv 1) pe_int (fun _ _ => rfl)) (pe_ix ix_TI (pv 0) pe_int (fun _ _ => rfl)))) (pa_cons (pe_op op_mulB (pe_ix ix_TI (pv 0) pe_int (fun _ _ => rfl)) (pe_ix ix_TI (pv 1) pe_int (fun _ _ => rfl))) pa_nil))))))), ?_⟩
    rw [st_minus]
    simp only [ap_seq, ap_next, ap_asg, ap_gName, ap_ret, ap_retN, ap_drop, ap_ifS, ap_break, ap_cont, ap_par, ap_aug, ap_ip, ap_gSub, ap_gTup, ap_gNil, ap_gCons, ap_var, ap_c, ap_op, ap_un, ap_if, ap_test, ap_B, ap_and, ap_or, ap_not, ap_andV, ap_orV, ap_notV, ap_nil, ap_cons, ap_tup, ap_lst, ap_cb, ap_bm, ap_call, ap_chain, ap_rI, ap_rI0, ap_rU, ap_rEq, ap_rNe, ap_revT, ap_sl, ap_part, ap_noPart, ap_ixLI, ap_ixTI, ap_ixLV, ap_ixTV, ap_len, ap_setLI, ap_setLV, ap_appI, ap_appV, ap_tupL, ap_listS, ap_sumLI, ap_sumTI, ap_repLI, ap_intI, ap_intB, ap_eqTI, ap_neTI, ap_eqLI, ap_neLI, ap_isi, ap_for, ap_rng1, ap_rng2, ap_iList, ap_iTup, ap_lc, ap_yes, ap_cut, ap_gTupH, ap_fmt, ap_jsn, ap_jsc, ap_gcd, ap_isqrt, ap_ixL, tyV_l, wipe_nil, wipe_cons, upd_same, List.set_cons_zero, List.set_cons_succ, List.getElem?_cons_zero, List.getElem?_cons_succ, List.cons_append, List.nil_append, List.append_nil, Option.some.injEq, V.int.injEq, V.ref.injEq, V.bl.injEq, V.str.injEq, V.ty.injEq, Bool.not_true, Bool.not_false, HO.lst.injEq, HO.tup.injEq, reduceCtorEq, Int.reduceToNat, Int.reduceLT, Int.reduceLE, Nat.reduceAdd, Int.cast_ofNat_Int, gi_c0, gi_c1, gi_c2, gi_c3, Int.natCast_inj, map_int_inj, map_nil_iff, List.cons.injEq, exists_eq_left, exists_eq_left', exists_eq, exists_eq', exists_and_left, exists_and_right, exists_const, and_assoc, and_true, true_and, and_false, false_and, or_false, false_or, or_true, true_or, ite_true, ite_false, if_true, if_false, Bool.false_eq_true, own_cons, own_nil, le1, le2, le3, le4, me_cons, me_nil, List.length_map, List.length_cons, List.length_nil, ne_eq, not_false_eq_true, not_true_eq_false, decide_eq_true_eq, sp_need_ratio, hp, hq, sp_reduced, CMu]
    have v1 := rp.v hp
    have v2 := rq.v hq
    have a1 := rp.lo
    have a2 := rp.hi
    have a3 := rp.bo
    have a4 := rp.low.pos
    have c1 := rq.lo
    have c2 := rq.hi
    have c3 := rq.bo
    have c4 := rq.low.pos
    have m1 := mulb (a := b) (d := d) (by omega) (by omega)
    have m2 := Int.mul_pos a4 c4
    refine ⟨v1, v2, by omega, by omega, by omega, by omega, by omega, by omega, by omega, by omega, by omega, by omega, by omega, by omega, ?_⟩
    exact ⟨by omega, by omega, by omega, k⟩
def sp_times : Sp := fun vs H Q _ => ∃ (p q : Addr) (a b c d : Int), vs = [.ref p, .ref q] ∧ H p = some (TI [a, b]) ∧ Rat a b ∧ H q = some (TI [c, d]) ∧ Rat c d ∧
  ∀ H' r, Same H H' → H r = none → H' r = some (TI [rt (a * c) (b * d), rb (a * c) (b * d)]) → Q (.ref r) H'
theorem ok_times (T : Tx K mg) : FnOk P w K mg base CX0 4 T.f_times T.d_times p_times sp_times := by
  refine T.F_times.ok sc_times (fun vs H Q E h => ?_) (fun cdv A outer s H vs Q E hr h => ?_)
  · obtain ⟨p, q, a, b, c, d, rfl, _⟩ := h
    rfl
  · obtain ⟨p, q, a, b, c, d, rfl, hp, rp, hq, rq, k⟩ := h
    refine ⟨_, (pss_cons (ps_expr (pe_call (ok_need_ratio T) (hr.mono (by decide)) (by rfl) T.m_need_ratio T.F_need_ratio.kp T.b_need_ratio .nil pass0 (pa_cons (pv 0) pa_nil)))
      (pss_cons (ps_expr (pe_call (ok_need_ratio T) (hr.mono (by decide)) (by rfl) T.m_need_ratio T.F_need_ratio.kp T.b_need_ratio .nil pass0 (pa_cons (pv 1) pa_nil)))
      (pss_one (ps_ret (pe_call (ok_reduced T) (hr.mono (by decide)) (by rfl) T.m_reduced T.F_reduced.kp T.b_reduced .nil pass0 (pa_cons (pe_op op_mulB (pe_ix ix_TI (pv 0) pe_int (fun _ _ => rfl)) (pe_ix ix_TI (pv 1) pe_int (fun _ _ => rfl))) (pa_cons (pe_op op_mulB (pe_ix ix_TI (pv 0) pe_int (fun _ _ => rfl)) (pe_ix ix_TI (pv 1) pe_int (fun _ _ => rfl))) pa_nil))))))), ?_⟩
    rw [st_times]
    simp only [ap_seq, ap_next, ap_asg, ap_gName, ap_ret, ap_retN, ap_drop, ap_ifS, ap_break, ap_cont, ap_par, ap_aug, ap_ip, ap_gSub, ap_gTup, ap_gNil, ap_gCons, ap_var, ap_c, ap_op, ap_un, ap_if, ap_test, ap_B, ap_and, ap_or, ap_not, ap_andV, ap_orV, ap_notV, ap_nil, ap_cons, ap_tup, ap_lst, ap_cb, ap_bm, ap_call, ap_chain, ap_rI, ap_rI0, ap_rU, ap_rEq, ap_rNe, ap_revT, ap_sl, ap_part, ap_noPart, ap_ixLI, ap_ixTI, ap_ixLV, ap_ixTV, ap_len, ap_setLI, ap_setLV, ap_appI, ap_appV, ap_tupL, ap_listS, ap_sumLI, ap_sumTI, ap_repLI, ap_intI, ap_intB, ap_eqTI, ap_neTI, ap_eqLI, ap_neLI, ap_isi, ap_for, ap_rng1, ap_rng2, ap_iList, ap_iTup, ap_lc, ap_yes, ap_cut, ap_gTupH, ap_fmt, ap_jsn, ap_jsc, ap_gcd, ap_isqrt, ap_ixL, tyV_l, wipe_nil, wipe_cons, upd_same, List.set_cons_zero, List.set_cons_succ, List.getElem?_cons_zero, List.getElem?_cons_succ, List.cons_append, List.nil_append, List.append_nil, Option.some.injEq, V.int.injEq, V.ref.injEq, V.bl.injEq, V.str.injEq, V.ty.injEq, Bool.not_true, Bool.not_false, HO.lst.injEq, HO.tup.injEq, reduceCtorEq, Int.reduceToNat, Int.reduceLT, Int.reduceLE, Nat.reduceAdd, Int.cast_ofNat_Int, gi_c0, gi_c1, gi_c2, gi_c3, Int.natCast_inj, map_int_inj, map_nil_iff, List.cons.injEq, exists_eq_left, exists_eq_left', exists_eq, exists_eq', exists_and_left, exists_and_right, exists_const, and_assoc, and_true, true_and, and_false, false_and, or_false, false_or, or_true, true_or, ite_true, ite_false, if_true, if_false, Bool.false_eq_true, own_cons, own_nil, le1, le2, le3, le4, me_cons, me_nil, List.length_map, List.length_cons, List.length_nil, ne_eq, not_false_eq_true, not_true_eq_false, decide_eq_true_eq, sp_need_ratio, hp, hq, sp_reduced, CMu]
    have v1 := rp.v hp
    have v2 := rq.v hq
    have a1 := rp.lo
    have a2 := rp.hi
    have a3 := rp.bo
    have a4 := rp.low.pos
    have c1 := rq.lo
    have c2 := rq.hi
    have c3 := rq.bo
    have c4 := rq.low.pos
    have m1 := mulb (a := b) (d := d) (by omega) (by omega)
    have m2 := Int.mul_pos a4 c4
    refine ⟨v1, v2, by omega, by omega, by omega, by omega, by omega, by omega, by omega, by omega, ?_⟩
    exact ⟨by omega, by omega, by omega, k⟩
def sp_over : Sp := fun vs H Q _ => ∃ (p q : Addr) (a b c d : Int), vs = [.ref p, .ref q] ∧ H p = some (TI [a, b]) ∧ Rat a b ∧ H q = some (TI [c, d]) ∧ Rat c d ∧ c ≠ 0 ∧
  ∀ H' r, Same H H' → H r = none → H' r = some (TI [rt (a * d) (b * c), rb (a * d) (b * c)]) → Q (.ref r) H'
theorem ok_over (T : Tx K mg) : FnOk P w K mg base CX0 4 T.f_over T.d_over p_over sp_over := by
  refine T.F_over.ok sc_over (fun vs H Q E h => ?_) (fun cdv A outer s H vs Q E hr h => ?_)
  · obtain ⟨p, q, a, b, c, d, rfl, _⟩ := h
    rfl
  · obtain ⟨p, q, a, b, c, d, rfl, hp, rp, hq, rq, h0, k⟩ := h
    refine ⟨_, (pss_cons (ps_expr (pe_call (ok_need_ratio T) (hr.mono (by decide)) (by rfl) T.m_need_ratio T.F_need_ratio.kp T.b_need_ratio .nil pass0 (pa_cons (pv 0) pa_nil)))
      (pss_cons (ps_expr (pe_call (ok_need_ratio T) (hr.mono (by decide)) (by rfl) T.m_need_ratio T.F_need_ratio.kp T.b_need_ratio .nil pass0 (pa_cons (pv 1) pa_nil)))
      (pss_cons (ps_if (pt_cmpR op_eq (pe_ix ix_TI (pv 1) pe_int (fun _ _ => rfl)) pe_int (nomark _)) (pss_one ps_never) pss_nil)
      (pss_one (ps_ret (pe_call (ok_reduced T) (hr.mono (by decide)) (by rfl) T.m_reduced T.F_reduced.kp T.b_reduced .nil pass0 (pa_cons (pe_op op_mulB (pe_ix ix_TI (pv 0) pe_int (fun _ _ => rfl)) (pe_ix ix_TI (pv 1) pe_int (fun _ _ => rfl))) (pa_cons (pe_op op_mulB (pe_ix ix_TI (pv 0) pe_int (fun _ _ => rfl)) (pe_ix ix_TI (pv 1) pe_int (fun _ _ => rfl))) pa_nil)))))))), ?_⟩
    rw [st_over]
    simp only [ap_seq, ap_next, ap_asg, ap_gName, ap_ret, ap_retN, ap_drop, ap_ifS, ap_break, ap_cont, ap_par, ap_aug, ap_ip, ap_gSub, ap_gTup, ap_gNil, ap_gCons, ap_var, ap_c, ap_op, ap_un, ap_if, ap_test, ap_B, ap_and, ap_or, ap_not, ap_andV, ap_orV, ap_notV, ap_nil, ap_cons, ap_tup, ap_lst, ap_cb, ap_bm, ap_call, ap_chain, ap_rI, ap_rI0, ap_rU, ap_rEq, ap_rNe, ap_revT, ap_sl, ap_part, ap_noPart, ap_ixLI, ap_ixTI, ap_ixLV, ap_ixTV, ap_len, ap_setLI, ap_setLV, ap_appI, ap_appV, ap_tupL, ap_listS, ap_sumLI, ap_sumTI, ap_repLI, ap_intI, ap_intB, ap_eqTI, ap_neTI, ap_eqLI, ap_neLI, ap_isi, ap_for, ap_rng1, ap_rng2, ap_iList, ap_iTup, ap_lc, ap_yes, ap_cut, ap_gTupH, ap_fmt, ap_jsn, ap_jsc, ap_gcd, ap_isqrt, ap_ixL, tyV_l, wipe_nil, wipe_cons, upd_same, List.set_cons_zero, List.set_cons_succ, List.getElem?_cons_zero, List.getElem?_cons_succ, List.cons_append, List.nil_append, List.append_nil, Option.some.injEq, V.int.injEq, V.ref.injEq, V.bl.injEq, V.str.injEq, V.ty.injEq, Bool.not_true, Bool.not_false, HO.lst.injEq, HO.tup.injEq, reduceCtorEq, Int.reduceToNat, Int.reduceLT, Int.reduceLE, Nat.reduceAdd, Int.cast_ofNat_Int, gi_c0, gi_c1, gi_c2, gi_c3, Int.natCast_inj, map_int_inj, map_nil_iff, List.cons.injEq, exists_eq_left, exists_eq_left', exists_eq, exists_eq', exists_and_left, exists_and_right, exists_const, and_assoc, and_true, true_and, and_false, false_and, or_false, false_or, or_true, true_or, ite_true, ite_false, if_true, if_false, Bool.false_eq_true, own_cons, own_nil, le1, le2, le3, le4, me_cons, me_nil, List.length_map, List.length_cons, List.length_nil, ne_eq, not_false_eq_true, not_true_eq_false, decide_eq_true_eq, sp_need_ratio, hp, hq, sp_reduced, CMu]
    have v1 := rp.v hp
    have v2 := rq.v hq
    have a1 := rp.lo
    have a2 := rp.hi
    have a3 := rp.bo
    have a4 := rp.low.pos
    have c1 := rq.lo
    have c2 := rq.hi
    have c3 := rq.bo
    have c4 := rq.low.pos
    have m1 := mulb (a := b) (d := d) (by omega) (by omega)
    have m2 := Int.mul_pos a4 c4
    have m3 := mulb (a := b) (d := c) (by omega) (by omega)
    have m4 : b * c ≠ 0 := Int.mul_ne_zero (by omega) h0
    refine ⟨v1, v2, rfl, ?_⟩
    rw [if_neg h0]
    refine ⟨by omega, by omega, by omega, by omega, by omega, by omega, by omega, by omega, ?_⟩
    exact ⟨m4, by omega, by omega, k⟩
def cmpI (x y : Int) : Int := if x < y then -1 else if y < x then 1 else 0
def sp_compare : Sp := fun vs H Q _ => ∃ (p q : Addr) (a b c d : Int), vs = [.ref p, .ref q] ∧ H p = some (TI [a, b]) ∧ Rat a b ∧ H q = some (TI [c, d]) ∧ Rat c d ∧ Q (.int (cmpI (a * d) (c * b))) H
theorem ok_compare (T : Tx K mg) : FnOk P w K mg base CX0 4 T.f_compare T.d_compare p_compare sp_compare := by
  refine T.F_compare.ok sc_compare (fun vs H Q E h => ?_) (fun cdv A outer s H vs Q E hr h => ?_)
  · obtain ⟨p, q, a, b, c, d, rfl, _⟩ := h
    rfl
  · obtain ⟨p, q, a, b, c, d, rfl, hp, rp, hq, rq, k⟩ := h
    refine ⟨_, (pss_cons (ps_expr (pe_call (ok_need_ratio T) (hr.mono (by decide)) (by rfl) T.m_need_ratio T.F_need_ratio.kp T.b_need_ratio .nil pass0 (pa_cons (pv 0) pa_nil)))
      (pss_cons (ps_expr (pe_call (ok_need_ratio T) (hr.mono (by decide)) (by rfl) T.m_need_ratio T.F_need_ratio.kp T.b_need_ratio .nil pass0 (pa_cons (pv 1) pa_nil)))
      (pss_cons (ps_par (i := 2) (j := 3) (by rfl) sc_compare.nd rfl rfl (by decide) rfl rfl (pa_cons (pe_op op_mulB (pe_ix ix_TI (pv 0) pe_int (fun _ _ => rfl)) (pe_ix ix_TI (pv 1) pe_int (fun _ _ => rfl))) (pa_cons (pe_op op_mulB (pe_ix ix_TI (pv 1) pe_int (fun _ _ => rfl)) (pe_ix ix_TI (pv 0) pe_int (fun _ _ => rfl))) pa_nil)) (by rfl))
      (pss_cons (ps_if (pt_cmpR op_lt (pv 2) (pv 3) (nomark _)) (pss_one (ps_ret (pe_un un_neg pe_int))) pss_nil)
      (pss_cons (ps_if (pt_cmpR op_gt (pv 2) (pv 3) (nomark _)) (pss_one (ps_ret pe_int)) pss_nil)
      (pss_one (ps_ret pe_int))))))), ?_⟩
    rw [st_compare]
    simp only [ap_seq, ap_next, ap_asg, ap_gName, ap_ret, ap_retN, ap_drop, ap_ifS, ap_break, ap_cont, ap_par, ap_aug, ap_ip, ap_gSub, ap_gTup, ap_gNil, ap_gCons, ap_var, ap_c, ap_op, ap_un, ap_if, ap_test, ap_B, ap_and, ap_or, ap_not, ap_andV, ap_orV, ap_notV, ap_nil, ap_cons, ap_tup, ap_lst, ap_cb, ap_bm, ap_call, ap_chain, ap_rI, ap_rI0, ap_rU, ap_rEq, ap_rNe, ap_revT, ap_sl, ap_part, ap_noPart, ap_ixLI, ap_ixTI, ap_ixLV, ap_ixTV, ap_len, ap_setLI, ap_setLV, ap_appI, ap_appV, ap_tupL, ap_listS, ap_sumLI, ap_sumTI, ap_repLI, ap_intI, ap_intB, ap_eqTI, ap_neTI, ap_eqLI, ap_neLI, ap_isi, ap_for, ap_rng1, ap_rng2, ap_iList, ap_iTup, ap_lc, ap_yes, ap_cut, ap_gTupH, ap_fmt, ap_jsn, ap_jsc, ap_gcd, ap_isqrt, ap_ixL, tyV_l, wipe_nil, wipe_cons, upd_same, List.set_cons_zero, List.set_cons_succ, List.getElem?_cons_zero, List.getElem?_cons_succ, List.cons_append, List.nil_append, List.append_nil, Option.some.injEq, V.int.injEq, V.ref.injEq, V.bl.injEq, V.str.injEq, V.ty.injEq, Bool.not_true, Bool.not_false, HO.lst.injEq, HO.tup.injEq, reduceCtorEq, Int.reduceToNat, Int.reduceLT, Int.reduceLE, Nat.reduceAdd, Int.cast_ofNat_Int, gi_c0, gi_c1, gi_c2, gi_c3, Int.natCast_inj, map_int_inj, map_nil_iff, List.cons.injEq, exists_eq_left, exists_eq_left', exists_eq, exists_eq', exists_and_left, exists_and_right, exists_const, and_assoc, and_true, true_and, and_false, false_and, or_false, false_or, or_true, true_or, ite_true, ite_false, if_true, if_false, Bool.false_eq_true, own_cons, own_nil, le1, le2, le3, le4, me_cons, me_nil, List.length_map, List.length_cons, List.length_nil, ne_eq, not_false_eq_true, not_true_eq_false, decide_eq_true_eq, sp_need_ratio, hp, hq, CMu]
    have a1 := rp.lo
    have a2 := rp.hi
    have a3 := rp.bo
    have a4 := rp.low.pos
    have c1 := rq.lo
    have c2 := rq.hi
    have c3 := rq.bo
    have c4 := rq.low.pos
    refine ⟨rp.v hp, rq.v hq, by omega, by omega, by omega, by omega, by omega, by omega, by omega, by omega, ?_⟩
    unfold cmpI at k
    refine iteC (fun h => ?_) (fun h => ?_)
    · rw [if_pos h] at k
      exact k
    · rw [if_neg h] at k
      refine iteC (fun h2 => ?_) (fun h2 => ?_)
      · rw [if_pos h2] at k
        exact k
      · rw [if_neg h2] at k
        exact k
/-- the root of a / b, or none -/
def RootV (H : Hp) (x : V) (a b : Int) : Prop := (x = .non ∧ ∀ r s : Int, 0 ≤ r → 0 ≤ s → r * r = a → s * s = b → False) ∨ (∃ p r s, x = .ref p ∧ H p = some (TI [r, s]) ∧ 0 ≤ r ∧ 0 ≤ s ∧ r * r = a ∧ s * s = b)
theorem root_is {n r : Int} (hn : 0 ≤ n) (hr : 0 ≤ r) (e : r * r = n) : ((Float64.isqrt n.toNat : Nat) : Int) = r := by
  obtain ⟨m, rfl⟩ := Int.eq_ofNat_of_zero_le hn
  obtain ⟨k, rfl⟩ := Int.eq_ofNat_of_zero_le hr
  rw [Int.toNat_natCast]
  have e' : k * k = m := by exact_mod_cast e
  have h2 : M00.IsRt m k := ⟨by omega, by
    have : (k + 1) * (k + 1) = k * k + 2 * k + 1 := by grind
    omega⟩
  rw [isRt_uniq (isqrt_ok m) h2]
theorem isqrt_le {n : Int} (h0 : 0 ≤ n) : 0 ≤ ((Float64.isqrt n.toNat : Nat) : Int) ∧ ((Float64.isqrt n.toNat : Nat) : Int) ≤ n := by
  obtain ⟨m, rfl⟩ := Int.eq_ofNat_of_zero_le h0
  rw [Int.toNat_natCast]
  have h := (isqrt_ok m).1
  have : Float64.isqrt m ≤ m := Nat.le_trans (by
    rcases Nat.eq_zero_or_pos (Float64.isqrt m) with e | e
    · rw [e]
      exact Nat.le_refl _
    · exact Nat.le_mul_of_pos_left _ e) h
  omega
def sp_root_of : Sp := fun vs H Q _ => ∃ (p : Addr) (a b : Int), vs = [.ref p] ∧ H p = some (TI [a, b]) ∧ Rat a b ∧ ∀ H' x, Same H H' → RootV H' x a b → Q x H'
theorem ok_root_of (T : Tx K mg) : FnOk P w K mg base CX0 4 T.f_root_of T.d_root_of p_root_of sp_root_of := by
  refine T.F_root_of.ok sc_root_of (fun vs H Q E h => ?_) (fun cdv A outer s H vs Q E hr h => ?_)
  · obtain ⟨p, a, b, rfl, _⟩ := h
    rfl
  · obtain ⟨p, a, b, rfl, hp, rp, k⟩ := h
    refine ⟨_, (pss_cons (ps_expr (pe_call (ok_need_ratio T) (hr.mono (by decide)) (by rfl) T.m_need_ratio T.F_need_ratio.kp T.b_need_ratio .nil pass0 (pa_cons (pv 0) pa_nil)))
      (pss_cons (ps_asg (pv 0) (pg_tupH (n := 2) (by rfl) (pgs_cons (pg_name (i := 1) sc_root_of.nd rfl (by first | exact .inl rfl | exact .inr rfl)) (pgs_cons (pg_name (i := 2) sc_root_of.nd rfl (by first | exact .inl rfl | exact .inr rfl)) pgs_nil))))
      (pss_cons (ps_if (pt_cmpR op_lt (pv 1) pe_int (nomark _)) (pss_one (ps_ret pe_non)) pss_nil)
      (pss_cons (ps_par (i := 3) (j := 4) (by rfl) sc_root_of.nd rfl rfl (by decide) rfl rfl (pa_cons (pe_callBfun cr_isqrt (by rfl) T.i_isqrt (pa_cons (pv 1) pa_nil)) (pa_cons (pe_callBfun cr_isqrt (by rfl) T.i_isqrt (pa_cons (pv 2) pa_nil)) pa_nil)) (by rfl))
      (pss_cons (ps_if (PW.pt (pw_or (pt_cmpR op_ne (pe_op op_mulB (pv 3) (pv 3)) (pv 1) (nomark _)) (pw_or1 (pt_cmpR op_ne (pe_op op_mulB (pv 4) (pv 4)) (pv 2) (nomark _))))) (pss_one (ps_ret pe_non)) pss_nil)
      (pss_one (ps_ret (pe_tup (pa_cons (pv 3) (pa_cons (pv 4) pa_nil)))))))))), ?_⟩
    rw [st_root_of]
    simp only [ap_seq, ap_next, ap_asg, ap_gName, ap_ret, ap_retN, ap_drop, ap_ifS, ap_break, ap_cont, ap_par, ap_aug, ap_ip, ap_gSub, ap_gTup, ap_gNil, ap_gCons, ap_var, ap_c, ap_op, ap_un, ap_if, ap_test, ap_B, ap_and, ap_or, ap_not, ap_andV, ap_orV, ap_notV, ap_nil, ap_cons, ap_tup, ap_lst, ap_cb, ap_bm, ap_call, ap_chain, ap_rI, ap_rI0, ap_rU, ap_rEq, ap_rNe, ap_revT, ap_sl, ap_part, ap_noPart, ap_ixLI, ap_ixTI, ap_ixLV, ap_ixTV, ap_len, ap_setLI, ap_setLV, ap_appI, ap_appV, ap_tupL, ap_listS, ap_sumLI, ap_sumTI, ap_repLI, ap_intI, ap_intB, ap_eqTI, ap_neTI, ap_eqLI, ap_neLI, ap_isi, ap_for, ap_rng1, ap_rng2, ap_iList, ap_iTup, ap_lc, ap_yes, ap_cut, ap_gTupH, ap_fmt, ap_jsn, ap_jsc, ap_gcd, ap_isqrt, ap_ixL, tyV_l, wipe_nil, wipe_cons, upd_same, List.set_cons_zero, List.set_cons_succ, List.getElem?_cons_zero, List.getElem?_cons_succ, List.cons_append, List.nil_append, List.append_nil, Option.some.injEq, V.int.injEq, V.ref.injEq, V.bl.injEq, V.str.injEq, V.ty.injEq, Bool.not_true, Bool.not_false, HO.lst.injEq, HO.tup.injEq, reduceCtorEq, Int.reduceToNat, Int.reduceLT, Int.reduceLE, Nat.reduceAdd, Int.cast_ofNat_Int, gi_c0, gi_c1, gi_c2, gi_c3, Int.natCast_inj, map_int_inj, map_nil_iff, List.cons.injEq, exists_eq_left, exists_eq_left', exists_eq, exists_eq', exists_and_left, exists_and_right, exists_const, and_assoc, and_true, true_and, and_false, false_and, or_false, false_or, or_true, true_or, ite_true, ite_false, if_true, if_false, Bool.false_eq_true, own_cons, own_nil, le1, le2, le3, le4, me_cons, me_nil, List.length_map, List.length_cons, List.length_nil, ne_eq, not_false_eq_true, not_true_eq_false, decide_eq_true_eq, sp_need_ratio, hp, CMu]
    have a1 := rp.lo
    have a2 := rp.hi
    have a3 := rp.bo
    have a4 := rp.low.pos
    refine ⟨rp.v hp, iteC (fun c => ?_) (fun c => ?_)⟩
    · exact k H _ (Same.refl H) (.inl ⟨rfl, fun r s hr hs e1 e2 => by
        have := sq0 r
        omega⟩)
    · have l1 := isqrt_le (n := a) (by omega)
      have l2 := isqrt_le (n := b) (by omega)
      refine ⟨by omega, by omega, by omega, by omega, by omega, by omega, by omega, by omega, rfl, ?_⟩
      refine iteC (fun c2 => ?_) (fun c2 => ?_)
      · refine k H _ (Same.refl H) (.inl ⟨rfl, fun r s hr hs e1 e2 => ?_⟩)
        rw [root_is (by omega) hr e1] at c2
        simp [e1] at c2
      · refine ⟨by omega, by omega, by omega, by omega, rfl, ?_⟩
        refine iteC (fun c3 => ?_) (fun c3 => ?_)
        · refine k H _ (Same.refl H) (.inl ⟨rfl, fun r s hr hs e1 e2 => ?_⟩)
          rw [root_is (by omega) hs e2] at c3
          simp [e2] at c3
        · refine ⟨by decide, fun t nt => k _ _ (same_upd nt) (.inr ⟨t, _, _, rfl, upd_same, l1.1, l2.1, ?_, ?_⟩)⟩
          · simpa using c2
          · simpa using c3
end
end My

namespace My
open PySem PySem.Spec PyProof.Rows L2 Pr M00
section
variable {P : Program} {w : World} {K : PySem.W.Frag} {mg : Str → Option Value} {base : Heap}
/-! ### the law's own defs -/
/-- a lot of dice at d -/
def Dc (H : Hp) (d : Addr) : Prop := ∃ l m c : Int, H d = some (LI [l, m, c])
/-- all but d stands -/
def Exc (d : Addr) (H H' : Hp) : Prop := ∀ q o, q ≠ d → H q = some o → H' q = some o
theorem Exc.refl {d : Addr} {H : Hp} : Exc d H H := fun _ _ _ h => h
theorem Exc.trans {d : Addr} {H H1 H2 : Hp} (a : Exc d H H1) (b : Exc d H1 H2) : Exc d H H2 := fun q o n h => b q o n (a q o n h)
theorem Exc.same {d : Addr} {H H1 : Hp} (a : Same H H1) : Exc d H H1 := fun q o _ h => a q o h
theorem Exc.upd {d : Addr} {H : Hp} {o : HO} : Exc d H (upd H d o) := fun q o n h => by
  rw [upd_ne n]
  exact h
theorem Dc.same {d : Addr} {H H' : Hp} (a : Same H H') (h : Dc H d) : Dc H' d := by
  obtain ⟨l, m, c, h⟩ := h
  exact ⟨l, m, c, a _ _ h⟩
def sp_law_dice (K : PySem.W.Frag) : Sp := fun vs H Q _ => ∃ (a : Addr) (ns : List Int) (i : Nat), vs = [.ref a, .int i] ∧ SqL K H a (ns.map V.int) ∧ i < 64 ∧
  ∀ H' p, Same H H' → H p = none → Dc H' p → Q (.ref p) H'
theorem ok_law_dice (T : Tx K mg) : FnOk P w K mg base CX0 1 T.f_law_dice T.d_law_dice p_law_dice (sp_law_dice K) := by
  refine T.F_law_dice.ok sc_law_dice (fun vs H Q E h => ?_) (fun cdv A outer s H vs Q E hr h => ?_)
  · obtain ⟨a, ns, i, rfl, _⟩ := h
    rfl
  · obtain ⟨a, ns, i, rfl, hS, hi, q⟩ := h
    refine ⟨_, (pss_cons (ps_set (i := 2) sc_law_dice.nd rfl (Or.inl rfl) (pe_ifExp (pt_cmpR op_lt (pv 1) (pe_callB call_len_seq (by rfl) T.z_len PySem.boot_len (pa_cons (pv 0) pa_nil)) (nomark _)) (pe_callTy cr_intI (by rfl) T.z_int (by decide +kernel) (pa_cons (pe_ix ix_list (pv 0) (pv 1) (fun _ _ => rfl)) pa_nil)) (pe_op op_add (pe_op op_mul pe_int (pv 1)) pe_int)))
      (pss_cons (ps_set (i := 3) sc_law_dice.nd rfl (Or.inl rfl) (pe_op op_mod (pe_callB (call_max2 rfl) (by rfl) T.z_max (by decide +kernel) (pa_cons pe_int (pa_cons (pe_op op_sub (pe_callB call_abs (by rfl) T.z_abs (by decide +kernel) (pa_cons (pv 2) pa_nil)) (pe_op op_pow pe_int pe_int)) pa_nil))) (pe_op op_mulW (pe_op op_pow pe_int pe_int) (pe_op op_pow pe_int pe_int))))
      (pss_one (ps_ret (pe_lst (pa_cons (pv 3) (pa_cons (pe_op op_add (pe_op op_add (pe_op op_add (pe_op op_mul (pe_op op_mod (pe_callB call_abs (by rfl) T.z_abs (by decide +kernel) (pa_cons (pv 2) pa_nil)) pe_int) pe_int) (pe_op op_mul pe_int (pv 1))) (pe_op op_mul pe_int (pe_callTy cr_intB (by rfl) T.z_int (by decide +kernel) (pa_cons (pe_cmpR op_lt (pv 2) pe_int (nomark _)) pa_nil)))) pe_int) (pa_cons pe_int pa_nil)))))))), ?_⟩
    rw [st_law_dice]
    simp only [ap_seq, ap_next, ap_asg, ap_gName, ap_ret, ap_retN, ap_drop, ap_ifS, ap_break, ap_cont, ap_par, ap_aug, ap_ip, ap_gSub, ap_gTup, ap_gNil, ap_gCons, ap_var, ap_c, ap_op, ap_un, ap_if, ap_test, ap_B, ap_and, ap_or, ap_not, ap_andV, ap_orV, ap_notV, ap_nil, ap_cons, ap_tup, ap_lst, ap_cb, ap_bm, ap_call, ap_chain, ap_rI, ap_rI0, ap_rU, ap_rEq, ap_rNe, ap_revT, ap_sl, ap_part, ap_noPart, ap_ixLI, ap_ixTI, ap_ixLV, ap_ixTV, ap_len, ap_setLI, ap_setLV, ap_appI, ap_appV, ap_tupL, ap_listS, ap_sumLI, ap_sumTI, ap_repLI, ap_intI, ap_intB, ap_eqTI, ap_neTI, ap_eqLI, ap_neLI, ap_isi, ap_for, ap_rng1, ap_rng2, ap_iList, ap_iTup, ap_lc, ap_yes, ap_cut, ap_gTupH, ap_fmt, ap_jsn, ap_jsc, ap_gcd, ap_isqrt, ap_ixL, tyV_l, wipe_nil, wipe_cons, upd_same, List.set_cons_zero, List.set_cons_succ, List.getElem?_cons_zero, List.getElem?_cons_succ, List.cons_append, List.nil_append, List.append_nil, Option.some.injEq, V.int.injEq, V.ref.injEq, V.bl.injEq, V.str.injEq, V.ty.injEq, Bool.not_true, Bool.not_false, HO.lst.injEq, HO.tup.injEq, reduceCtorEq, Int.reduceToNat, Int.reduceLT, Int.reduceLE, Nat.reduceAdd, Int.cast_ofNat_Int, gi_c0, gi_c1, gi_c2, gi_c3, Int.natCast_inj, map_int_inj, map_nil_iff, List.cons.injEq, exists_eq_left, exists_eq_left', exists_eq, exists_eq', exists_and_left, exists_and_right, exists_const, and_assoc, and_true, true_and, and_false, false_and, or_false, false_or, or_true, true_or, ite_true, ite_false, if_true, if_false, Bool.false_eq_true, own_cons, own_nil, le1, le2, le3, le4, me_cons, me_nil, List.length_map, List.length_cons, List.length_nil, ne_eq, not_false_eq_true, not_true_eq_false, decide_eq_true_eq]
    refine ⟨_, .inl hS, ?_⟩
    have hl : (ns.map V.int).length = ns.length := List.length_map ..
    have c1 : CPow 10 16 := ⟨by decide, by decide, by decide⟩
    have c2 : CPow 10 60 := ⟨by decide, by decide, by decide⟩
    have c3 : CMulW ((10 : Int) ^ 60) ((10 : Int) ^ 60) := by
      show ((10 : Int) ^ 60).natAbs.log2 + ((10 : Int) ^ 60).natAbs.log2 < 1000000
      decide +kernel
    have c4 : (0 : Int) < 10 ^ 60 * 10 ^ 60 := by decide +kernel
    by_cases c : (i : Int) < ((ns.map V.int).length : Int)
    · rw [if_pos c]
      refine ⟨_, hS, _, at_gi (by omega) (by omega), _, rfl, c1, c2, c2, c3, c4, .inr (by omega), .inl (by omega), .inl (by omega), by decide, fun p np => ?_⟩
      exact q _ p (same_upd np) np ⟨_, _, _, upd_same⟩
    · rw [if_neg c]
      refine ⟨.inl (by omega), c1, c2, c2, c3, c4, .inr (by omega), .inl (by omega), .inl (by omega), by decide, fun p np => ?_⟩
      exact q _ p (same_upd np) np ⟨_, _, _, upd_same⟩
def sp_law_roll : Sp := fun vs H Q _ => ∃ (d : Addr) (t : Int), vs = [.ref d, .int t] ∧ Dc H d ∧ 0 < t ∧ t < 10 ^ 60 ∧
  ∀ H' r, Exc d H H' → Dc H' d → 0 ≤ r → r < t → Q (.int r) H'
theorem ok_law_roll (T : Tx K mg) : FnOk P w K mg base CX0 1 T.f_law_roll T.d_law_roll p_law_roll sp_law_roll := by
  refine T.F_law_roll.ok sc_law_roll (fun vs H Q E h => ?_) (fun cdv A outer s H vs Q E hr h => ?_)
  · obtain ⟨d, t, rfl, _⟩ := h
    rfl
  · obtain ⟨d, t, rfl, ⟨l, m, c, hD⟩, h0, h1, q⟩ := h
    refine ⟨_, (pss_cons (ps_if (pt_cmpR op_gt (pe_ix ix_LI (pv 0) pe_int (fun _ _ => rfl)) pe_int (nomark _)) (pss_cons (ps_set (i := 2) sc_law_roll.nd rfl (Or.inl rfl) (pe_op op_mod (pe_callTy cr_intI (by rfl) T.z_int (by decide +kernel) (pa_cons (pe_ix ix_LI (pv 0) pe_int (fun _ _ => rfl)) pa_nil)) (pv 1)))
      (pss_cons (ps_asg (pe_op op_fdivP (pe_ix ix_LI (pv 0) pe_int (fun _ _ => rfl)) (pv 1)) (pg_sub (pv 0) pe_int set_LI))
      (pss_one (ps_ret (pv 2))))) pss_nil)
      (pss_cons (ps_asg (pe_op op_add (pe_ix ix_LI (pv 0) pe_int (fun _ _ => rfl)) pe_int) (pg_sub (pv 0) pe_int set_LI))
      (pss_cons (ps_set (i := 3) sc_law_roll.nd rfl (Or.inl rfl) (pe_op op_mod (pe_callTy cr_intI (by rfl) T.z_int (by decide +kernel) (pa_cons (pe_op op_add (pe_ix ix_LI (pv 0) pe_int (fun _ _ => rfl)) (pe_op op_mul pe_int (pe_ix ix_LI (pv 0) pe_int (fun _ _ => rfl)))) pa_nil)) pe_int))
      (pss_cons (ps_set (i := 4) sc_law_roll.nd rfl (Or.inl rfl) (pe_op op_add (pe_op op_mul (pe_op op_mod (pe_callTy cr_intI (by rfl) T.z_int (by decide +kernel) (pa_cons (pe_op op_add (pe_op op_mul (pv 3) (pv 3)) (pe_op op_mul pe_int (pe_ix ix_LI (pv 0) pe_int (fun _ _ => rfl)))) pa_nil)) pe_int) pe_int) (pv 3)))
      (pss_one (ps_ret (pe_op op_mod (pe_callTy cr_intI (by rfl) T.z_int (by decide +kernel) (pa_cons (pe_op op_fdiv (pv 4) pe_int) pa_nil)) (pv 1)))))))), ?_⟩
    rw [st_law_roll]
    simp only [ap_seq, ap_next, ap_asg, ap_gName, ap_ret, ap_retN, ap_drop, ap_ifS, ap_break, ap_cont, ap_par, ap_aug, ap_ip, ap_gSub, ap_gTup, ap_gNil, ap_gCons, ap_var, ap_c, ap_op, ap_un, ap_if, ap_test, ap_B, ap_and, ap_or, ap_not, ap_andV, ap_orV, ap_notV, ap_nil, ap_cons, ap_tup, ap_lst, ap_cb, ap_bm, ap_call, ap_chain, ap_rI, ap_rI0, ap_rU, ap_rEq, ap_rNe, ap_revT, ap_sl, ap_part, ap_noPart, ap_ixLI, ap_ixTI, ap_ixLV, ap_ixTV, ap_len, ap_setLI, ap_setLV, ap_appI, ap_appV, ap_tupL, ap_listS, ap_sumLI, ap_sumTI, ap_repLI, ap_intI, ap_intB, ap_eqTI, ap_neTI, ap_eqLI, ap_neLI, ap_isi, ap_for, ap_rng1, ap_rng2, ap_iList, ap_iTup, ap_lc, ap_yes, ap_cut, ap_gTupH, ap_fmt, ap_jsn, ap_jsc, ap_gcd, ap_isqrt, ap_ixL, tyV_l, wipe_nil, wipe_cons, upd_same, List.set_cons_zero, List.set_cons_succ, List.getElem?_cons_zero, List.getElem?_cons_succ, List.cons_append, List.nil_append, List.append_nil, Option.some.injEq, V.int.injEq, V.ref.injEq, V.bl.injEq, V.str.injEq, V.ty.injEq, Bool.not_true, Bool.not_false, HO.lst.injEq, HO.tup.injEq, reduceCtorEq, Int.reduceToNat, Int.reduceLT, Int.reduceLE, Nat.reduceAdd, Int.cast_ofNat_Int, gi_c0, gi_c1, gi_c2, gi_c3, Int.natCast_inj, map_int_inj, map_nil_iff, List.cons.injEq, exists_eq_left, exists_eq_left', exists_eq, exists_eq', exists_and_left, exists_and_right, exists_const, and_assoc, and_true, true_and, and_false, false_and, or_false, false_or, or_true, true_or, ite_true, ite_false, if_true, if_false, Bool.false_eq_true, own_cons, own_nil, le1, le2, le3, le4, me_cons, me_nil, List.length_map, List.length_cons, List.length_nil, ne_eq, not_false_eq_true, not_true_eq_false, decide_eq_true_eq, hD, CDp]
    by_cases c1 : 0 < l
    · rw [if_pos c1]
      exact ⟨h0, h0, by omega, q _ _ Exc.upd ⟨_, _, _, upd_same⟩ (Int.emod_nonneg _ (by omega)) (Int.emod_lt_of_pos _ h0)⟩
    · rw [if_neg c1]
      have r1 : ∀ x : Int, CMul (x % 2305843009213691579) (x % 2305843009213691579) := fun x => .inl (by omega)
      exact ⟨.inl (by omega), r1 _, .inl (by omega), .inr (by omega), ⟨by decide, by decide⟩, h0, q _ _ Exc.upd ⟨_, _, _, upd_same⟩ (Int.emod_nonneg _ (by omega)) (Int.emod_lt_of_pos _ h0)⟩
/-- one of the ints of a list -/
def sp_law_pick : Sp := fun vs H Q _ => ∃ (d a : Addr) (ns : List Int), vs = [.ref d, .ref a] ∧ Dc H d ∧ H a = some (LI ns) ∧ a ≠ d ∧ 0 < ns.length ∧ ns.length < 1000 ∧
  ∀ H' (i : Nat), Exc d H H' → Dc H' d → i < ns.length → Q (.int (ns.getD i 0)) H'
theorem ok_law_pick (T : Tx K mg) : FnOk P w K mg base CX0 2 T.f_law_pick T.d_law_pick p_law_pick sp_law_pick := by
  refine T.F_law_pick.ok sc_law_pick (fun vs H Q E h => ?_) (fun cdv A outer s H vs Q E hr h => ?_)
  · obtain ⟨d, a, ns, rfl, _⟩ := h
    rfl
  · obtain ⟨d, a, ns, rfl, hD, ha, nad, h0, h1, q⟩ := h
    refine ⟨_, (pss_one (ps_ret (pe_ix ix_LI (pv 1) (pe_call (ok_law_roll T) (hr.mono (by decide)) (by rfl) T.m_law_roll T.F_law_roll.kp T.b_law_roll .nil pass0 (pa_cons (pv 0) (pa_cons (pe_callB cr_len (by rfl) T.z_len PySem.boot_len (pa_cons (pv 1) pa_nil)) pa_nil))) (fun _ _ => rfl)))), ?_⟩
    rw [st_law_pick]
    simp only [ap_seq, ap_next, ap_asg, ap_gName, ap_ret, ap_retN, ap_drop, ap_ifS, ap_break, ap_cont, ap_par, ap_aug, ap_ip, ap_gSub, ap_gTup, ap_gNil, ap_gCons, ap_var, ap_c, ap_op, ap_un, ap_if, ap_test, ap_B, ap_and, ap_or, ap_not, ap_andV, ap_orV, ap_notV, ap_nil, ap_cons, ap_tup, ap_lst, ap_cb, ap_bm, ap_call, ap_chain, ap_rI, ap_rI0, ap_rU, ap_rEq, ap_rNe, ap_revT, ap_sl, ap_part, ap_noPart, ap_ixLI, ap_ixTI, ap_ixLV, ap_ixTV, ap_len, ap_setLI, ap_setLV, ap_appI, ap_appV, ap_tupL, ap_listS, ap_sumLI, ap_sumTI, ap_repLI, ap_intI, ap_intB, ap_eqTI, ap_neTI, ap_eqLI, ap_neLI, ap_isi, ap_for, ap_rng1, ap_rng2, ap_iList, ap_iTup, ap_lc, ap_yes, ap_cut, ap_gTupH, ap_fmt, ap_jsn, ap_jsc, ap_gcd, ap_isqrt, ap_ixL, tyV_l, wipe_nil, wipe_cons, upd_same, List.set_cons_zero, List.set_cons_succ, List.getElem?_cons_zero, List.getElem?_cons_succ, List.cons_append, List.nil_append, List.append_nil, Option.some.injEq, V.int.injEq, V.ref.injEq, V.bl.injEq, V.str.injEq, V.ty.injEq, Bool.not_true, Bool.not_false, HO.lst.injEq, HO.tup.injEq, reduceCtorEq, Int.reduceToNat, Int.reduceLT, Int.reduceLE, Nat.reduceAdd, Int.cast_ofNat_Int, gi_c0, gi_c1, gi_c2, gi_c3, Int.natCast_inj, map_int_inj, map_nil_iff, List.cons.injEq, exists_eq_left, exists_eq_left', exists_eq, exists_eq', exists_and_left, exists_and_right, exists_const, and_assoc, and_true, true_and, and_false, false_and, or_false, false_or, or_true, true_or, ite_true, ite_false, if_true, if_false, Bool.false_eq_true, own_cons, own_nil, le1, le2, le3, le4, me_cons, me_nil, List.length_map, List.length_cons, List.length_nil, ne_eq, not_false_eq_true, not_true_eq_false, decide_eq_true_eq, sp_law_roll, ha]
    refine ⟨hD, by omega, by omega, fun H2 r ex dc r0 r1 => ?_⟩
    have ha2 := ex _ _ nad ha
    simp only [ap_seq, ap_next, ap_asg, ap_gName, ap_ret, ap_retN, ap_drop, ap_ifS, ap_break, ap_cont, ap_par, ap_aug, ap_ip, ap_gSub, ap_gTup, ap_gNil, ap_gCons, ap_var, ap_c, ap_op, ap_un, ap_if, ap_test, ap_B, ap_and, ap_or, ap_not, ap_andV, ap_orV, ap_notV, ap_nil, ap_cons, ap_tup, ap_lst, ap_cb, ap_bm, ap_call, ap_chain, ap_rI, ap_rI0, ap_rU, ap_rEq, ap_rNe, ap_revT, ap_sl, ap_part, ap_noPart, ap_ixLI, ap_ixTI, ap_ixLV, ap_ixTV, ap_len, ap_setLI, ap_setLV, ap_appI, ap_appV, ap_tupL, ap_listS, ap_sumLI, ap_sumTI, ap_repLI, ap_intI, ap_intB, ap_eqTI, ap_neTI, ap_eqLI, ap_neLI, ap_isi, ap_for, ap_rng1, ap_rng2, ap_iList, ap_iTup, ap_lc, ap_yes, ap_cut, ap_gTupH, ap_fmt, ap_jsn, ap_jsc, ap_gcd, ap_isqrt, ap_ixL, tyV_l, wipe_nil, wipe_cons, upd_same, List.set_cons_zero, List.set_cons_succ, List.getElem?_cons_zero, List.getElem?_cons_succ, List.cons_append, List.nil_append, List.append_nil, Option.some.injEq, V.int.injEq, V.ref.injEq, V.bl.injEq, V.str.injEq, V.ty.injEq, Bool.not_true, Bool.not_false, HO.lst.injEq, HO.tup.injEq, reduceCtorEq, Int.reduceToNat, Int.reduceLT, Int.reduceLE, Nat.reduceAdd, Int.cast_ofNat_Int, gi_c0, gi_c1, gi_c2, gi_c3, Int.natCast_inj, map_int_inj, map_nil_iff, List.cons.injEq, exists_eq_left, exists_eq_left', exists_eq, exists_eq', exists_and_left, exists_and_right, exists_const, and_assoc, and_true, true_and, and_false, false_and, or_false, false_or, or_true, true_or, ite_true, ite_false, if_true, if_false, Bool.false_eq_true, own_cons, own_nil, le1, le2, le3, le4, me_cons, me_nil, List.length_map, List.length_cons, List.length_nil, ne_eq, not_false_eq_true, not_true_eq_false, decide_eq_true_eq, ha2]
    refine ⟨r0, r1, ?_⟩
    have e : gi ns r = ns.getD r.toNat 0 := rfl
    rw [e]
    exact q H2 r.toNat ex dc (by omega)

def sp_law_near : Sp := fun vs H Q _ => ∃ (d : Addr) (m : Int), vs = [.ref d, .int m] ∧ Dc H d ∧ 0 ≤ m ∧ m < 10 ^ 50 ∧ ∀ H' r, Exc d H H' → Dc H' d → -m ≤ r → r ≤ m → Q (.int r) H'
theorem ok_law_near (T : Tx K mg) : FnOk P w K mg base CX0 2 T.f_law_near T.d_law_near p_law_near sp_law_near := by
  refine T.F_law_near.ok sc_law_near (fun vs H Q E h => ?_) (fun cdv A outer s H vs Q E hr h => ?_)
  · obtain ⟨d, m, rfl, _⟩ := h
    rfl
  · obtain ⟨d, m, rfl, hD, h0, h1, q⟩ := h
    refine ⟨_, (pss_one (ps_ret (pe_op op_sub (pe_call (ok_law_roll T) (hr.mono (by decide)) (by rfl) T.m_law_roll T.F_law_roll.kp T.b_law_roll .nil pass0 (pa_cons (pv 0) (pa_cons (pe_op op_add (pe_op op_mulB pe_int (pv 1)) pe_int) pa_nil))) (pv 1)))), ?_⟩
    rw [st_law_near]
    simp only [ap_seq, ap_next, ap_asg, ap_gName, ap_ret, ap_retN, ap_drop, ap_ifS, ap_break, ap_cont, ap_par, ap_aug, ap_ip, ap_gSub, ap_gTup, ap_gNil, ap_gCons, ap_var, ap_c, ap_op, ap_un, ap_if, ap_test, ap_B, ap_and, ap_or, ap_not, ap_andV, ap_orV, ap_notV, ap_nil, ap_cons, ap_tup, ap_lst, ap_cb, ap_bm, ap_call, ap_chain, ap_rI, ap_rI0, ap_rU, ap_rEq, ap_rNe, ap_revT, ap_sl, ap_part, ap_noPart, ap_ixLI, ap_ixTI, ap_ixLV, ap_ixTV, ap_len, ap_setLI, ap_setLV, ap_appI, ap_appV, ap_tupL, ap_listS, ap_sumLI, ap_sumTI, ap_repLI, ap_intI, ap_intB, ap_eqTI, ap_neTI, ap_eqLI, ap_neLI, ap_isi, ap_for, ap_rng1, ap_rng2, ap_iList, ap_iTup, ap_lc, ap_yes, ap_cut, ap_gTupH, ap_fmt, ap_jsn, ap_jsc, ap_gcd, ap_isqrt, ap_ixL, tyV_l, wipe_nil, wipe_cons, upd_same, List.set_cons_zero, List.set_cons_succ, List.getElem?_cons_zero, List.getElem?_cons_succ, List.cons_append, List.nil_append, List.append_nil, Option.some.injEq, V.int.injEq, V.ref.injEq, V.bl.injEq, V.str.injEq, V.ty.injEq, Bool.not_true, Bool.not_false, HO.lst.injEq, HO.tup.injEq, reduceCtorEq, Int.reduceToNat, Int.reduceLT, Int.reduceLE, Nat.reduceAdd, Int.cast_ofNat_Int, gi_c0, gi_c1, gi_c2, gi_c3, Int.natCast_inj, map_int_inj, map_nil_iff, List.cons.injEq, exists_eq_left, exists_eq_left', exists_eq, exists_eq', exists_and_left, exists_and_right, exists_const, and_assoc, and_true, true_and, and_false, false_and, or_false, false_or, or_true, true_or, ite_true, ite_false, if_true, if_false, Bool.false_eq_true, own_cons, own_nil, le1, le2, le3, le4, me_cons, me_nil, List.length_map, List.length_cons, List.length_nil, ne_eq, not_false_eq_true, not_true_eq_false, decide_eq_true_eq, sp_law_roll, CMu]
    refine ⟨by omega, by omega, by omega, by omega, hD, by omega, by omega, fun H2 r x D2 a b => ?_⟩
    exact q H2 _ x D2 (by omega) (by omega)
theorem gcd_step {x y : Int} (hx : 0 ≤ x) (hy : 0 < y) : Int.gcd y (x % y) = Int.gcd x y := by
  obtain ⟨a, rfl⟩ := Int.eq_ofNat_of_zero_le hx
  obtain ⟨b, rfl⟩ := Int.eq_ofNat_of_zero_le (Int.le_of_lt hy)
  rw [← Int.natCast_emod]
  show Nat.gcd b (a % b) = Nat.gcd a b
  rw [Nat.gcd_comm a b, Nat.gcd_rec b a, Nat.gcd_comm]
theorem while_a {α : Type} {c : TT} {tb : TS} {D : Ends} {σ : L2.St} {H : Hp} (W : α → L2.St → Hp → Prop) (t : α → Bool) (μ : α → Nat) (a0 : α) (h0 : W a0 σ H)
    (hc : ∀ a σ H, W a σ H → ∀ Q : Bool → Hp → Prop, Q (t a) H → c σ H Q)
    (hs : ∀ a σ H, W a σ H → t a = true → tb { D with nx := fun σ' H' => ∃ a', μ a' < μ a ∧ W a' σ' H', ct := fun σ' H' => ∃ a', μ a' < μ a ∧ W a' σ' H', bk := D.nx } σ H)
    (hd : ∀ a σ H, W a σ H → t a = false → D.nx σ H) : tWhile c tb D σ H := by
  refine ⟨fun m σ H => ∃ a, μ a = m ∧ W a σ H, ⟨_, a0, rfl, h0⟩, ?_⟩
  rintro m σ H ⟨a, rfl, hw⟩
  refine hc a σ H hw _ ?_
  cases e : t a with
  | true => exact ⟨fun σ' H' => ∃ a', μ a' < μ a ∧ W a' σ' H', fun σ' H' ⟨a', h1, h2⟩ => ⟨_, h1, a', rfl, h2⟩, hs a σ H hw e⟩
  | false => exact hd a σ H hw e
def sp_law_gcd : Sp := fun vs H Q _ => ∃ (x y : Int), vs = [.int x, .int y] ∧ Q (.int (Int.gcd x y : Nat)) H
theorem ok_law_gcd (T : Tx K mg) : FnOk P w K mg base CX0 1 T.f_law_gcd T.d_law_gcd p_law_gcd sp_law_gcd := by
  refine T.F_law_gcd.ok sc_law_gcd (fun vs H Q E h => ?_) (fun cdv A outer s H vs Q E hr h => ?_)
  · obtain ⟨x, y, rfl, _⟩ := h
    rfl
  · obtain ⟨x, y, rfl, q⟩ := h
    refine ⟨_, (pss_cons (ps_par (i := 0) (j := 1) (by rfl) sc_law_gcd.nd rfl rfl (by decide) rfl rfl (pa_cons (pe_callB call_abs (by rfl) T.z_abs (by decide +kernel) (pa_cons (pv 0) pa_nil)) (pa_cons (pe_callB call_abs (by rfl) T.z_abs (by decide +kernel) (pa_cons (pv 1) pa_nil)) pa_nil)) (by rfl))
      (pss_cons (ps_while PassesOwn.never (pt_cmpR op_gt (pv 1) pe_int (nomark _))
      (pss_one (ps_par (i := 0) (j := 1) (by rfl) sc_law_gcd.nd rfl rfl (by decide) rfl rfl (pa_cons (pv 1) (pa_cons (pe_op op_mod (pe_callTy cr_intI (by rfl) T.z_int (by decide +kernel) (pa_cons (pv 0) pa_nil)) (pv 1)) pa_nil)) (by rfl))))
      (pss_one (ps_ret (pv 0))))), ?_⟩
    rw [st_law_gcd]
    simp only [ap_seq, ap_next, ap_asg, ap_gName, ap_ret, ap_retN, ap_drop, ap_ifS, ap_break, ap_cont, ap_par, ap_aug, ap_ip, ap_gSub, ap_gTup, ap_gNil, ap_gCons, ap_var, ap_c, ap_op, ap_un, ap_if, ap_test, ap_B, ap_and, ap_or, ap_not, ap_andV, ap_orV, ap_notV, ap_nil, ap_cons, ap_tup, ap_lst, ap_cb, ap_bm, ap_call, ap_chain, ap_rI, ap_rI0, ap_rU, ap_rEq, ap_rNe, ap_revT, ap_sl, ap_part, ap_noPart, ap_ixLI, ap_ixTI, ap_ixLV, ap_ixTV, ap_len, ap_setLI, ap_setLV, ap_appI, ap_appV, ap_tupL, ap_listS, ap_sumLI, ap_sumTI, ap_repLI, ap_intI, ap_intB, ap_eqTI, ap_neTI, ap_eqLI, ap_neLI, ap_isi, ap_for, ap_rng1, ap_rng2, ap_iList, ap_iTup, ap_lc, ap_yes, ap_cut, ap_gTupH, ap_fmt, ap_jsn, ap_jsc, ap_gcd, ap_isqrt, ap_ixL, tyV_l, wipe_nil, wipe_cons, upd_same, List.set_cons_zero, List.set_cons_succ, List.getElem?_cons_zero, List.getElem?_cons_succ, List.cons_append, List.nil_append, List.append_nil, Option.some.injEq, V.int.injEq, V.ref.injEq, V.bl.injEq, V.str.injEq, V.ty.injEq, Bool.not_true, Bool.not_false, HO.lst.injEq, HO.tup.injEq, reduceCtorEq, Int.reduceToNat, Int.reduceLT, Int.reduceLE, Nat.reduceAdd, Int.cast_ofNat_Int, gi_c0, gi_c1, gi_c2, gi_c3, Int.natCast_inj, map_int_inj, map_nil_iff, List.cons.injEq, exists_eq_left, exists_eq_left', exists_eq, exists_eq', exists_and_left, exists_and_right, exists_const, and_assoc, and_true, true_and, and_false, false_and, or_false, false_or, or_true, true_or, ite_true, ite_false, if_true, if_false, Bool.false_eq_true, own_cons, own_nil, le1, le2, le3, le4, me_cons, me_nil, List.length_map, List.length_cons, List.length_nil, ne_eq, not_false_eq_true, not_true_eq_false, decide_eq_true_eq]
    have ax : (if x < 0 then -x else x) = (x.natAbs : Int) := by split <;> omega
    have ay : (if y < 0 then -y else y) = (y.natAbs : Int) := by split <;> omega
    rw [ax, ay]
    refine while_a (fun (p : Int × Int) σ' H' => σ' = [some (.int p.1), some (.int p.2)] ∧ H' = H ∧ 0 ≤ p.1 ∧ 0 ≤ p.2 ∧ Int.gcd p.1 p.2 = Int.gcd x y) (fun p => decide (0 < p.2)) (fun p => p.2.toNat) (_, _) ⟨rfl, rfl, Int.natCast_nonneg _, Int.natCast_nonneg _, ?_⟩ (fun p σ' H' hP Q1 hQ => ?_) (fun p σ' H' hP ht => ?_) (fun p σ' H' hP ht => ?_)
    · show Int.gcd (x.natAbs : Int) (y.natAbs : Int) = Int.gcd x y
      rfl
    · obtain ⟨e, e2, h1, h2, hg⟩ := hP
      subst e e2
      simp only [ap_seq, ap_next, ap_asg, ap_gName, ap_ret, ap_retN, ap_drop, ap_ifS, ap_break, ap_cont, ap_par, ap_aug, ap_ip, ap_gSub, ap_gTup, ap_gNil, ap_gCons, ap_var, ap_c, ap_op, ap_un, ap_if, ap_test, ap_B, ap_and, ap_or, ap_not, ap_andV, ap_orV, ap_notV, ap_nil, ap_cons, ap_tup, ap_lst, ap_cb, ap_bm, ap_call, ap_chain, ap_rI, ap_rI0, ap_rU, ap_rEq, ap_rNe, ap_revT, ap_sl, ap_part, ap_noPart, ap_ixLI, ap_ixTI, ap_ixLV, ap_ixTV, ap_len, ap_setLI, ap_setLV, ap_appI, ap_appV, ap_tupL, ap_listS, ap_sumLI, ap_sumTI, ap_repLI, ap_intI, ap_intB, ap_eqTI, ap_neTI, ap_eqLI, ap_neLI, ap_isi, ap_for, ap_rng1, ap_rng2, ap_iList, ap_iTup, ap_lc, ap_yes, ap_cut, ap_gTupH, ap_fmt, ap_jsn, ap_jsc, ap_gcd, ap_isqrt, ap_ixL, tyV_l, wipe_nil, wipe_cons, upd_same, List.set_cons_zero, List.set_cons_succ, List.getElem?_cons_zero, List.getElem?_cons_succ, List.cons_append, List.nil_append, List.append_nil, Option.some.injEq, V.int.injEq, V.ref.injEq, V.bl.injEq, V.str.injEq, V.ty.injEq, Bool.not_true, Bool.not_false, HO.lst.injEq, HO.tup.injEq, reduceCtorEq, Int.reduceToNat, Int.reduceLT, Int.reduceLE, Nat.reduceAdd, Int.cast_ofNat_Int, gi_c0, gi_c1, gi_c2, gi_c3, Int.natCast_inj, map_int_inj, map_nil_iff, List.cons.injEq, exists_eq_left, exists_eq_left', exists_eq, exists_eq', exists_and_left, exists_and_right, exists_const, and_assoc, and_true, true_and, and_false, false_and, or_false, false_or, or_true, true_or, ite_true, ite_false, if_true, if_false, Bool.false_eq_true, own_cons, own_nil, le1, le2, le3, le4, me_cons, me_nil, List.length_map, List.length_cons, List.length_nil, ne_eq, not_false_eq_true, not_true_eq_false, decide_eq_true_eq]
      exact hQ
    · obtain ⟨e, e2, h1, h2, hg⟩ := hP
      subst e e2
      have hp : 0 < p.2 := of_decide_eq_true ht
      simp only [ap_seq, ap_next, ap_asg, ap_gName, ap_ret, ap_retN, ap_drop, ap_ifS, ap_break, ap_cont, ap_par, ap_aug, ap_ip, ap_gSub, ap_gTup, ap_gNil, ap_gCons, ap_var, ap_c, ap_op, ap_un, ap_if, ap_test, ap_B, ap_and, ap_or, ap_not, ap_andV, ap_orV, ap_notV, ap_nil, ap_cons, ap_tup, ap_lst, ap_cb, ap_bm, ap_call, ap_chain, ap_rI, ap_rI0, ap_rU, ap_rEq, ap_rNe, ap_revT, ap_sl, ap_part, ap_noPart, ap_ixLI, ap_ixTI, ap_ixLV, ap_ixTV, ap_len, ap_setLI, ap_setLV, ap_appI, ap_appV, ap_tupL, ap_listS, ap_sumLI, ap_sumTI, ap_repLI, ap_intI, ap_intB, ap_eqTI, ap_neTI, ap_eqLI, ap_neLI, ap_isi, ap_for, ap_rng1, ap_rng2, ap_iList, ap_iTup, ap_lc, ap_yes, ap_cut, ap_gTupH, ap_fmt, ap_jsn, ap_jsc, ap_gcd, ap_isqrt, ap_ixL, tyV_l, wipe_nil, wipe_cons, upd_same, List.set_cons_zero, List.set_cons_succ, List.getElem?_cons_zero, List.getElem?_cons_succ, List.cons_append, List.nil_append, List.append_nil, Option.some.injEq, V.int.injEq, V.ref.injEq, V.bl.injEq, V.str.injEq, V.ty.injEq, Bool.not_true, Bool.not_false, HO.lst.injEq, HO.tup.injEq, reduceCtorEq, Int.reduceToNat, Int.reduceLT, Int.reduceLE, Nat.reduceAdd, Int.cast_ofNat_Int, gi_c0, gi_c1, gi_c2, gi_c3, Int.natCast_inj, map_int_inj, map_nil_iff, List.cons.injEq, exists_eq_left, exists_eq_left', exists_eq, exists_eq', exists_and_left, exists_and_right, exists_const, and_assoc, and_true, true_and, and_false, false_and, or_false, false_or, or_true, true_or, ite_true, ite_false, if_true, if_false, Bool.false_eq_true, own_cons, own_nil, le1, le2, le3, le4, me_cons, me_nil, List.length_map, List.length_cons, List.length_nil, ne_eq, not_false_eq_true, not_true_eq_false, decide_eq_true_eq]
      refine ⟨hp, (p.2, p.1 % p.2), ?_, rfl, rfl, Int.le_of_lt hp, Int.emod_nonneg _ (by omega), ?_⟩
      · have := Int.emod_lt_of_pos p.1 hp
        have := Int.emod_nonneg p.1 (show p.2 ≠ 0 by omega)
        show (p.1 % p.2).toNat < p.2.toNat
        omega
      · show Int.gcd p.2 (p.1 % p.2) = _
        rw [gcd_step h1 hp, hg]
    · obtain ⟨e, e2, h1, h2, hg⟩ := hP
      subst e e2
      have hp : ¬ 0 < p.2 := of_decide_eq_false ht
      simp only [ap_seq, ap_next, ap_asg, ap_gName, ap_ret, ap_retN, ap_drop, ap_ifS, ap_break, ap_cont, ap_par, ap_aug, ap_ip, ap_gSub, ap_gTup, ap_gNil, ap_gCons, ap_var, ap_c, ap_op, ap_un, ap_if, ap_test, ap_B, ap_and, ap_or, ap_not, ap_andV, ap_orV, ap_notV, ap_nil, ap_cons, ap_tup, ap_lst, ap_cb, ap_bm, ap_call, ap_chain, ap_rI, ap_rI0, ap_rU, ap_rEq, ap_rNe, ap_revT, ap_sl, ap_part, ap_noPart, ap_ixLI, ap_ixTI, ap_ixLV, ap_ixTV, ap_len, ap_setLI, ap_setLV, ap_appI, ap_appV, ap_tupL, ap_listS, ap_sumLI, ap_sumTI, ap_repLI, ap_intI, ap_intB, ap_eqTI, ap_neTI, ap_eqLI, ap_neLI, ap_isi, ap_for, ap_rng1, ap_rng2, ap_iList, ap_iTup, ap_lc, ap_yes, ap_cut, ap_gTupH, ap_fmt, ap_jsn, ap_jsc, ap_gcd, ap_isqrt, ap_ixL, tyV_l, wipe_nil, wipe_cons, upd_same, List.set_cons_zero, List.set_cons_succ, List.getElem?_cons_zero, List.getElem?_cons_succ, List.cons_append, List.nil_append, List.append_nil, Option.some.injEq, V.int.injEq, V.ref.injEq, V.bl.injEq, V.str.injEq, V.ty.injEq, Bool.not_true, Bool.not_false, HO.lst.injEq, HO.tup.injEq, reduceCtorEq, Int.reduceToNat, Int.reduceLT, Int.reduceLE, Nat.reduceAdd, Int.cast_ofNat_Int, gi_c0, gi_c1, gi_c2, gi_c3, Int.natCast_inj, map_int_inj, map_nil_iff, List.cons.injEq, exists_eq_left, exists_eq_left', exists_eq, exists_eq', exists_and_left, exists_and_right, exists_const, and_assoc, and_true, true_and, and_false, false_and, or_false, false_or, or_true, true_or, ite_true, ite_false, if_true, if_false, Bool.false_eq_true, own_cons, own_nil, le1, le2, le3, le4, me_cons, me_nil, List.length_map, List.length_cons, List.length_nil, ne_eq, not_false_eq_true, not_true_eq_false, decide_eq_true_eq]
      have h3 : p.2 = 0 := by omega
      rw [h3, Int.gcd_zero_right] at hg
      have h4 : p.1 = (Int.gcd x y : Nat) := by omega
      rw [h4]
      exact q
def sp_low (n : Int) : Sp := fun vs H Q _ => ∃ (t b : Int), vs = [.int t, .int b] ∧ b ≠ 0 ∧ -(10 ^ 200) < b ∧ b < 10 ^ 200 ∧
  ∀ H' r, Same H H' → H r = none → H' r = some (TI [rt t b, rb t b]) → Q (.ref r) H'
def sp_law_lowest : Sp := sp_reduced
theorem ok_law_lowest (T : Tx K mg) : FnOk P w K mg base CX0 2 T.f_law_lowest T.d_law_lowest p_law_lowest sp_law_lowest := by
  refine T.F_law_lowest.ok sc_law_lowest (fun vs H Q E h => ?_) (fun cdv A outer s H vs Q E hr h => ?_)
  · obtain ⟨t, b, rfl, _⟩ := h
    rfl
  · obtain ⟨t, b, rfl, hb, h1, h2, q⟩ := h
    refine ⟨_, (pss_cons (ps_set (i := 2) sc_law_lowest.nd rfl (Or.inl rfl) (pe_call (ok_law_gcd T) (hr.mono (by decide)) (by rfl) T.m_law_gcd T.F_law_gcd.kp T.b_law_gcd .nil pass0 (pa_cons (pv 0) (pa_cons (pv 1) pa_nil))))
      (pss_cons (ps_set (i := 2) sc_law_lowest.nd rfl (Or.inl rfl) (pe_ifExp (pt_cmpR op_gt (pv 1) pe_int (nomark _)) (pv 2) (pe_op op_sub pe_int (pv 2))))
      (pss_one (ps_ret (pe_tup (pa_cons (pe_op op_fdivG (pv 0) (pv 2)) (pa_cons (pe_op op_fdivG (pv 1) (pv 2)) pa_nil))))))), ?_⟩
    rw [st_law_lowest]
    have g := gcd_le (t := t) hb ⟨h1, h2⟩
    have g' : ((Int.gcd t b : Nat) : Int) = ((t.natAbs.gcd b.natAbs : Nat) : Int) := rfl
    simp only [ap_seq, ap_next, ap_asg, ap_gName, ap_ret, ap_retN, ap_drop, ap_ifS, ap_break, ap_cont, ap_par, ap_aug, ap_ip, ap_gSub, ap_gTup, ap_gNil, ap_gCons, ap_var, ap_c, ap_op, ap_un, ap_if, ap_test, ap_B, ap_and, ap_or, ap_not, ap_andV, ap_orV, ap_notV, ap_nil, ap_cons, ap_tup, ap_lst, ap_cb, ap_bm, ap_call, ap_chain, ap_rI, ap_rI0, ap_rU, ap_rEq, ap_rNe, ap_revT, ap_sl, ap_part, ap_noPart, ap_ixLI, ap_ixTI, ap_ixLV, ap_ixTV, ap_len, ap_setLI, ap_setLV, ap_appI, ap_appV, ap_tupL, ap_listS, ap_sumLI, ap_sumTI, ap_repLI, ap_intI, ap_intB, ap_eqTI, ap_neTI, ap_eqLI, ap_neLI, ap_isi, ap_for, ap_rng1, ap_rng2, ap_iList, ap_iTup, ap_lc, ap_yes, ap_cut, ap_gTupH, ap_fmt, ap_jsn, ap_jsc, ap_gcd, ap_isqrt, ap_ixL, tyV_l, wipe_nil, wipe_cons, upd_same, List.set_cons_zero, List.set_cons_succ, List.getElem?_cons_zero, List.getElem?_cons_succ, List.cons_append, List.nil_append, List.append_nil, Option.some.injEq, V.int.injEq, V.ref.injEq, V.bl.injEq, V.str.injEq, V.ty.injEq, Bool.not_true, Bool.not_false, HO.lst.injEq, HO.tup.injEq, reduceCtorEq, Int.reduceToNat, Int.reduceLT, Int.reduceLE, Nat.reduceAdd, Int.cast_ofNat_Int, gi_c0, gi_c1, gi_c2, gi_c3, Int.natCast_inj, map_int_inj, map_nil_iff, List.cons.injEq, exists_eq_left, exists_eq_left', exists_eq, exists_eq', exists_and_left, exists_and_right, exists_const, and_assoc, and_true, true_and, and_false, false_and, or_false, false_or, or_true, true_or, ite_true, ite_false, if_true, if_false, Bool.false_eq_true, own_cons, own_nil, le1, le2, le3, le4, me_cons, me_nil, List.length_map, List.length_cons, List.length_nil, ne_eq, not_false_eq_true, not_true_eq_false, decide_eq_true_eq, CFd, sp_law_gcd]
    refine iteC (fun c => ?_) (fun c => ?_)
    · refine ⟨by omega, by omega, by omega, by omega, by omega, by omega, by decide, fun p np => ?_⟩
      have e1 := fdiv_rt (t := t) (b := b) (by omega)
      have e2 := fdiv_rb (t := t) (b := b) (by omega)
      refine q _ p (same_upd np) np ?_
      rw [upd_same, ← e1, ← e2]
      rfl
    · refine ⟨by omega, by omega, by omega, by omega, by omega, by omega, by decide, fun p np => ?_⟩
      have e1 := fdiv_rtn (t := t) (b := b) (by omega)
      have e2 := fdiv_rbn (t := t) (b := b) (by omega)
      refine q _ p (same_upd np) np ?_
      rw [upd_same, ← e1, ← e2]
      show some (HO.tup [.int (t.fdiv (0 - (Int.gcd t b : Nat))), .int (b.fdiv (0 - (Int.gcd t b : Nat)))]) = _
      rw [Int.zero_sub]
      rfl
def sp_law_ratio_sum : Sp := fun vs H Q _ => ∃ (p q : Addr) (a b c d : Int), vs = [.ref p, .ref q] ∧ H p = some (TI [a, b]) ∧ Rat a b ∧ H q = some (TI [c, d]) ∧ Rat c d ∧
  ∀ H' r, Same H H' → H r = none → H' r = some (TI [rt (a * d + c * b) (b * d), rb (a * d + c * b) (b * d)]) → Q (.ref r) H'
theorem ok_law_ratio_sum (T : Tx K mg) : FnOk P w K mg base CX0 3 T.f_law_ratio_sum T.d_law_ratio_sum p_law_ratio_sum sp_law_ratio_sum := by
  refine T.F_law_ratio_sum.ok sc_law_ratio_sum (fun vs H Q E h => ?_) (fun cdv A outer s H vs Q E hr h => ?_)
  · obtain ⟨p, q, a, b, c, d, rfl, _⟩ := h
    rfl
  · obtain ⟨p, q, a, b, c, d, rfl, hp, rp, hq, rq, k⟩ := h
    refine ⟨_, (pss_one (ps_ret (pe_call (ok_law_lowest T) (hr.mono (by decide)) (by rfl) T.m_law_lowest T.F_law_lowest.kp T.b_law_lowest .nil pass0 (pa_cons (pe_op op_add (pe_op op_mulB (pe_ix ix_TI (pv 0) pe_int (fun _ _ => rfl)) (pe_ix ix_TI (pv 1) pe_int (fun _ _ => rfl))) (pe_op op_mulB (pe_ix ix_TI (pv 1) pe_int (fun _ _ => rfl)) (pe_ix ix_TI (pv 0) pe_int (fun _ _ => rfl)))) (pa_cons (pe_op op_mulB (pe_ix ix_TI (pv 0) pe_int (fun _ _ => rfl)) (pe_ix ix_TI (pv 1) pe_int (fun _ _ => rfl))) pa_nil))))), ?_⟩
    rw [st_law_ratio_sum]
    simp only [ap_seq, ap_next, ap_asg, ap_gName, ap_ret, ap_retN, ap_drop, ap_ifS, ap_break, ap_cont, ap_par, ap_aug, ap_ip, ap_gSub, ap_gTup, ap_gNil, ap_gCons, ap_var, ap_c, ap_op, ap_un, ap_if, ap_test, ap_B, ap_and, ap_or, ap_not, ap_andV, ap_orV, ap_notV, ap_nil, ap_cons, ap_tup, ap_lst, ap_cb, ap_bm, ap_call, ap_chain, ap_rI, ap_rI0, ap_rU, ap_rEq, ap_rNe, ap_revT, ap_sl, ap_part, ap_noPart, ap_ixLI, ap_ixTI, ap_ixLV, ap_ixTV, ap_len, ap_setLI, ap_setLV, ap_appI, ap_appV, ap_tupL, ap_listS, ap_sumLI, ap_sumTI, ap_repLI, ap_intI, ap_intB, ap_eqTI, ap_neTI, ap_eqLI, ap_neLI, ap_isi, ap_for, ap_rng1, ap_rng2, ap_iList, ap_iTup, ap_lc, ap_yes, ap_cut, ap_gTupH, ap_fmt, ap_jsn, ap_jsc, ap_gcd, ap_isqrt, ap_ixL, tyV_l, wipe_nil, wipe_cons, upd_same, List.set_cons_zero, List.set_cons_succ, List.getElem?_cons_zero, List.getElem?_cons_succ, List.cons_append, List.nil_append, List.append_nil, Option.some.injEq, V.int.injEq, V.ref.injEq, V.bl.injEq, V.str.injEq, V.ty.injEq, Bool.not_true, Bool.not_false, HO.lst.injEq, HO.tup.injEq, reduceCtorEq, Int.reduceToNat, Int.reduceLT, Int.reduceLE, Nat.reduceAdd, Int.cast_ofNat_Int, gi_c0, gi_c1, gi_c2, gi_c3, Int.natCast_inj, map_int_inj, map_nil_iff, List.cons.injEq, exists_eq_left, exists_eq_left', exists_eq, exists_eq', exists_and_left, exists_and_right, exists_const, and_assoc, and_true, true_and, and_false, false_and, or_false, false_or, or_true, true_or, ite_true, ite_false, if_true, if_false, Bool.false_eq_true, own_cons, own_nil, le1, le2, le3, le4, me_cons, me_nil, List.length_map, List.length_cons, List.length_nil, ne_eq, not_false_eq_true, not_true_eq_false, decide_eq_true_eq, hp, hq, sp_law_lowest, sp_reduced, CMu]
    have a1 := rp.lo
    have a2 := rp.hi
    have a3 := rp.bo
    have a4 := rp.low.pos
    have c1 := rq.lo
    have c2 := rq.hi
    have c3 := rq.bo
    have c4 := rq.low.pos
    have m1 := mulb (a := b) (d := d) (by omega) (by omega)
    have m2 := Int.mul_pos a4 c4
    refine ⟨by omega, by omega, by omega, by omega, by omega, by omega, by omega, by omega, by omega, by omega, by omega, by omega, ?_⟩
    exact ⟨by omega, by omega, by omega, k⟩
def sp_law_ratio_product : Sp := fun vs H Q _ => ∃ (p q : Addr) (a b c d : Int), vs = [.ref p, .ref q] ∧ H p = some (TI [a, b]) ∧ Rat a b ∧ H q = some (TI [c, d]) ∧ Rat c d ∧
  ∀ H' r, Same H H' → H r = none → H' r = some (TI [rt (a * c) (b * d), rb (a * c) (b * d)]) → Q (.ref r) H'
theorem ok_law_ratio_product (T : Tx K mg) : FnOk P w K mg base CX0 3 T.f_law_ratio_product T.d_law_ratio_product p_law_ratio_product sp_law_ratio_product := by
  refine T.F_law_ratio_product.ok sc_law_ratio_product (fun vs H Q E h => ?_) (fun cdv A outer s H vs Q E hr h => ?_)
  · obtain ⟨p, q, a, b, c, d, rfl, _⟩ := h
    rfl
  · obtain ⟨p, q, a, b, c, d, rfl, hp, rp, hq, rq, k⟩ := h
    refine ⟨_, (pss_one (ps_ret (pe_call (ok_law_lowest T) (hr.mono (by decide)) (by rfl) T.m_law_lowest T.F_law_lowest.kp T.b_law_lowest .nil pass0 (pa_cons (pe_op op_mulB (pe_ix ix_TI (pv 0) pe_int (fun _ _ => rfl)) (pe_ix ix_TI (pv 1) pe_int (fun _ _ => rfl))) (pa_cons (pe_op op_mulB (pe_ix ix_TI (pv 0) pe_int (fun _ _ => rfl)) (pe_ix ix_TI (pv 1) pe_int (fun _ _ => rfl))) pa_nil))))), ?_⟩
    rw [st_law_ratio_product]
    simp only [ap_seq, ap_next, ap_asg, ap_gName, ap_ret, ap_retN, ap_drop, ap_ifS, ap_break, ap_cont, ap_par, ap_aug, ap_ip, ap_gSub, ap_gTup, ap_gNil, ap_gCons, ap_var, ap_c, ap_op, ap_un, ap_if, ap_test, ap_B, ap_and, ap_or, ap_not, ap_andV, ap_orV, ap_notV, ap_nil, ap_cons, ap_tup, ap_lst, ap_cb, ap_bm, ap_call, ap_chain, ap_rI, ap_rI0, ap_rU, ap_rEq, ap_rNe, ap_revT, ap_sl, ap_part, ap_noPart, ap_ixLI, ap_ixTI, ap_ixLV, ap_ixTV, ap_len, ap_setLI, ap_setLV, ap_appI, ap_appV, ap_tupL, ap_listS, ap_sumLI, ap_sumTI, ap_repLI, ap_intI, ap_intB, ap_eqTI, ap_neTI, ap_eqLI, ap_neLI, ap_isi, ap_for, ap_rng1, ap_rng2, ap_iList, ap_iTup, ap_lc, ap_yes, ap_cut, ap_gTupH, ap_fmt, ap_jsn, ap_jsc, ap_gcd, ap_isqrt, ap_ixL, tyV_l, wipe_nil, wipe_cons, upd_same, List.set_cons_zero, List.set_cons_succ, List.getElem?_cons_zero, List.getElem?_cons_succ, List.cons_append, List.nil_append, List.append_nil, Option.some.injEq, V.int.injEq, V.ref.injEq, V.bl.injEq, V.str.injEq, V.ty.injEq, Bool.not_true, Bool.not_false, HO.lst.injEq, HO.tup.injEq, reduceCtorEq, Int.reduceToNat, Int.reduceLT, Int.reduceLE, Nat.reduceAdd, Int.cast_ofNat_Int, gi_c0, gi_c1, gi_c2, gi_c3, Int.natCast_inj, map_int_inj, map_nil_iff, List.cons.injEq, exists_eq_left, exists_eq_left', exists_eq, exists_eq', exists_and_left, exists_and_right, exists_const, and_assoc, and_true, true_and, and_false, false_and, or_false, false_or, or_true, true_or, ite_true, ite_false, if_true, if_false, Bool.false_eq_true, own_cons, own_nil, le1, le2, le3, le4, me_cons, me_nil, List.length_map, List.length_cons, List.length_nil, ne_eq, not_false_eq_true, not_true_eq_false, decide_eq_true_eq, hp, hq, sp_law_lowest, sp_reduced, CMu]
    have a1 := rp.lo
    have a2 := rp.hi
    have a3 := rp.bo
    have a4 := rp.low.pos
    have c1 := rq.lo
    have c2 := rq.hi
    have c3 := rq.bo
    have c4 := rq.low.pos
    have m1 := mulb (a := b) (d := d) (by omega) (by omega)
    have m2 := Int.mul_pos a4 c4
    refine ⟨by omega, by omega, by omega, by omega, by omega, by omega, by omega, by omega, ?_⟩
    exact ⟨by omega, by omega, by omega, k⟩
/-- a right ratio with small parts -/
structure RatM (m a b : Int) : Prop where
  low : Low a b
  lo : -m ≤ a
  hi : a ≤ m
  bo : b ≤ m
def sp_law_some_ratio : Sp := fun vs H Q _ => ∃ (d : Addr) (m : Int), vs = [.ref d, .int m] ∧ Dc H d ∧ 1 ≤ m ∧ m < 10 ^ 50 ∧
  ∀ H' r a b, Exc d H H' → Dc H' d → H r = none → H' r = some (TI [a, b]) → RatM m a b → Q (.ref r) H'
theorem ok_law_some_ratio (T : Tx K mg) : FnOk P w K mg base CX0 3 T.f_law_some_ratio T.d_law_some_ratio p_law_some_ratio sp_law_some_ratio := by
  refine T.F_law_some_ratio.ok sc_law_some_ratio (fun vs H Q E h => ?_) (fun cdv A outer s H vs Q E hr h => ?_)
  · obtain ⟨d, m, rfl, _⟩ := h
    rfl
  · obtain ⟨d, m, rfl, hD, h0, h1, q⟩ := h
    refine ⟨_, (pss_one (ps_ret (pe_call (ok_law_lowest T) (hr.mono (by decide)) (by rfl) T.m_law_lowest T.F_law_lowest.kp T.b_law_lowest .nil pass0 (pa_cons (pe_call (ok_law_near T) (hr.mono (by decide)) (by rfl) T.m_law_near T.F_law_near.kp T.b_law_near .nil pass0 (pa_cons (pv 0) (pa_cons (pv 1) pa_nil))) (pa_cons (pe_op op_add pe_int (pe_call (ok_law_roll T) (hr.mono (by decide)) (by rfl) T.m_law_roll T.F_law_roll.kp T.b_law_roll .nil pass0 (pa_cons (pv 0) (pa_cons (pv 1) pa_nil)))) pa_nil))))), ?_⟩
    rw [st_law_some_ratio]
    simp only [ap_seq, ap_next, ap_asg, ap_gName, ap_ret, ap_retN, ap_drop, ap_ifS, ap_break, ap_cont, ap_par, ap_aug, ap_ip, ap_gSub, ap_gTup, ap_gNil, ap_gCons, ap_var, ap_c, ap_op, ap_un, ap_if, ap_test, ap_B, ap_and, ap_or, ap_not, ap_andV, ap_orV, ap_notV, ap_nil, ap_cons, ap_tup, ap_lst, ap_cb, ap_bm, ap_call, ap_chain, ap_rI, ap_rI0, ap_rU, ap_rEq, ap_rNe, ap_revT, ap_sl, ap_part, ap_noPart, ap_ixLI, ap_ixTI, ap_ixLV, ap_ixTV, ap_len, ap_setLI, ap_setLV, ap_appI, ap_appV, ap_tupL, ap_listS, ap_sumLI, ap_sumTI, ap_repLI, ap_intI, ap_intB, ap_eqTI, ap_neTI, ap_eqLI, ap_neLI, ap_isi, ap_for, ap_rng1, ap_rng2, ap_iList, ap_iTup, ap_lc, ap_yes, ap_cut, ap_gTupH, ap_fmt, ap_jsn, ap_jsc, ap_gcd, ap_isqrt, ap_ixL, tyV_l, wipe_nil, wipe_cons, upd_same, List.set_cons_zero, List.set_cons_succ, List.getElem?_cons_zero, List.getElem?_cons_succ, List.cons_append, List.nil_append, List.append_nil, Option.some.injEq, V.int.injEq, V.ref.injEq, V.bl.injEq, V.str.injEq, V.ty.injEq, Bool.not_true, Bool.not_false, HO.lst.injEq, HO.tup.injEq, reduceCtorEq, Int.reduceToNat, Int.reduceLT, Int.reduceLE, Nat.reduceAdd, Int.cast_ofNat_Int, gi_c0, gi_c1, gi_c2, gi_c3, Int.natCast_inj, map_int_inj, map_nil_iff, List.cons.injEq, exists_eq_left, exists_eq_left', exists_eq, exists_eq', exists_and_left, exists_and_right, exists_const, and_assoc, and_true, true_and, and_false, false_and, or_false, false_or, or_true, true_or, ite_true, ite_false, if_true, if_false, Bool.false_eq_true, own_cons, own_nil, le1, le2, le3, le4, me_cons, me_nil, List.length_map, List.length_cons, List.length_nil, ne_eq, not_false_eq_true, not_true_eq_false, decide_eq_true_eq, sp_law_near, sp_law_roll]
    refine ⟨hD, by omega, by omega, fun H1 t x1 D1 t1 t2 => ⟨D1, by omega, by omega, fun H2 b x2 D2 b1 b2 => ?_⟩⟩
    refine ⟨t, 1 + b, rfl, by omega, by omega, by omega, fun H3 r s3 nr er => ?_⟩
    have x12 := x1.trans x2
    have nd : d ≠ r := by
      obtain ⟨_, _, _, h⟩ := D2
      exact ne_of_none h nr
    have nr0 : H r = none := by
      cases e : H r with
      | none => rfl
      | some o =>
        rw [x12 r o nd.symm e] at nr
        cases nr
    have l1 := rt_le (t := t) (b := 1 + b) (B := m) (by omega) ⟨t1, t2⟩
    have l2 := rb_le (t := t) (b := 1 + b) (B := m) (by omega) ⟨by omega, by omega⟩
    exact q H3 r _ _ (x12.trans (Exc.same s3)) (D2.same s3) nr0 er ⟨low t (1 + b) (by omega), l1.1, l1.2, l2.2⟩
end
end My

namespace My
open PySem PySem.Spec PyProof.Rows L2 Pr M00
section
variable {P : Program} {w : World} {K : PySem.W.Frag} {mg : Str → Option Value} {base : Heap}
theorem mulk {x y : Int} {k l : Nat} (hx : x.natAbs < 10 ^ k) (hy : y.natAbs < 10 ^ l) : (x * y).natAbs < 10 ^ (k + l) := by
  rw [Int.natAbs_mul, Nat.pow_add]
  exact Nat.mul_lt_mul'' hx hy
def sp_law_int_root : Sp := fun vs H Q _ => ∃ (n : Int), vs = [.int n] ∧ 0 ≤ n ∧ n < 10 ^ 100 ∧ ∀ r, 0 ≤ r → r ≤ n → r * r ≤ n → n < (r + 1) * (r + 1) → Q (.int r) H
theorem ok_law_int_root (T : Tx K mg) : FnOk P w K mg base CX0 1 T.f_law_int_root T.d_law_int_root p_law_int_root sp_law_int_root := by
  refine T.F_law_int_root.ok sc_law_int_root (fun vs H Q E h => ?_) (fun cdv A outer s H vs Q E hr h => ?_)
  · obtain ⟨x, rfl, _⟩ := h
    rfl
  · obtain ⟨n, rfl, h0, h1, q⟩ := h
    refine ⟨_, (pss_cons (ps_par (i := 1) (j := 2) (by rfl) sc_law_int_root.nd rfl rfl (by decide) rfl rfl (pa_cons pe_int (pa_cons (pe_op op_add (pv 0) pe_int) pa_nil)) (by rfl))
      (pss_cons (ps_while PassesOwn.never (pt_cmpR op_gt (pe_op op_sub (pv 2) (pv 1)) pe_int (nomark _))
      (pss_cons (ps_set (i := 3) sc_law_int_root.nd rfl (Or.inl rfl) (pe_op op_fdivP (pe_op op_add (pv 1) (pv 2)) pe_int))
      (pss_one (ps_if (pt_cmpR op_le (pe_op op_mulB (pv 3) (pv 3)) (pv 0) (nomark _)) (pss_one (ps_set (i := 1) sc_law_int_root.nd rfl (Or.inl rfl) (pv 3))) (pss_one (ps_set (i := 2) sc_law_int_root.nd rfl (Or.inl rfl) (pv 3)))))))
      (pss_one (ps_ret (pv 1))))), ?_⟩
    rw [st_law_int_root]
    simp only [ap_seq, ap_next, ap_asg, ap_gName, ap_ret, ap_retN, ap_drop, ap_ifS, ap_break, ap_cont, ap_par, ap_aug, ap_ip, ap_gSub, ap_gTup, ap_gNil, ap_gCons, ap_var, ap_c, ap_op, ap_un, ap_if, ap_test, ap_B, ap_and, ap_or, ap_not, ap_andV, ap_orV, ap_notV, ap_nil, ap_cons, ap_tup, ap_lst, ap_cb, ap_bm, ap_call, ap_chain, ap_rI, ap_rI0, ap_rU, ap_rEq, ap_rNe, ap_revT, ap_sl, ap_part, ap_noPart, ap_ixLI, ap_ixTI, ap_ixLV, ap_ixTV, ap_len, ap_setLI, ap_setLV, ap_appI, ap_appV, ap_tupL, ap_listS, ap_sumLI, ap_sumTI, ap_repLI, ap_intI, ap_intB, ap_eqTI, ap_neTI, ap_eqLI, ap_neLI, ap_isi, ap_for, ap_rng1, ap_rng2, ap_iList, ap_iTup, ap_lc, ap_yes, ap_cut, ap_gTupH, ap_fmt, ap_jsn, ap_jsc, ap_gcd, ap_isqrt, ap_ixL, tyV_l, wipe_nil, wipe_cons, upd_same, List.set_cons_zero, List.set_cons_succ, List.getElem?_cons_zero, List.getElem?_cons_succ, List.cons_append, List.nil_append, List.append_nil, Option.some.injEq, V.int.injEq, V.ref.injEq, V.bl.injEq, V.str.injEq, V.ty.injEq, Bool.not_true, Bool.not_false, HO.lst.injEq, HO.tup.injEq, reduceCtorEq, Int.reduceToNat, Int.reduceLT, Int.reduceLE, Nat.reduceAdd, Int.cast_ofNat_Int, gi_c0, gi_c1, gi_c2, gi_c3, Int.natCast_inj, map_int_inj, map_nil_iff, List.cons.injEq, exists_eq_left, exists_eq_left', exists_eq, exists_eq', exists_and_left, exists_and_right, exists_const, and_assoc, and_true, true_and, and_false, false_and, or_false, false_or, or_true, true_or, ite_true, ite_false, if_true, if_false, Bool.false_eq_true, own_cons, own_nil, le1, le2, le3, le4, me_cons, me_nil, List.length_map, List.length_cons, List.length_nil, ne_eq, not_false_eq_true, not_true_eq_false, decide_eq_true_eq]
    refine while_a (fun (p : Int × Int) σ' H' => (∃ y, σ' = [some (.int n), some (.int p.1), some (.int p.2), y]) ∧ H' = H ∧ 0 ≤ p.1 ∧ p.1 < p.2 ∧ p.2 ≤ n + 1 ∧ p.1 * p.1 ≤ n ∧ n < p.2 * p.2) (fun p => decide (1 < p.2 - p.1)) (fun p => (p.2 - p.1).toNat) (0, n + 1) ⟨⟨_, rfl⟩, rfl, Int.le_refl 0, ?_, Int.le_refl _, ?_, ?_⟩ (fun p σ' H' hP Q1 hQ => ?_) (fun p σ' H' hP ht => ?_) (fun p σ' H' hP ht => ?_)
    · show (0 : Int) < n + 1
      omega
    · show (0 : Int) * 0 ≤ n
      omega
    · show n < (n + 1) * (n + 1)
      have : (n + 1) * (n + 1) = n * n + 2 * n + 1 := by grind
      have := Int.mul_nonneg h0 h0
      omega
    · obtain ⟨⟨y, e⟩, e2, h2, h3, h4, h5, h6⟩ := hP
      subst e e2
      simp only [ap_seq, ap_next, ap_asg, ap_gName, ap_ret, ap_retN, ap_drop, ap_ifS, ap_break, ap_cont, ap_par, ap_aug, ap_ip, ap_gSub, ap_gTup, ap_gNil, ap_gCons, ap_var, ap_c, ap_op, ap_un, ap_if, ap_test, ap_B, ap_and, ap_or, ap_not, ap_andV, ap_orV, ap_notV, ap_nil, ap_cons, ap_tup, ap_lst, ap_cb, ap_bm, ap_call, ap_chain, ap_rI, ap_rI0, ap_rU, ap_rEq, ap_rNe, ap_revT, ap_sl, ap_part, ap_noPart, ap_ixLI, ap_ixTI, ap_ixLV, ap_ixTV, ap_len, ap_setLI, ap_setLV, ap_appI, ap_appV, ap_tupL, ap_listS, ap_sumLI, ap_sumTI, ap_repLI, ap_intI, ap_intB, ap_eqTI, ap_neTI, ap_eqLI, ap_neLI, ap_isi, ap_for, ap_rng1, ap_rng2, ap_iList, ap_iTup, ap_lc, ap_yes, ap_cut, ap_gTupH, ap_fmt, ap_jsn, ap_jsc, ap_gcd, ap_isqrt, ap_ixL, tyV_l, wipe_nil, wipe_cons, upd_same, List.set_cons_zero, List.set_cons_succ, List.getElem?_cons_zero, List.getElem?_cons_succ, List.cons_append, List.nil_append, List.append_nil, Option.some.injEq, V.int.injEq, V.ref.injEq, V.bl.injEq, V.str.injEq, V.ty.injEq, Bool.not_true, Bool.not_false, HO.lst.injEq, HO.tup.injEq, reduceCtorEq, Int.reduceToNat, Int.reduceLT, Int.reduceLE, Nat.reduceAdd, Int.cast_ofNat_Int, gi_c0, gi_c1, gi_c2, gi_c3, Int.natCast_inj, map_int_inj, map_nil_iff, List.cons.injEq, exists_eq_left, exists_eq_left', exists_eq, exists_eq', exists_and_left, exists_and_right, exists_const, and_assoc, and_true, true_and, and_false, false_and, or_false, false_or, or_true, true_or, ite_true, ite_false, if_true, if_false, Bool.false_eq_true, own_cons, own_nil, le1, le2, le3, le4, me_cons, me_nil, List.length_map, List.length_cons, List.length_nil, ne_eq, not_false_eq_true, not_true_eq_false, decide_eq_true_eq]
      exact hQ
    · obtain ⟨⟨y, e⟩, e2, h2, h3, h4, h5, h6⟩ := hP
      obtain ⟨lo, hi⟩ := p
      simp only at h2 h3 h4 h5 h6 e ht
      subst e e2
      have hp : 1 < hi - lo := of_decide_eq_true ht
      obtain ⟨m, hm⟩ : ∃ m, m = (lo + hi) / 2 := ⟨_, rfl⟩
      simp only [ap_seq, ap_next, ap_asg, ap_gName, ap_ret, ap_retN, ap_drop, ap_ifS, ap_break, ap_cont, ap_par, ap_aug, ap_ip, ap_gSub, ap_gTup, ap_gNil, ap_gCons, ap_var, ap_c, ap_op, ap_un, ap_if, ap_test, ap_B, ap_and, ap_or, ap_not, ap_andV, ap_orV, ap_notV, ap_nil, ap_cons, ap_tup, ap_lst, ap_cb, ap_bm, ap_call, ap_chain, ap_rI, ap_rI0, ap_rU, ap_rEq, ap_rNe, ap_revT, ap_sl, ap_part, ap_noPart, ap_ixLI, ap_ixTI, ap_ixLV, ap_ixTV, ap_len, ap_setLI, ap_setLV, ap_appI, ap_appV, ap_tupL, ap_listS, ap_sumLI, ap_sumTI, ap_repLI, ap_intI, ap_intB, ap_eqTI, ap_neTI, ap_eqLI, ap_neLI, ap_isi, ap_for, ap_rng1, ap_rng2, ap_iList, ap_iTup, ap_lc, ap_yes, ap_cut, ap_gTupH, ap_fmt, ap_jsn, ap_jsc, ap_gcd, ap_isqrt, ap_ixL, tyV_l, wipe_nil, wipe_cons, upd_same, List.set_cons_zero, List.set_cons_succ, List.getElem?_cons_zero, List.getElem?_cons_succ, List.cons_append, List.nil_append, List.append_nil, Option.some.injEq, V.int.injEq, V.ref.injEq, V.bl.injEq, V.str.injEq, V.ty.injEq, Bool.not_true, Bool.not_false, HO.lst.injEq, HO.tup.injEq, reduceCtorEq, Int.reduceToNat, Int.reduceLT, Int.reduceLE, Nat.reduceAdd, Int.cast_ofNat_Int, gi_c0, gi_c1, gi_c2, gi_c3, Int.natCast_inj, map_int_inj, map_nil_iff, List.cons.injEq, exists_eq_left, exists_eq_left', exists_eq, exists_eq', exists_and_left, exists_and_right, exists_const, and_assoc, and_true, true_and, and_false, false_and, or_false, false_or, or_true, true_or, ite_true, ite_false, if_true, if_false, Bool.false_eq_true, own_cons, own_nil, le1, le2, le3, le4, me_cons, me_nil, List.length_map, List.length_cons, List.length_nil, ne_eq, not_false_eq_true, not_true_eq_false, decide_eq_true_eq, CDp, CMu]
      rw [← hm]
      have m1 : lo < m := by omega
      have m2 : m < hi := by omega
      refine ⟨by omega, by omega, by omega, by omega, by omega, ?_⟩
      refine iteC (fun c => ?_) (fun c => ?_)
      · refine ⟨(m, hi), ?_, rfl, rfl, Int.le_trans h2 (Int.le_of_lt m1), m2, h4, c, h6⟩
        show (hi - m).toNat < (hi - lo).toNat
        omega
      · refine ⟨(lo, m), ?_, rfl, rfl, h2, m1, Int.le_trans (Int.le_of_lt m2) h4, h5, Int.not_le.mp c⟩
        show (m - lo).toNat < (hi - lo).toNat
        omega
    · obtain ⟨⟨y, e⟩, e2, h2, h3, h4, h5, h6⟩ := hP
      obtain ⟨lo, hi⟩ := p
      simp only at h2 h3 h4 h5 h6 e ht
      subst e e2
      have hp : ¬ 1 < hi - lo := of_decide_eq_false ht
      have : hi = lo + 1 := by omega
      subst this
      simp only [ap_seq, ap_next, ap_asg, ap_gName, ap_ret, ap_retN, ap_drop, ap_ifS, ap_break, ap_cont, ap_par, ap_aug, ap_ip, ap_gSub, ap_gTup, ap_gNil, ap_gCons, ap_var, ap_c, ap_op, ap_un, ap_if, ap_test, ap_B, ap_and, ap_or, ap_not, ap_andV, ap_orV, ap_notV, ap_nil, ap_cons, ap_tup, ap_lst, ap_cb, ap_bm, ap_call, ap_chain, ap_rI, ap_rI0, ap_rU, ap_rEq, ap_rNe, ap_revT, ap_sl, ap_part, ap_noPart, ap_ixLI, ap_ixTI, ap_ixLV, ap_ixTV, ap_len, ap_setLI, ap_setLV, ap_appI, ap_appV, ap_tupL, ap_listS, ap_sumLI, ap_sumTI, ap_repLI, ap_intI, ap_intB, ap_eqTI, ap_neTI, ap_eqLI, ap_neLI, ap_isi, ap_for, ap_rng1, ap_rng2, ap_iList, ap_iTup, ap_lc, ap_yes, ap_cut, ap_gTupH, ap_fmt, ap_jsn, ap_jsc, ap_gcd, ap_isqrt, ap_ixL, tyV_l, wipe_nil, wipe_cons, upd_same, List.set_cons_zero, List.set_cons_succ, List.getElem?_cons_zero, List.getElem?_cons_succ, List.cons_append, List.nil_append, List.append_nil, Option.some.injEq, V.int.injEq, V.ref.injEq, V.bl.injEq, V.str.injEq, V.ty.injEq, Bool.not_true, Bool.not_false, HO.lst.injEq, HO.tup.injEq, reduceCtorEq, Int.reduceToNat, Int.reduceLT, Int.reduceLE, Nat.reduceAdd, Int.cast_ofNat_Int, gi_c0, gi_c1, gi_c2, gi_c3, Int.natCast_inj, map_int_inj, map_nil_iff, List.cons.injEq, exists_eq_left, exists_eq_left', exists_eq, exists_eq', exists_and_left, exists_and_right, exists_const, and_assoc, and_true, true_and, and_false, false_and, or_false, false_or, or_true, true_or, ite_true, ite_false, if_true, if_false, Bool.false_eq_true, own_cons, own_nil, le1, le2, le3, le4, me_cons, me_nil, List.length_map, List.length_cons, List.length_nil, ne_eq, not_false_eq_true, not_true_eq_false, decide_eq_true_eq]
      exact q lo h2 (by omega) h5 h6
theorem str_len (a b : Str) : (a ++ b).length = a.length + b.length := Array.size_append
theorem str_assoc (a b c : Str) : a ++ b ++ c = a ++ (b ++ c) := congrArg Str.mk Array.append_assoc
theorem str_empty (a : Str) : Str.empty ++ a = a := congrArg Str.mk Array.empty_append
theorem str_empty2 (a : Str) : a ++ Str.empty = a := congrArg Str.mk Array.append_empty
theorem log60 {i : Int} (h : -(10 ^ 60) < i ∧ i < 10 ^ 60) : i.natAbs.log2 < 1920 := by
  have : i.natAbs < 2 ^ 200 := by omega
  exact Nat.lt_of_lt_of_le (PySem.Flt.log2_lt_of (by decide) this) (by decide)
/-- the text of a ratio -/
def txt (a b : Int) : Str := if b = 1 then Str.ofString (toString a) else Str.ofString (toString a) ++ (Str.ofString "/" ++ Str.ofString (toString b))
def sp_ratio_text : Sp := fun vs H Q _ => ∃ (p : Addr) (a b : Int), vs = [.ref p] ∧ H p = some (TI [a, b]) ∧ Rat a b ∧ Q (.str (txt a b)) H
theorem ok_ratio_text (T : Tx K mg) : FnOk P w K mg base CX0 4 T.f_ratio_text T.d_ratio_text p_ratio_text sp_ratio_text := by
  refine T.F_ratio_text.ok sc_ratio_text (fun vs H Q E h => ?_) (fun cdv A outer s H vs Q E hr h => ?_)
  · obtain ⟨p, a, b, rfl, _⟩ := h
    rfl
  · obtain ⟨p, a, b, rfl, hp, rp, k⟩ := h
    refine ⟨_, (pss_cons (ps_expr (pe_call (ok_need_ratio T) (hr.mono (by decide)) (by rfl) T.m_need_ratio T.F_need_ratio.kp T.b_need_ratio .nil pass0 (pa_cons (pv 0) pa_nil)))
      (pss_cons (ps_asg (pv 0) (pg_tupH (n := 2) (by rfl) (pgs_cons (pg_name (i := 1) sc_ratio_text.nd rfl (by first | exact .inl rfl | exact .inr rfl)) (pgs_cons (pg_name (i := 2) sc_ratio_text.nd rfl (by first | exact .inl rfl | exact .inr rfl)) pgs_nil))))
      (pss_cons (ps_if (pt_cmpR op_eq (pv 2) pe_int (nomark _)) (pss_one (ps_ret (pe_callTy call_str_int (by rfl) T.z_str (by decide +kernel) (pa_cons (pv 1) pa_nil)))) pss_nil)
      (pss_one (ps_ret (pe_joined (.cons (pe_fmt (pv 1)) (.cons pe_str (.cons (pe_fmt (pv 2)) .nil))))))))), ?_⟩
    rw [st_ratio_text]
    simp only [ap_seq, ap_next, ap_asg, ap_gName, ap_ret, ap_retN, ap_drop, ap_ifS, ap_break, ap_cont, ap_par, ap_aug, ap_ip, ap_gSub, ap_gTup, ap_gNil, ap_gCons, ap_var, ap_c, ap_op, ap_un, ap_if, ap_test, ap_B, ap_and, ap_or, ap_not, ap_andV, ap_orV, ap_notV, ap_nil, ap_cons, ap_tup, ap_lst, ap_cb, ap_bm, ap_call, ap_chain, ap_rI, ap_rI0, ap_rU, ap_rEq, ap_rNe, ap_revT, ap_sl, ap_part, ap_noPart, ap_ixLI, ap_ixTI, ap_ixLV, ap_ixTV, ap_len, ap_setLI, ap_setLV, ap_appI, ap_appV, ap_tupL, ap_listS, ap_sumLI, ap_sumTI, ap_repLI, ap_intI, ap_intB, ap_eqTI, ap_neTI, ap_eqLI, ap_neLI, ap_isi, ap_for, ap_rng1, ap_rng2, ap_iList, ap_iTup, ap_lc, ap_yes, ap_cut, ap_gTupH, ap_fmt, ap_jsn, ap_jsc, ap_gcd, ap_isqrt, ap_ixL, tyV_l, wipe_nil, wipe_cons, upd_same, List.set_cons_zero, List.set_cons_succ, List.getElem?_cons_zero, List.getElem?_cons_succ, List.cons_append, List.nil_append, List.append_nil, Option.some.injEq, V.int.injEq, V.ref.injEq, V.bl.injEq, V.str.injEq, V.ty.injEq, Bool.not_true, Bool.not_false, HO.lst.injEq, HO.tup.injEq, reduceCtorEq, Int.reduceToNat, Int.reduceLT, Int.reduceLE, Nat.reduceAdd, Int.cast_ofNat_Int, gi_c0, gi_c1, gi_c2, gi_c3, Int.natCast_inj, map_int_inj, map_nil_iff, List.cons.injEq, exists_eq_left, exists_eq_left', exists_eq, exists_eq', exists_and_left, exists_and_right, exists_const, and_assoc, and_true, true_and, and_false, false_and, or_false, false_or, or_true, true_or, ite_true, ite_false, if_true, if_false, Bool.false_eq_true, own_cons, own_nil, le1, le2, le3, le4, me_cons, me_nil, List.length_map, List.length_cons, List.length_nil, ne_eq, not_false_eq_true, not_true_eq_false, decide_eq_true_eq, sp_need_ratio, hp]
    have a1 := rp.lo
    have a2 := rp.hi
    have a3 := rp.bo
    have a4 := rp.low.pos
    have l1 := log60 (i := a) ⟨a1, a2⟩
    have l2 := log60 (i := b) (by omega)
    have n1 := int_text_len_1921 l1
    have n2 := int_text_len_1921 l2
    refine ⟨rp.v hp, rfl, iteC (fun c => ?_) (fun c => ?_)⟩
    · refine ⟨l1, ?_⟩
      have : txt a b = Str.ofString (toString a) := if_pos c
      rw [this] at k
      exact k
    · have e1 : txt a b = Str.ofString (toString a) ++ (Str.ofString "/" ++ Str.ofString (toString b)) := if_neg c
      have n3 : (Str.ofString "/").length = 1 := by decide
      refine ⟨l1, ?_, ?_, l2, ?_, ?_⟩
      · rw [str_empty]
        exact Nat.le_of_lt (sz (by omega))
      · rw [str_empty, str_len]
        exact Nat.le_of_lt (sz (by omega))
      · rw [str_empty, str_len, str_len]
        exact Nat.le_of_lt (sz (by omega))
      · rw [str_empty, str_assoc, ← e1]
        exact k
def sp_law_text_of : Sp := fun vs H Q _ => ∃ (p : Addr) (a b : Int), vs = [.ref p] ∧ H p = some (TI [a, b]) ∧ Rat a b ∧ Q (.str (txt a b)) H
theorem ok_law_text_of (T : Tx K mg) : FnOk P w K mg base CX0 1 T.f_law_text_of T.d_law_text_of p_law_text_of sp_law_text_of := by
  refine T.F_law_text_of.ok sc_law_text_of (fun vs H Q E h => ?_) (fun cdv A outer s H vs Q E hr h => ?_)
  · obtain ⟨p, a, b, rfl, _⟩ := h
    rfl
  · obtain ⟨p, a, b, rfl, hp, rp, k⟩ := h
    refine ⟨_, (pss_one (ps_ret (pe_op op_add_str (pe_callTy call_str_int (by rfl) T.z_str (by decide +kernel) (pa_cons (pe_ix ix_TI (pv 0) pe_int (fun _ _ => rfl)) pa_nil)) (pe_ifExp (pt_cmpR op_eq (pe_ix ix_TI (pv 0) pe_int (fun _ _ => rfl)) pe_int (nomark _)) pe_str (pe_op op_add_str pe_str (pe_callTy call_str_int (by rfl) T.z_str (by decide +kernel) (pa_cons (pe_ix ix_TI (pv 0) pe_int (fun _ _ => rfl)) pa_nil))))))), ?_⟩
    rw [st_law_text_of]
    simp only [ap_seq, ap_next, ap_asg, ap_gName, ap_ret, ap_retN, ap_drop, ap_ifS, ap_break, ap_cont, ap_par, ap_aug, ap_ip, ap_gSub, ap_gTup, ap_gNil, ap_gCons, ap_var, ap_c, ap_op, ap_un, ap_if, ap_test, ap_B, ap_and, ap_or, ap_not, ap_andV, ap_orV, ap_notV, ap_nil, ap_cons, ap_tup, ap_lst, ap_cb, ap_bm, ap_call, ap_chain, ap_rI, ap_rI0, ap_rU, ap_rEq, ap_rNe, ap_revT, ap_sl, ap_part, ap_noPart, ap_ixLI, ap_ixTI, ap_ixLV, ap_ixTV, ap_len, ap_setLI, ap_setLV, ap_appI, ap_appV, ap_tupL, ap_listS, ap_sumLI, ap_sumTI, ap_repLI, ap_intI, ap_intB, ap_eqTI, ap_neTI, ap_eqLI, ap_neLI, ap_isi, ap_for, ap_rng1, ap_rng2, ap_iList, ap_iTup, ap_lc, ap_yes, ap_cut, ap_gTupH, ap_fmt, ap_jsn, ap_jsc, ap_gcd, ap_isqrt, ap_ixL, tyV_l, wipe_nil, wipe_cons, upd_same, List.set_cons_zero, List.set_cons_succ, List.getElem?_cons_zero, List.getElem?_cons_succ, List.cons_append, List.nil_append, List.append_nil, Option.some.injEq, V.int.injEq, V.ref.injEq, V.bl.injEq, V.str.injEq, V.ty.injEq, Bool.not_true, Bool.not_false, HO.lst.injEq, HO.tup.injEq, reduceCtorEq, Int.reduceToNat, Int.reduceLT, Int.reduceLE, Nat.reduceAdd, Int.cast_ofNat_Int, gi_c0, gi_c1, gi_c2, gi_c3, Int.natCast_inj, map_int_inj, map_nil_iff, List.cons.injEq, exists_eq_left, exists_eq_left', exists_eq, exists_eq', exists_and_left, exists_and_right, exists_const, and_assoc, and_true, true_and, and_false, false_and, or_false, false_or, or_true, true_or, ite_true, ite_false, if_true, if_false, Bool.false_eq_true, own_cons, own_nil, le1, le2, le3, le4, me_cons, me_nil, List.length_map, List.length_cons, List.length_nil, ne_eq, not_false_eq_true, not_true_eq_false, decide_eq_true_eq, hp]
    have a1 := rp.lo
    have a2 := rp.hi
    have a3 := rp.bo
    have a4 := rp.low.pos
    have l1 := log60 (i := a) ⟨a1, a2⟩
    have l2 := log60 (i := b) (by omega)
    have n1 := int_text_len_1921 l1
    have n2 := int_text_len_1921 l2
    have n3 : (Str.ofString "/").length = 1 := by decide
    have n4 : (Str.ofString "").length = 0 := by decide
    have n5 : ∀ x : Str, x ++ Str.ofString "" = x := str_empty2
    refine ⟨l1, rfl, iteC (fun c => ?_) (fun c => ?_)⟩
    · have e1 : txt a b = Str.ofString (toString a) := if_pos c
      rw [n5, ← e1]
      rw [← e1] at n1
      exact ⟨Nat.le_of_lt (sz (by omega)), k⟩
    · have e1 : txt a b = Str.ofString (toString a) ++ (Str.ofString "/" ++ Str.ofString (toString b)) := if_neg c
      rw [← e1]
      exact ⟨l2, Nat.le_of_lt (sz (by omega)), by rw [str_len]; exact Nat.le_of_lt (sz (by omega)), k⟩
def sp_law_root_due : Sp := fun vs H Q _ => ∃ (p : Addr) (a b : Int), vs = [.ref p] ∧ H p = some (TI [a, b]) ∧ Rat a b ∧ ∀ H' x, Same H H' → RootV H' x a b → Q x H'
theorem root_of_bounds {n r k : Int} (hr : 0 ≤ r) (hk : 0 ≤ k) (h1 : r * r ≤ n) (h2 : n < (r + 1) * (r + 1)) (e : k * k = n) : r = k := by
  obtain ⟨a, rfl⟩ := Int.eq_ofNat_of_zero_le hr
  obtain ⟨b, rfl⟩ := Int.eq_ofNat_of_zero_le hk
  have h3 : M00.IsRt (b * b) a := ⟨by
    rw [← e] at h1
    exact_mod_cast h1, by
    rw [← e] at h2
    exact_mod_cast h2⟩
  have h4 : M00.IsRt (b * b) b := ⟨Nat.le_refl _, by
    have : (b + 1) * (b + 1) = b * b + 2 * b + 1 := by grind
    omega⟩
  rw [isRt_uniq h3 h4]
theorem ok_law_root_due (T : Tx K mg) : FnOk P w K mg base CX0 2 T.f_law_root_due T.d_law_root_due p_law_root_due sp_law_root_due := by
  refine T.F_law_root_due.ok sc_law_root_due (fun vs H Q E h => ?_) (fun cdv A outer s H vs Q E hr h => ?_)
  · obtain ⟨p, a, b, rfl, _⟩ := h
    rfl
  · obtain ⟨p, a, b, rfl, hp, rp, k⟩ := h
    refine ⟨_, (pss_cons (ps_if (pt_cmpR op_lt (pe_ix ix_TI (pv 0) pe_int (fun _ _ => rfl)) pe_int (nomark _)) (pss_one (ps_ret pe_non)) pss_nil)
      (pss_cons (ps_par (i := 1) (j := 2) (by rfl) sc_law_root_due.nd rfl rfl (by decide) rfl rfl (pa_cons (pe_call (ok_law_int_root T) (hr.mono (by decide)) (by rfl) T.m_law_int_root T.F_law_int_root.kp T.b_law_int_root .nil pass0 (pa_cons (pe_ix ix_TI (pv 0) pe_int (fun _ _ => rfl)) pa_nil)) (pa_cons (pe_call (ok_law_int_root T) (hr.mono (by decide)) (by rfl) T.m_law_int_root T.F_law_int_root.kp T.b_law_int_root .nil pass0 (pa_cons (pe_ix ix_TI (pv 0) pe_int (fun _ _ => rfl)) pa_nil)) pa_nil)) (by rfl))
      (pss_one (ps_ret (pe_ifExp (PW.pt (pw_and (pt_cmpR op_eq (pe_op op_mulB (pv 1) (pv 1)) (pe_ix ix_TI (pv 0) pe_int (fun _ _ => rfl)) (nomark _)) (pw_and1 (pt_cmpR op_eq (pe_op op_mulB (pv 2) (pv 2)) (pe_ix ix_TI (pv 0) pe_int (fun _ _ => rfl)) (nomark _))))) (pe_tup (pa_cons (pv 1) (pa_cons (pv 2) pa_nil))) pe_non))))), ?_⟩
    rw [st_law_root_due]
    simp only [ap_seq, ap_next, ap_asg, ap_gName, ap_ret, ap_retN, ap_drop, ap_ifS, ap_break, ap_cont, ap_par, ap_aug, ap_ip, ap_gSub, ap_gTup, ap_gNil, ap_gCons, ap_var, ap_c, ap_op, ap_un, ap_if, ap_test, ap_B, ap_and, ap_or, ap_not, ap_andV, ap_orV, ap_notV, ap_nil, ap_cons, ap_tup, ap_lst, ap_cb, ap_bm, ap_call, ap_chain, ap_rI, ap_rI0, ap_rU, ap_rEq, ap_rNe, ap_revT, ap_sl, ap_part, ap_noPart, ap_ixLI, ap_ixTI, ap_ixLV, ap_ixTV, ap_len, ap_setLI, ap_setLV, ap_appI, ap_appV, ap_tupL, ap_listS, ap_sumLI, ap_sumTI, ap_repLI, ap_intI, ap_intB, ap_eqTI, ap_neTI, ap_eqLI, ap_neLI, ap_isi, ap_for, ap_rng1, ap_rng2, ap_iList, ap_iTup, ap_lc, ap_yes, ap_cut, ap_gTupH, ap_fmt, ap_jsn, ap_jsc, ap_gcd, ap_isqrt, ap_ixL, tyV_l, wipe_nil, wipe_cons, upd_same, List.set_cons_zero, List.set_cons_succ, List.getElem?_cons_zero, List.getElem?_cons_succ, List.cons_append, List.nil_append, List.append_nil, Option.some.injEq, V.int.injEq, V.ref.injEq, V.bl.injEq, V.str.injEq, V.ty.injEq, Bool.not_true, Bool.not_false, HO.lst.injEq, HO.tup.injEq, reduceCtorEq, Int.reduceToNat, Int.reduceLT, Int.reduceLE, Nat.reduceAdd, Int.cast_ofNat_Int, gi_c0, gi_c1, gi_c2, gi_c3, Int.natCast_inj, map_int_inj, map_nil_iff, List.cons.injEq, exists_eq_left, exists_eq_left', exists_eq, exists_eq', exists_and_left, exists_and_right, exists_const, and_assoc, and_true, true_and, and_false, false_and, or_false, false_or, or_true, true_or, ite_true, ite_false, if_true, if_false, Bool.false_eq_true, own_cons, own_nil, le1, le2, le3, le4, me_cons, me_nil, List.length_map, List.length_cons, List.length_nil, ne_eq, not_false_eq_true, not_true_eq_false, decide_eq_true_eq, hp, CMu, sp_law_int_root]
    have a1 := rp.lo
    have a2 := rp.hi
    have a3 := rp.bo
    have a4 := rp.low.pos
    refine iteC (fun c => ?_) (fun c => ?_)
    · exact k H _ (Same.refl H) (.inl ⟨rfl, fun r s hr hs e1 e2 => by
        have := sq0 r
        omega⟩)
    · refine ⟨by omega, by omega, fun r r0 r1 r2 r3 => ⟨by omega, by omega, fun s s0 s1 s2 s3 => ?_⟩⟩
      refine ⟨by omega, by omega, by omega, by omega, rfl, ?_⟩
      refine iteC (fun c2 => ?_) (fun c2 => ?_)
      · refine ⟨by omega, by omega, by omega, by omega, rfl, ?_⟩
        refine iteC (fun c3 => ?_) (fun c3 => ?_)
        · refine ⟨by decide, fun t nt => k _ _ (same_upd nt) (.inr ⟨t, _, _, rfl, upd_same, r0, s0, c2, c3⟩)⟩
        · refine k H _ (Same.refl H) (.inl ⟨rfl, fun r' s' hr hs e1 e2 => c3 ?_⟩)
          rw [root_of_bounds s0 hs s2 s3 e2]
          exact e2
      · refine k H _ (Same.refl H) (.inl ⟨rfl, fun r' s' hr hs e1 e2 => c2 ?_⟩)
        rw [root_of_bounds r0 hr r2 r3 e1]
        exact e1
end
end My

namespace My
open PySem PySem.Spec PyProof.Rows L2 Pr M00
section
variable {P : Program} {w : World} {K : PySem.W.Frag} {mg : Str → Option Value} {base : Heap}
def M14 : Int := 10 ^ 14
theorem RatM.rat {m a b : Int} (r : RatM m a b) (h : m < 10 ^ 60) : Rat a b := ⟨r.low, by have := r.lo; omega, by have := r.hi; omega, by have := r.bo; omega⟩
theorem scal_int (i j : Int) : scal (.int i) (.int j) = true := rfl
theorem ne_false {x : List Int} : ¬ ((!decide (x = x)) = true) := by simp
theorem sq_low {a b : Int} (h : Low a b) : Low (a * a) (b * b) := by
  have g : Nat.Coprime a.natAbs b.natAbs := h.gcd
  have g1 := Nat.Coprime.mul_right g g
  have g2 : Nat.Coprime (a.natAbs * a.natAbs) (b.natAbs * b.natAbs) := Nat.Coprime.mul_left g1 g1
  refine ⟨Int.mul_pos h.pos h.pos, ?_⟩
  show (a * a).natAbs.gcd (b * b).natAbs = 1
  rw [Int.natAbs_mul, Int.natAbs_mul]
  exact g2
theorem neg_low {a b : Int} (h : Low a b) : Low (0 - a) b := ⟨h.pos, by
  rw [Int.zero_sub, Int.neg_gcd]
  exact h.gcd⟩
theorem RootV.mono {H H' : Hp} {x : V} {a b : Int} (S : Same H H') : RootV H x a b → RootV H' x a b
  | .inl h => .inl h
  | .inr ⟨p, r, s, e, hp, h⟩ => .inr ⟨p, r, s, e, S _ _ hp, h⟩
theorem sq_uniq {r s : Int} (hr : 0 ≤ r) (hs : 0 ≤ s) (e : r * r = s * s) : r = s := by
  by_cases h : r < s
  · have := Int.mul_self_lt_mul_self hr h
    omega
  · by_cases h2 : s < r
    · have := Int.mul_self_lt_mul_self hs h2
      omega
    · omega
theorem root_eq (K : PySem.W.Frag) {H : Hp} {x y : V} {a b : Int} (h : RootV H x a b) (k : RootV H y a b) : ∃ d, Dp K H x d ∧ Dp K H y d ∧ SeqAt.shaped d = true := by
  rcases h with ⟨rfl, n⟩ | ⟨p, r, s, rfl, hp, r0, s0, er, es⟩
  · rcases k with ⟨rfl, _⟩ | ⟨q, u, v, rfl, hq, u0, v0, eu, ev⟩
    · exact ⟨_, .non, .non, rfl⟩
    · exact (n u v u0 v0 eu ev).elim
  · rcases k with ⟨rfl, n⟩ | ⟨q, u, v, rfl, hq, u0, v0, eu, ev⟩
    · exact (n r s r0 s0 er es).elim
    · have e1 := sq_uniq r0 u0 (er.trans eu.symm)
      have e2 := sq_uniq s0 v0 (es.trans ev.symm)
      subst e1 e2
      exact ⟨_, .tup (.inl (.inl hp)) (dpAll_ints K H [r, s]), .tup (.inl (.inl hq)) (dpAll_ints K H [r, s]), rfl⟩
def sp_law_pair_right : Sp := fun vs H Q _ => ∃ (z p q : Addr) (a b c d : Int), vs = [.ref z, .ref p, .ref q] ∧ H p = some (TI [a, b]) ∧ RatM (10 ^ 14) a b ∧ H q = some (TI [c, d]) ∧ RatM (10 ^ 14) c d ∧ ∀ H', Same H H' → Q (.bl true) H'
theorem ok_law_pair_right (T : Tx K mg) : FnOk P w K mg base CX0 5 T.f_law_pair_right T.d_law_pair_right p_law_pair_right sp_law_pair_right := by
  refine T.F_law_pair_right.ok sc_law_pair_right (fun vs H Q E h => ?_) (fun cdv A outer s H vs Q E hr h => ?_)
  · obtain ⟨z, p, q, a, b, c, d, rfl, _⟩ := h
    rfl
  · obtain ⟨z, p, q, a, b, c, d, rfl, hp, mp, hq, mq, k⟩ := h
    have rp := mp.rat (by decide)
    have rq := mq.rat (by decide)
    have a1 := mp.lo
    have a2 := mp.hi
    have a3 := mp.bo
    have a4 := mp.low.pos
    have c1 := mq.lo
    have c2 := mq.hi
    have c3 := mq.bo
    have c4 := mq.low.pos
    have x1 := mulk (x := b) (y := d) (k := 15) (l := 15) (by omega) (by omega)
    have x2 := mulk (x := a) (y := c) (k := 15) (l := 15) (by omega) (by omega)
    have x3 := mulk (x := a) (y := d) (k := 15) (l := 15) (by omega) (by omega)
    have x4 := mulk (x := c) (y := b) (k := 15) (l := 15) (by omega) (by omega)
    have bd : 0 < b * d := Int.mul_pos a4 c4
    obtain ⟨T0, hT0⟩ : ∃ x, x = rt (a * d + c * b) (b * d) := ⟨_, rfl⟩
    obtain ⟨T1, hT1⟩ : ∃ x, x = rb (a * d + c * b) (b * d) := ⟨_, rfl⟩
    obtain ⟨P0, hP0⟩ : ∃ x, x = rt (a * c) (b * d) := ⟨_, rfl⟩
    obtain ⟨P1, hP1⟩ : ∃ x, x = rb (a * c) (b * d) := ⟨_, rfl⟩
    have tl := low (a * d + c * b) (b * d) (by omega)
    have pl := low (a * c) (b * d) (by omega)
    have tc := cross (a * d + c * b) (b * d) (by omega)
    have pc := cross (a * c) (b * d) (by omega)
    have tb := rt_le (t := a * d + c * b) (b := b * d) (B := 10 ^ 40) (by omega) (by omega)
    have tb1 := rb_le (t := a * d + c * b) (b := b * d) (B := 10 ^ 40) (by omega) (by omega)
    have pb := rt_le (t := a * c) (b := b * d) (B := 10 ^ 40) (by omega) (by omega)
    have pb1 := rb_le (t := a * c) (b := b * d) (B := 10 ^ 40) (by omega) (by omega)
    rw [← hT0, ← hT1] at tl tc
    rw [← hP0, ← hP1] at pl pc
    rw [← hT0] at tb
    rw [← hT1] at tb1
    rw [← hP0] at pb
    rw [← hP1] at pb1
    have rT : Rat T0 T1 := ⟨tl, by omega, by omega, by omega⟩
    have rP : Rat P0 P1 := ⟨pl, by omega, by omega, by omega⟩
    refine ⟨_, (pss_cons (ps_par (i := 3) (j := 4) (by rfl) sc_law_pair_right.nd rfl rfl (by decide) rfl rfl (pa_cons (pe_call (ok_law_ratio_sum T) (hr.mono (by decide)) (by rfl) T.m_law_ratio_sum T.F_law_ratio_sum.kp T.b_law_ratio_sum .nil pass0 (pa_cons (pv 1) (pa_cons (pv 2) pa_nil))) (pa_cons (pe_call (ok_law_ratio_product T) (hr.mono (by decide)) (by rfl) T.m_law_ratio_product T.F_law_ratio_product.kp T.b_law_ratio_product .nil pass0 (pa_cons (pv 1) (pa_cons (pv 2) pa_nil))) pa_nil)) (by rfl))
      (pss_cons (ps_if (PW.pt (pw_or (pt_cmpR (op_neTI hr.units) (pe_call (ok_plus T) (hr.mono (by decide)) (by rfl) T.m_plus T.F_plus.kp T.b_plus .nil pass0 (pa_cons (pv 1) (pa_cons (pv 2) pa_nil))) (pv 3) (nomark _)) (pw_or (pt_cmpR (op_neTI hr.units) (pe_call (ok_minus T) (hr.mono (by decide)) (by rfl) T.m_minus T.F_minus.kp T.b_minus .nil pass0 (pa_cons (pv 3) (pa_cons (pv 2) pa_nil))) (pv 1) (nomark _)) (pw_or1 (pt_cmpR (op_neTI hr.units) (pe_call (ok_times T) (hr.mono (by decide)) (by rfl) T.m_times T.F_times.kp T.b_times .nil pass0 (pa_cons (pv 1) (pa_cons (pv 2) pa_nil))) (pv 4) (nomark _)))))) (pss_one (ps_ret pe_bl)) pss_nil)
      (Evl.pss_cut (ps_if (pt_cmpR op_ne (pe_ix ix_TI (pv 2) pe_int (fun _ _ => rfl)) pe_int (nomark _)) (pss_cons (ps_set (i := 5) sc_law_pair_right.nd rfl (Or.inl rfl) (pe_call (ok_law_lowest T) (hr.mono (by decide)) (by rfl) T.m_law_lowest T.F_law_lowest.kp T.b_law_lowest .nil pass0 (pa_cons (pe_op op_mulB (pe_ix ix_TI (pv 1) pe_int (fun _ _ => rfl)) (pe_ix ix_TI (pv 2) pe_int (fun _ _ => rfl))) (pa_cons (pe_op op_mulB (pe_ix ix_TI (pv 1) pe_int (fun _ _ => rfl)) (pe_ix ix_TI (pv 2) pe_int (fun _ _ => rfl))) pa_nil))))
      (pss_one (ps_if (PW.pt (pw_or (pt_cmpR (op_neTI hr.units) (pe_call (ok_over T) (hr.mono (by decide)) (by rfl) T.m_over T.F_over.kp T.b_over .nil pass0 (pa_cons (pv 4) (pa_cons (pv 2) pa_nil))) (pv 1) (nomark _)) (pw_or1 (pt_cmpR (op_neTI hr.units) (pe_call (ok_over T) (hr.mono (by decide)) (by rfl) T.m_over T.F_over.kp T.b_over .nil pass0 (pa_cons (pv 1) (pa_cons (pv 2) pa_nil))) (pv 5) (nomark _))))) (pss_one (ps_ret pe_bl)) pss_nil))) pss_nil)
      (pss_cons (ps_par (i := 6) (j := 7) (by rfl) sc_law_pair_right.nd rfl rfl (by decide) rfl rfl (pa_cons (pe_op op_mulB (pe_ix ix_TI (pv 1) pe_int (fun _ _ => rfl)) (pe_ix ix_TI (pv 2) pe_int (fun _ _ => rfl))) (pa_cons (pe_op op_mulB (pe_ix ix_TI (pv 2) pe_int (fun _ _ => rfl)) (pe_ix ix_TI (pv 1) pe_int (fun _ _ => rfl))) pa_nil)) (by rfl))
      (pss_cons (ps_if (PW.pt (pw_or (pt_cmpR op_ne (pe_call (ok_compare T) (hr.mono (by decide)) (by rfl) T.m_compare T.F_compare.kp T.b_compare .nil pass0 (pa_cons (pv 1) (pa_cons (pv 2) pa_nil))) (pe_op op_sub (pe_callTy cr_intB (by rfl) T.z_int (by decide +kernel) (pa_cons (pe_cmpR op_gt (pv 6) (pv 7) (nomark _)) pa_nil)) (pe_callTy cr_intB (by rfl) T.z_int (by decide +kernel) (pa_cons (pe_cmpR op_lt (pv 6) (pv 7) (nomark _)) pa_nil))) (nomark _)) (pw_or1 (pt_cmpR op_ne (pe_call (ok_compare T) (hr.mono (by decide)) (by rfl) T.m_compare T.F_compare.kp T.b_compare .nil pass0 (pa_cons (pv 2) (pa_cons (pv 1) pa_nil))) (pe_op op_sub pe_int (pe_call (ok_compare T) (hr.mono (by decide)) (by rfl) T.m_compare T.F_compare.kp T.b_compare .nil pass0 (pa_cons (pv 1) (pa_cons (pv 2) pa_nil)))) (nomark _))))) (pss_one (ps_ret pe_bl)) pss_nil)
      (pss_cons (ps_set (i := 8) sc_law_pair_right.nd rfl (Or.inl rfl) (pe_call (ok_law_ratio_product T) (hr.mono (by decide)) (by rfl) T.m_law_ratio_product T.F_law_ratio_product.kp T.b_law_ratio_product .nil pass0 (pa_cons (pv 1) (pa_cons (pv 1) pa_nil))))
      (pss_cons (ps_for PassesOwn.never rfl (pi_tup (pe_tup (pa_cons (pv 1) (pa_cons (pv 8) (pa_cons (pe_call (ok_law_ratio_product T) (hr.mono (by decide)) (by rfl) T.m_law_ratio_product T.F_law_ratio_product.kp T.b_law_ratio_product .nil pass0 (pa_cons (pv 8) (pa_cons (pe_tup (pa_cons pe_int (pa_cons pe_int pa_nil))) pa_nil))) (pa_cons (pe_tup (pa_cons (pe_op op_sub pe_int (pe_ix ix_TI (pv 8) pe_int (fun _ _ => rfl))) (pa_cons (pe_ix ix_TI (pv 8) pe_int (fun _ _ => rfl)) pa_nil))) pa_nil)))))) (pg_name (i := 9) sc_law_pair_right.nd rfl (by first | exact .inl rfl | exact .inr rfl))
      (pss_one (ps_if (PW.pt (pw_or (pt_cmpR (op_neD hr.units) (pe_call (ok_root_of T) (hr.mono (by decide)) (by rfl) T.m_root_of T.F_root_of.kp T.b_root_of .nil pass0 (pa_cons (pv 9) pa_nil)) (pe_call (ok_law_root_due T) (hr.mono (by decide)) (by rfl) T.m_law_root_due T.F_law_root_due.kp T.b_law_root_due .nil pass0 (pa_cons (pv 9) pa_nil)) (nomark _)) (pw_or (pt_cmpR op_ne (pe_call (ok_ratio_text T) (hr.mono (by decide)) (by rfl) T.m_ratio_text T.F_ratio_text.kp T.b_ratio_text .nil pass0 (pa_cons (pv 9) pa_nil)) (pe_call (ok_law_text_of T) (hr.mono (by decide)) (by rfl) T.m_law_text_of T.F_law_text_of.kp T.b_law_text_of .nil pass0 (pa_cons (pv 9) pa_nil)) (nomark _)) (pw_or1 (pt_not (pt_val (pe_call (ok_is_ratio T) (hr.mono (by decide)) (by rfl) T.m_is_ratio T.F_is_ratio.kp T.b_is_ratio .nil pass0 (pa_cons (pv 9) pa_nil)))))))) (pss_one (ps_ret pe_bl)) pss_nil)))
      (pss_one (ps_ret (pe_cmpR (op_eqD hr.units) (pe_call (ok_root_of T) (hr.mono (by decide)) (by rfl) T.m_root_of T.F_root_of.kp T.b_root_of .nil pass0 (pa_cons (pv 8) pa_nil)) (pe_tup (pa_cons (pe_callB call_abs (by rfl) T.z_abs (by decide +kernel) (pa_cons (pe_ix ix_TI (pv 1) pe_int (fun _ _ => rfl)) pa_nil)) (pa_cons (pe_ix ix_TI (pv 1) pe_int (fun _ _ => rfl)) pa_nil))) (nomark _))))))))))), ?_⟩
    rw [st_law_pair_right]
    simp only [ap_seq, ap_next, ap_asg, ap_gName, ap_ret, ap_retN, ap_drop, ap_ifS, ap_break, ap_cont, ap_par, ap_aug, ap_ip, ap_gSub, ap_gTup, ap_gNil, ap_gCons, ap_var, ap_c, ap_op, ap_un, ap_if, ap_test, ap_B, ap_and, ap_or, ap_not, ap_andV, ap_orV, ap_notV, ap_nil, ap_cons, ap_tup, ap_lst, ap_cb, ap_bm, ap_call, ap_chain, ap_rI, ap_rI0, ap_rU, ap_rEq, ap_rNe, ap_revT, ap_sl, ap_part, ap_noPart, ap_ixLI, ap_ixTI, ap_ixLV, ap_ixTV, ap_len, ap_setLI, ap_setLV, ap_appI, ap_appV, ap_tupL, ap_listS, ap_sumLI, ap_sumTI, ap_repLI, ap_intI, ap_intB, ap_eqTI, ap_neTI, ap_eqLI, ap_neLI, ap_isi, ap_for, ap_rng1, ap_rng2, ap_iList, ap_iTup, ap_lc, ap_yes, ap_cut, ap_gTupH, ap_fmt, ap_jsn, ap_jsc, ap_gcd, ap_isqrt, ap_ixL, tyV_l, wipe_nil, wipe_cons, upd_same, List.set_cons_zero, List.set_cons_succ, List.getElem?_cons_zero, List.getElem?_cons_succ, List.cons_append, List.nil_append, List.append_nil, Option.some.injEq, V.int.injEq, V.ref.injEq, V.bl.injEq, V.str.injEq, V.ty.injEq, Bool.not_true, Bool.not_false, HO.lst.injEq, HO.tup.injEq, reduceCtorEq, Int.reduceToNat, Int.reduceLT, Int.reduceLE, Nat.reduceAdd, Int.cast_ofNat_Int, gi_c0, gi_c1, gi_c2, gi_c3, Int.natCast_inj, map_int_inj, map_nil_iff, List.cons.injEq, exists_eq_left, exists_eq_left', exists_eq, exists_eq', exists_and_left, exists_and_right, exists_const, and_assoc, and_true, true_and, and_false, false_and, or_false, false_or, or_true, true_or, ite_true, ite_false, if_true, if_false, Bool.false_eq_true, own_cons, own_nil, le1, le2, le3, le4, me_cons, me_nil, List.length_map, List.length_cons, List.length_nil, ne_eq, not_false_eq_true, not_true_eq_false, decide_eq_true_eq]
    refine ⟨p, q, a, b, c, d, rfl, hp, rp, hq, rq, fun H1 t1 s1 n1 e1 => ?_⟩
    refine ⟨p, q, a, b, c, d, rfl, s1 _ _ hp, rp, s1 _ _ hq, rq, fun H2 t2 s2 n2 e2 => ?_⟩
    rw [← hT0, ← hT1] at e1
    rw [← hP0, ← hP1] at e2
    have S2 := s1.trans s2
    refine ⟨p, q, a, b, c, d, rfl, S2 _ _ hp, rp, S2 _ _ hq, rq, fun H3 t3 s3 n3 e3 => ?_⟩
    rw [← hT0, ← hT1] at e3
    have S3 := S2.trans s3
    have e1c := s3 _ _ (s2 _ _ e1)
    simp only [ap_seq, ap_next, ap_asg, ap_gName, ap_ret, ap_retN, ap_drop, ap_ifS, ap_break, ap_cont, ap_par, ap_aug, ap_ip, ap_gSub, ap_gTup, ap_gNil, ap_gCons, ap_var, ap_c, ap_op, ap_un, ap_if, ap_test, ap_B, ap_and, ap_or, ap_not, ap_andV, ap_orV, ap_notV, ap_nil, ap_cons, ap_tup, ap_lst, ap_cb, ap_bm, ap_call, ap_chain, ap_rI, ap_rI0, ap_rU, ap_rEq, ap_rNe, ap_revT, ap_sl, ap_part, ap_noPart, ap_ixLI, ap_ixTI, ap_ixLV, ap_ixTV, ap_len, ap_setLI, ap_setLV, ap_appI, ap_appV, ap_tupL, ap_listS, ap_sumLI, ap_sumTI, ap_repLI, ap_intI, ap_intB, ap_eqTI, ap_neTI, ap_eqLI, ap_neLI, ap_isi, ap_for, ap_rng1, ap_rng2, ap_iList, ap_iTup, ap_lc, ap_yes, ap_cut, ap_gTupH, ap_fmt, ap_jsn, ap_jsc, ap_gcd, ap_isqrt, ap_ixL, tyV_l, wipe_nil, wipe_cons, upd_same, List.set_cons_zero, List.set_cons_succ, List.getElem?_cons_zero, List.getElem?_cons_succ, List.cons_append, List.nil_append, List.append_nil, Option.some.injEq, V.int.injEq, V.ref.injEq, V.bl.injEq, V.str.injEq, V.ty.injEq, Bool.not_true, Bool.not_false, HO.lst.injEq, HO.tup.injEq, reduceCtorEq, Int.reduceToNat, Int.reduceLT, Int.reduceLE, Nat.reduceAdd, Int.cast_ofNat_Int, gi_c0, gi_c1, gi_c2, gi_c3, Int.natCast_inj, map_int_inj, map_nil_iff, List.cons.injEq, exists_eq_left, exists_eq_left', exists_eq, exists_eq', exists_and_left, exists_and_right, exists_const, and_assoc, and_true, true_and, and_false, false_and, or_false, false_or, or_true, true_or, ite_true, ite_false, if_true, if_false, Bool.false_eq_true, own_cons, own_nil, le1, le2, le3, le4, me_cons, me_nil, List.length_map, List.length_cons, List.length_nil, ne_eq, not_false_eq_true, not_true_eq_false, decide_eq_true_eq, e3, e1c]
    refine iteC (fun c => absurd c (by simp)) fun _ => ?_
    refine ⟨t1, q, T0, T1, c, d, rfl, e1c, rT, S3 _ _ hq, rq, fun H4 t4 s4 n4 e4 => ?_⟩
    have S4 := S3.trans s4
    have hp4 := S4 _ _ hp
    have m1 := told (a := a) (b := b) (x := T0 * d - c * T1) (y := T1 * d) mp.low (by
      have := Int.mul_pos tl.pos c4
      omega) (by
      have h : (T0 * d - c * T1) * b * (b * d) = a * (T1 * d) * (b * d) := by grind
      exact Int.eq_of_mul_eq_mul_right (by omega) h)
    rw [m1.1, m1.2] at e4
    simp only [ap_seq, ap_next, ap_asg, ap_gName, ap_ret, ap_retN, ap_drop, ap_ifS, ap_break, ap_cont, ap_par, ap_aug, ap_ip, ap_gSub, ap_gTup, ap_gNil, ap_gCons, ap_var, ap_c, ap_op, ap_un, ap_if, ap_test, ap_B, ap_and, ap_or, ap_not, ap_andV, ap_orV, ap_notV, ap_nil, ap_cons, ap_tup, ap_lst, ap_cb, ap_bm, ap_call, ap_chain, ap_rI, ap_rI0, ap_rU, ap_rEq, ap_rNe, ap_revT, ap_sl, ap_part, ap_noPart, ap_ixLI, ap_ixTI, ap_ixLV, ap_ixTV, ap_len, ap_setLI, ap_setLV, ap_appI, ap_appV, ap_tupL, ap_listS, ap_sumLI, ap_sumTI, ap_repLI, ap_intI, ap_intB, ap_eqTI, ap_neTI, ap_eqLI, ap_neLI, ap_isi, ap_for, ap_rng1, ap_rng2, ap_iList, ap_iTup, ap_lc, ap_yes, ap_cut, ap_gTupH, ap_fmt, ap_jsn, ap_jsc, ap_gcd, ap_isqrt, ap_ixL, tyV_l, wipe_nil, wipe_cons, upd_same, List.set_cons_zero, List.set_cons_succ, List.getElem?_cons_zero, List.getElem?_cons_succ, List.cons_append, List.nil_append, List.append_nil, Option.some.injEq, V.int.injEq, V.ref.injEq, V.bl.injEq, V.str.injEq, V.ty.injEq, Bool.not_true, Bool.not_false, HO.lst.injEq, HO.tup.injEq, reduceCtorEq, Int.reduceToNat, Int.reduceLT, Int.reduceLE, Nat.reduceAdd, Int.cast_ofNat_Int, gi_c0, gi_c1, gi_c2, gi_c3, Int.natCast_inj, map_int_inj, map_nil_iff, List.cons.injEq, exists_eq_left, exists_eq_left', exists_eq, exists_eq', exists_and_left, exists_and_right, exists_const, and_assoc, and_true, true_and, and_false, false_and, or_false, false_or, or_true, true_or, ite_true, ite_false, if_true, if_false, Bool.false_eq_true, own_cons, own_nil, le1, le2, le3, le4, me_cons, me_nil, List.length_map, List.length_cons, List.length_nil, ne_eq, not_false_eq_true, not_true_eq_false, decide_eq_true_eq, e4, hp4]
    refine iteC (fun c => absurd c (by simp)) fun _ => ?_
    refine ⟨p, q, a, b, c, d, rfl, hp4, rp, S4 _ _ hq, rq, fun H5 t5 s5 n5 e5 => ?_⟩
    rw [← hP0, ← hP1] at e5
    have S5 := S4.trans s5
    have e2c := s5 _ _ (s4 _ _ (s3 _ _ e2))
    have hp5 := S5 _ _ hp
    have hq5 := S5 _ _ hq
    simp only [ap_seq, ap_next, ap_asg, ap_gName, ap_ret, ap_retN, ap_drop, ap_ifS, ap_break, ap_cont, ap_par, ap_aug, ap_ip, ap_gSub, ap_gTup, ap_gNil, ap_gCons, ap_var, ap_c, ap_op, ap_un, ap_if, ap_test, ap_B, ap_and, ap_or, ap_not, ap_andV, ap_orV, ap_notV, ap_nil, ap_cons, ap_tup, ap_lst, ap_cb, ap_bm, ap_call, ap_chain, ap_rI, ap_rI0, ap_rU, ap_rEq, ap_rNe, ap_revT, ap_sl, ap_part, ap_noPart, ap_ixLI, ap_ixTI, ap_ixLV, ap_ixTV, ap_len, ap_setLI, ap_setLV, ap_appI, ap_appV, ap_tupL, ap_listS, ap_sumLI, ap_sumTI, ap_repLI, ap_intI, ap_intB, ap_eqTI, ap_neTI, ap_eqLI, ap_neLI, ap_isi, ap_for, ap_rng1, ap_rng2, ap_iList, ap_iTup, ap_lc, ap_yes, ap_cut, ap_gTupH, ap_fmt, ap_jsn, ap_jsc, ap_gcd, ap_isqrt, ap_ixL, tyV_l, wipe_nil, wipe_cons, upd_same, List.set_cons_zero, List.set_cons_succ, List.getElem?_cons_zero, List.getElem?_cons_succ, List.cons_append, List.nil_append, List.append_nil, Option.some.injEq, V.int.injEq, V.ref.injEq, V.bl.injEq, V.str.injEq, V.ty.injEq, Bool.not_true, Bool.not_false, HO.lst.injEq, HO.tup.injEq, reduceCtorEq, Int.reduceToNat, Int.reduceLT, Int.reduceLE, Nat.reduceAdd, Int.cast_ofNat_Int, gi_c0, gi_c1, gi_c2, gi_c3, Int.natCast_inj, map_int_inj, map_nil_iff, List.cons.injEq, exists_eq_left, exists_eq_left', exists_eq, exists_eq', exists_and_left, exists_and_right, exists_const, and_assoc, and_true, true_and, and_false, false_and, or_false, false_or, or_true, true_or, ite_true, ite_false, if_true, if_false, Bool.false_eq_true, own_cons, own_nil, le1, le2, le3, le4, me_cons, me_nil, List.length_map, List.length_cons, List.length_nil, ne_eq, not_false_eq_true, not_true_eq_false, decide_eq_true_eq, e5, e2c, hp5, hq5]
    refine iteC (fun c => absurd c (by simp)) fun _ => ?_
    refine ⟨rfl, fun (σ' : L2.St) (G : Hp) => (∃ y5 y6 y7 y8 y9, σ' = [some (V.ref z), some (V.ref p), some (V.ref q), some (V.ref t1), some (V.ref t2), y5, y6, y7, y8, y9]) ∧ Same H G, iteC (fun cc => ?_) (fun cc => ⟨⟨_, _, _, _, _, rfl⟩, S5⟩), fun σ' G hP => ?_⟩
    · skip
      have c0 : c ≠ 0 := by simpa using cc
      have x5 := mulk (x := b) (y := c) (k := 15) (l := 15) (by omega) (by omega)
      simp only [ap_seq, ap_next, ap_asg, ap_gName, ap_ret, ap_retN, ap_drop, ap_ifS, ap_break, ap_cont, ap_par, ap_aug, ap_ip, ap_gSub, ap_gTup, ap_gNil, ap_gCons, ap_var, ap_c, ap_op, ap_un, ap_if, ap_test, ap_B, ap_and, ap_or, ap_not, ap_andV, ap_orV, ap_notV, ap_nil, ap_cons, ap_tup, ap_lst, ap_cb, ap_bm, ap_call, ap_chain, ap_rI, ap_rI0, ap_rU, ap_rEq, ap_rNe, ap_revT, ap_sl, ap_part, ap_noPart, ap_ixLI, ap_ixTI, ap_ixLV, ap_ixTV, ap_len, ap_setLI, ap_setLV, ap_appI, ap_appV, ap_tupL, ap_listS, ap_sumLI, ap_sumTI, ap_repLI, ap_intI, ap_intB, ap_eqTI, ap_neTI, ap_eqLI, ap_neLI, ap_isi, ap_for, ap_rng1, ap_rng2, ap_iList, ap_iTup, ap_lc, ap_yes, ap_cut, ap_gTupH, ap_fmt, ap_jsn, ap_jsc, ap_gcd, ap_isqrt, ap_ixL, tyV_l, wipe_nil, wipe_cons, upd_same, List.set_cons_zero, List.set_cons_succ, List.getElem?_cons_zero, List.getElem?_cons_succ, List.cons_append, List.nil_append, List.append_nil, Option.some.injEq, V.int.injEq, V.ref.injEq, V.bl.injEq, V.str.injEq, V.ty.injEq, Bool.not_true, Bool.not_false, HO.lst.injEq, HO.tup.injEq, reduceCtorEq, Int.reduceToNat, Int.reduceLT, Int.reduceLE, Nat.reduceAdd, Int.cast_ofNat_Int, gi_c0, gi_c1, gi_c2, gi_c3, Int.natCast_inj, map_int_inj, map_nil_iff, List.cons.injEq, exists_eq_left, exists_eq_left', exists_eq, exists_eq', exists_and_left, exists_and_right, exists_const, and_assoc, and_true, true_and, and_false, false_and, or_false, false_or, or_true, true_or, ite_true, ite_false, if_true, if_false, Bool.false_eq_true, own_cons, own_nil, le1, le2, le3, le4, me_cons, me_nil, List.length_map, List.length_cons, List.length_nil, ne_eq, not_false_eq_true, not_true_eq_false, decide_eq_true_eq, sp_law_lowest, CMu]
      refine ⟨by omega, by omega, by omega, by omega, by omega, by omega, by omega, by omega, ?_⟩
      refine ⟨a * d, b * c, rfl, Int.mul_ne_zero (by omega) c0, by omega, by omega, fun H6 t6 s6 n6 e6 => ?_⟩
      have S6 := S5.trans s6
      have e2d := s6 _ _ e2c
      refine ⟨t2, q, P0, P1, c, d, rfl, e2d, rP, S6 _ _ hq, rq, c0, fun H7 t7 s7 n7 e7 => ?_⟩
      have S7 := S6.trans s7
      have m2 := told (a := a) (b := b) (x := P0 * d) (y := P1 * c) mp.low (Int.mul_ne_zero (by omega) c0) (by
        have h : (P0 * d) * b * 1 = a * (P1 * c) * 1 := by grind
        omega)
      rw [m2.1, m2.2] at e7
      have hp7 := S7 _ _ hp
      have hq7 := S7 _ _ hq
      simp only [ap_seq, ap_next, ap_asg, ap_gName, ap_ret, ap_retN, ap_drop, ap_ifS, ap_break, ap_cont, ap_par, ap_aug, ap_ip, ap_gSub, ap_gTup, ap_gNil, ap_gCons, ap_var, ap_c, ap_op, ap_un, ap_if, ap_test, ap_B, ap_and, ap_or, ap_not, ap_andV, ap_orV, ap_notV, ap_nil, ap_cons, ap_tup, ap_lst, ap_cb, ap_bm, ap_call, ap_chain, ap_rI, ap_rI0, ap_rU, ap_rEq, ap_rNe, ap_revT, ap_sl, ap_part, ap_noPart, ap_ixLI, ap_ixTI, ap_ixLV, ap_ixTV, ap_len, ap_setLI, ap_setLV, ap_appI, ap_appV, ap_tupL, ap_listS, ap_sumLI, ap_sumTI, ap_repLI, ap_intI, ap_intB, ap_eqTI, ap_neTI, ap_eqLI, ap_neLI, ap_isi, ap_for, ap_rng1, ap_rng2, ap_iList, ap_iTup, ap_lc, ap_yes, ap_cut, ap_gTupH, ap_fmt, ap_jsn, ap_jsc, ap_gcd, ap_isqrt, ap_ixL, tyV_l, wipe_nil, wipe_cons, upd_same, List.set_cons_zero, List.set_cons_succ, List.getElem?_cons_zero, List.getElem?_cons_succ, List.cons_append, List.nil_append, List.append_nil, Option.some.injEq, V.int.injEq, V.ref.injEq, V.bl.injEq, V.str.injEq, V.ty.injEq, Bool.not_true, Bool.not_false, HO.lst.injEq, HO.tup.injEq, reduceCtorEq, Int.reduceToNat, Int.reduceLT, Int.reduceLE, Nat.reduceAdd, Int.cast_ofNat_Int, gi_c0, gi_c1, gi_c2, gi_c3, Int.natCast_inj, map_int_inj, map_nil_iff, List.cons.injEq, exists_eq_left, exists_eq_left', exists_eq, exists_eq', exists_and_left, exists_and_right, exists_const, and_assoc, and_true, true_and, and_false, false_and, or_false, false_or, or_true, true_or, ite_true, ite_false, if_true, if_false, Bool.false_eq_true, own_cons, own_nil, le1, le2, le3, le4, me_cons, me_nil, List.length_map, List.length_cons, List.length_nil, ne_eq, not_false_eq_true, not_true_eq_false, decide_eq_true_eq, e7, hp7, hq7]
      refine iteC (fun c => absurd c (by simp)) fun _ => ?_
      refine ⟨p, q, a, b, c, d, rfl, hp7, rp, hq7, rq, c0, fun H8 t8 s8 n8 e8 => ?_⟩
      have e6c := s8 _ _ (s7 _ _ e6)
      simp only [ap_seq, ap_next, ap_asg, ap_gName, ap_ret, ap_retN, ap_drop, ap_ifS, ap_break, ap_cont, ap_par, ap_aug, ap_ip, ap_gSub, ap_gTup, ap_gNil, ap_gCons, ap_var, ap_c, ap_op, ap_un, ap_if, ap_test, ap_B, ap_and, ap_or, ap_not, ap_andV, ap_orV, ap_notV, ap_nil, ap_cons, ap_tup, ap_lst, ap_cb, ap_bm, ap_call, ap_chain, ap_rI, ap_rI0, ap_rU, ap_rEq, ap_rNe, ap_revT, ap_sl, ap_part, ap_noPart, ap_ixLI, ap_ixTI, ap_ixLV, ap_ixTV, ap_len, ap_setLI, ap_setLV, ap_appI, ap_appV, ap_tupL, ap_listS, ap_sumLI, ap_sumTI, ap_repLI, ap_intI, ap_intB, ap_eqTI, ap_neTI, ap_eqLI, ap_neLI, ap_isi, ap_for, ap_rng1, ap_rng2, ap_iList, ap_iTup, ap_lc, ap_yes, ap_cut, ap_gTupH, ap_fmt, ap_jsn, ap_jsc, ap_gcd, ap_isqrt, ap_ixL, tyV_l, wipe_nil, wipe_cons, upd_same, List.set_cons_zero, List.set_cons_succ, List.getElem?_cons_zero, List.getElem?_cons_succ, List.cons_append, List.nil_append, List.append_nil, Option.some.injEq, V.int.injEq, V.ref.injEq, V.bl.injEq, V.str.injEq, V.ty.injEq, Bool.not_true, Bool.not_false, HO.lst.injEq, HO.tup.injEq, reduceCtorEq, Int.reduceToNat, Int.reduceLT, Int.reduceLE, Nat.reduceAdd, Int.cast_ofNat_Int, gi_c0, gi_c1, gi_c2, gi_c3, Int.natCast_inj, map_int_inj, map_nil_iff, List.cons.injEq, exists_eq_left, exists_eq_left', exists_eq, exists_eq', exists_and_left, exists_and_right, exists_const, and_assoc, and_true, true_and, and_false, false_and, or_false, false_or, or_true, true_or, ite_true, ite_false, if_true, if_false, Bool.false_eq_true, own_cons, own_nil, le1, le2, le3, le4, me_cons, me_nil, List.length_map, List.length_cons, List.length_nil, ne_eq, not_false_eq_true, not_true_eq_false, decide_eq_true_eq, e8, e6c]
      refine iteC (fun c => absurd c (by simp)) fun _ => ?_
      exact S7.trans s8
    · obtain ⟨⟨y5, y6, y7, y8, y9, e⟩, sG⟩ := hP
      subst e
      have hpG := sG _ _ hp
      have hqG := sG _ _ hq
      simp only [ap_seq, ap_next, ap_asg, ap_gName, ap_ret, ap_retN, ap_drop, ap_ifS, ap_break, ap_cont, ap_par, ap_aug, ap_ip, ap_gSub, ap_gTup, ap_gNil, ap_gCons, ap_var, ap_c, ap_op, ap_un, ap_if, ap_test, ap_B, ap_and, ap_or, ap_not, ap_andV, ap_orV, ap_notV, ap_nil, ap_cons, ap_tup, ap_lst, ap_cb, ap_bm, ap_call, ap_chain, ap_rI, ap_rI0, ap_rU, ap_rEq, ap_rNe, ap_revT, ap_sl, ap_part, ap_noPart, ap_ixLI, ap_ixTI, ap_ixLV, ap_ixTV, ap_len, ap_setLI, ap_setLV, ap_appI, ap_appV, ap_tupL, ap_listS, ap_sumLI, ap_sumTI, ap_repLI, ap_intI, ap_intB, ap_eqTI, ap_neTI, ap_eqLI, ap_neLI, ap_isi, ap_for, ap_rng1, ap_rng2, ap_iList, ap_iTup, ap_lc, ap_yes, ap_cut, ap_gTupH, ap_fmt, ap_jsn, ap_jsc, ap_gcd, ap_isqrt, ap_ixL, tyV_l, wipe_nil, wipe_cons, upd_same, List.set_cons_zero, List.set_cons_succ, List.getElem?_cons_zero, List.getElem?_cons_succ, List.cons_append, List.nil_append, List.append_nil, Option.some.injEq, V.int.injEq, V.ref.injEq, V.bl.injEq, V.str.injEq, V.ty.injEq, Bool.not_true, Bool.not_false, HO.lst.injEq, HO.tup.injEq, reduceCtorEq, Int.reduceToNat, Int.reduceLT, Int.reduceLE, Nat.reduceAdd, Int.cast_ofNat_Int, gi_c0, gi_c1, gi_c2, gi_c3, Int.natCast_inj, map_int_inj, map_nil_iff, List.cons.injEq, exists_eq_left, exists_eq_left', exists_eq, exists_eq', exists_and_left, exists_and_right, exists_const, and_assoc, and_true, true_and, and_false, false_and, or_false, false_or, or_true, true_or, ite_true, ite_false, if_true, if_false, Bool.false_eq_true, own_cons, own_nil, le1, le2, le3, le4, me_cons, me_nil, List.length_map, List.length_cons, List.length_nil, ne_eq, not_false_eq_true, not_true_eq_false, decide_eq_true_eq, hpG, hqG, CMu, scal_int]
      refine ⟨by omega, by omega, by omega, by omega, by omega, by omega, by omega, by omega, ?_⟩
      refine ⟨p, q, a, b, c, d, rfl, hpG, rp, hqG, rq, ?_⟩
      have f1 : cmpI (a * d) (c * b) = (if c * b < a * d then 1 else 0) - if a * d < c * b then 1 else 0 := by
        unfold cmpI
        split
        · rw [if_neg (by omega)]
          rfl
        · split <;> rfl
      rw [f1]
      refine ⟨rfl, iteC (fun c => absurd c (by simp)) fun _ => ?_⟩
      refine ⟨q, p, c, d, a, b, rfl, hqG, rq, hpG, rp, ?_⟩
      refine ⟨p, q, a, b, c, d, rfl, hpG, rp, hqG, rq, ?_⟩
      have f2 : cmpI (c * b) (a * d) = 0 - cmpI (a * d) (c * b) := by
        unfold cmpI
        split
        · rw [if_neg (by omega)]
          rfl
        · split <;> rfl
      refine ⟨_, rfl, rfl, ?_⟩
      rw [f2]
      refine iteC (fun c => absurd c (by simp)) fun _ => ?_
      refine ⟨p, p, a, b, a, b, rfl, hpG, rp, hpG, rp, fun H1' u1 w1 v1 g1 => ?_⟩
      have x6 := mulk (x := a) (y := a) (k := 15) (l := 15) (by omega) (by omega)
      have x7 := mulk (x := b) (y := b) (k := 15) (l := 15) (by omega) (by omega)
      have sl := sq_low mp.low
      have sq := told (a := a * a) (b := b * b) (x := a * a) (y := b * b) sl (by have := sl.pos; omega) rfl
      rw [sq.1, sq.2] at g1
      have slp := sl.pos
      have x8 := sq0 a
      have rS : Rat (a * a) (b * b) := ⟨sl, by omega, by omega, by omega⟩
      have rN : Rat (0 - a * a) (b * b) := ⟨neg_low sl, by omega, by omega, by omega⟩
      obtain ⟨D0, hD0⟩ : ∃ x, x = rt (a * a * 2) (b * b * 1) := ⟨_, rfl⟩
      obtain ⟨D1, hD1⟩ : ∃ x, x = rb (a * a * 2) (b * b * 1) := ⟨_, rfl⟩
      have db := rt_le (t := a * a * 2) (b := b * b * 1) (B := 10 ^ 40) (by omega) (by omega)
      have db1 := rb_le (t := a * a * 2) (b := b * b * 1) (B := 10 ^ 40) (by omega) (by omega)
      have dl := low (a * a * 2) (b * b * 1) (by omega)
      rw [← hD0, ← hD1] at dl
      rw [← hD0] at db
      rw [← hD1] at db1
      have rD : Rat D0 D1 := ⟨dl, by omega, by omega, by omega⟩
      have r21 : Rat 2 1 := ⟨⟨by omega, by decide⟩, by omega, by omega, by omega⟩
      have z2 : 2 ≤ sizeLine := by decide
      have z4 : 4 ≤ sizeLine := by decide
      refine ⟨z2, fun l1 nl1 => ?_⟩
      have W1 := sG.trans w1
      have U1 := same_upd (o := HO.tup [V.int 2, V.int 1]) nl1
      refine ⟨u1, l1, a * a, b * b, 2, 1, rfl, U1 _ _ g1, rS, upd_same, r21, fun H2' u2 w2 v2 g2 => ?_⟩
      rw [← hD0, ← hD1] at g2
      have W2 := (W1.trans U1).trans w2
      have g1b := w2 _ _ (U1 _ _ g1)
      simp only [ap_seq, ap_next, ap_asg, ap_gName, ap_ret, ap_retN, ap_drop, ap_ifS, ap_break, ap_cont, ap_par, ap_aug, ap_ip, ap_gSub, ap_gTup, ap_gNil, ap_gCons, ap_var, ap_c, ap_op, ap_un, ap_if, ap_test, ap_B, ap_and, ap_or, ap_not, ap_andV, ap_orV, ap_notV, ap_nil, ap_cons, ap_tup, ap_lst, ap_cb, ap_bm, ap_call, ap_chain, ap_rI, ap_rI0, ap_rU, ap_rEq, ap_rNe, ap_revT, ap_sl, ap_part, ap_noPart, ap_ixLI, ap_ixTI, ap_ixLV, ap_ixTV, ap_len, ap_setLI, ap_setLV, ap_appI, ap_appV, ap_tupL, ap_listS, ap_sumLI, ap_sumTI, ap_repLI, ap_intI, ap_intB, ap_eqTI, ap_neTI, ap_eqLI, ap_neLI, ap_isi, ap_for, ap_rng1, ap_rng2, ap_iList, ap_iTup, ap_lc, ap_yes, ap_cut, ap_gTupH, ap_fmt, ap_jsn, ap_jsc, ap_gcd, ap_isqrt, ap_ixL, tyV_l, wipe_nil, wipe_cons, upd_same, List.set_cons_zero, List.set_cons_succ, List.getElem?_cons_zero, List.getElem?_cons_succ, List.cons_append, List.nil_append, List.append_nil, Option.some.injEq, V.int.injEq, V.ref.injEq, V.bl.injEq, V.str.injEq, V.ty.injEq, Bool.not_true, Bool.not_false, HO.lst.injEq, HO.tup.injEq, reduceCtorEq, Int.reduceToNat, Int.reduceLT, Int.reduceLE, Nat.reduceAdd, Int.cast_ofNat_Int, gi_c0, gi_c1, gi_c2, gi_c3, Int.natCast_inj, map_int_inj, map_nil_iff, List.cons.injEq, exists_eq_left, exists_eq_left', exists_eq, exists_eq', exists_and_left, exists_and_right, exists_const, and_assoc, and_true, true_and, and_false, false_and, or_false, false_or, or_true, true_or, ite_true, ite_false, if_true, if_false, Bool.false_eq_true, own_cons, own_nil, le1, le2, le3, le4, me_cons, me_nil, List.length_map, List.length_cons, List.length_nil, ne_eq, not_false_eq_true, not_true_eq_false, decide_eq_true_eq, g1b]
      refine ⟨z2, fun l2 nl2 => ⟨z4, fun l3 nl3 => ?_⟩⟩
      have U2 := same_upd (o := HO.tup [V.int (0 - a * a), V.int (b * b)]) nl2
      have U3 := same_upd (o := HO.tup [V.ref p, V.ref u1, V.ref u2, V.ref l2]) nl3
      have WF : Same H _ := (W2.trans U2).trans U3
      have ef : upd (upd H2' l2 (HO.tup [V.int (0 - a * a), V.int (b * b)])) l3 (HO.tup [V.ref p, V.ref u1, V.ref u2, V.ref l2]) l3 = some (HO.tup [V.ref p, V.ref u1, V.ref u2, V.ref l2]) := upd_same
      have f3 := WF _ _ hp
      have f4 := U3 _ _ (U2 _ _ g1b)
      have f5 := U3 _ _ (U2 _ _ g2)
      have f6 := U3 _ _ (show upd H2' l2 (HO.tup [V.int (0 - a * a), V.int (b * b)]) l2 = some (TI [0 - a * a, b * b]) from upd_same)
      generalize upd (upd H2' l2 (HO.tup [V.int (0 - a * a), V.int (b * b)])) l3 (HO.tup [V.ref p, V.ref u1, V.ref u2, V.ref l2]) = HF at WF ef f3 f4 f5 f6 ⊢
      refine ⟨⟨_, sqT_of ef⟩, loop_tup (fun _ σ' H' => (∃ y, σ' = [some (V.ref z), some (V.ref p), some (V.ref q), some (V.ref t1), some (V.ref t2), y5, some (V.int (a * d)), some (V.int (c * b)), some (V.ref u1), y]) ∧ Same HF H') ⟨⟨_, rfl⟩, Same.refl _⟩ (fun i σ' H' _ hP => sqT_of (hP.2 _ _ ef)) (fun i x σ' H' hx hP => ?_) (fun σ' H' hP => ?_)⟩
      · obtain ⟨⟨y, e⟩, sF⟩ := hP
        subst e
        obtain ⟨r, A0, B0, rfl, hr, rr⟩ : ∃ r A0 B0, x = .ref r ∧ HF r = some (TI [A0, B0]) ∧ Rat A0 B0 := by
          rcases i with _ | _ | _ | _ | i
          · exact ⟨p, a, b, (Option.some.inj hx).symm, f3, rp⟩
          · exact ⟨u1, _, _, (Option.some.inj hx).symm, f4, rS⟩
          · exact ⟨u2, _, _, (Option.some.inj hx).symm, f5, rD⟩
          · exact ⟨l2, _, _, (Option.some.inj hx).symm, f6, rN⟩
          · exact absurd hx (by simp)
        have h1 := sF _ _ hr
        simp only [ap_seq, ap_next, ap_asg, ap_gName, ap_ret, ap_retN, ap_drop, ap_ifS, ap_break, ap_cont, ap_par, ap_aug, ap_ip, ap_gSub, ap_gTup, ap_gNil, ap_gCons, ap_var, ap_c, ap_op, ap_un, ap_if, ap_test, ap_B, ap_and, ap_or, ap_not, ap_andV, ap_orV, ap_notV, ap_nil, ap_cons, ap_tup, ap_lst, ap_cb, ap_bm, ap_call, ap_chain, ap_rI, ap_rI0, ap_rU, ap_rEq, ap_rNe, ap_revT, ap_sl, ap_part, ap_noPart, ap_ixLI, ap_ixTI, ap_ixLV, ap_ixTV, ap_len, ap_setLI, ap_setLV, ap_appI, ap_appV, ap_tupL, ap_listS, ap_sumLI, ap_sumTI, ap_repLI, ap_intI, ap_intB, ap_eqTI, ap_neTI, ap_eqLI, ap_neLI, ap_isi, ap_for, ap_rng1, ap_rng2, ap_iList, ap_iTup, ap_lc, ap_yes, ap_cut, ap_gTupH, ap_fmt, ap_jsn, ap_jsc, ap_gcd, ap_isqrt, ap_ixL, tyV_l, wipe_nil, wipe_cons, upd_same, List.set_cons_zero, List.set_cons_succ, List.getElem?_cons_zero, List.getElem?_cons_succ, List.cons_append, List.nil_append, List.append_nil, Option.some.injEq, V.int.injEq, V.ref.injEq, V.bl.injEq, V.str.injEq, V.ty.injEq, Bool.not_true, Bool.not_false, HO.lst.injEq, HO.tup.injEq, reduceCtorEq, Int.reduceToNat, Int.reduceLT, Int.reduceLE, Nat.reduceAdd, Int.cast_ofNat_Int, gi_c0, gi_c1, gi_c2, gi_c3, Int.natCast_inj, map_int_inj, map_nil_iff, List.cons.injEq, exists_eq_left, exists_eq_left', exists_eq, exists_eq', exists_and_left, exists_and_right, exists_const, and_assoc, and_true, true_and, and_false, false_and, or_false, false_or, or_true, true_or, ite_true, ite_false, if_true, if_false, Bool.false_eq_true, own_cons, own_nil, le1, le2, le3, le4, me_cons, me_nil, List.length_map, List.length_cons, List.length_nil, ne_eq, not_false_eq_true, not_true_eq_false, decide_eq_true_eq, h1]
        refine ⟨r, A0, B0, rfl, h1, rr, fun G1 x1 k1 v1 => ?_⟩
        refine ⟨r, A0, B0, rfl, k1 _ _ h1, rr, fun G2 x2 k2 v2 => ?_⟩
        obtain ⟨dd, d1, d2, d3⟩ := root_eq K (v1.mono k2) v2
        refine ⟨dd, dd, d1, d2, d3, d3, ?_⟩
        rw [SeqAt.eqv_refl dd (SeqAt.canLay_of_shaped d3)]
        have h2 := k2 _ _ (k1 _ _ h1)
        simp only [ap_seq, ap_next, ap_asg, ap_gName, ap_ret, ap_retN, ap_drop, ap_ifS, ap_break, ap_cont, ap_par, ap_aug, ap_ip, ap_gSub, ap_gTup, ap_gNil, ap_gCons, ap_var, ap_c, ap_op, ap_un, ap_if, ap_test, ap_B, ap_and, ap_or, ap_not, ap_andV, ap_orV, ap_notV, ap_nil, ap_cons, ap_tup, ap_lst, ap_cb, ap_bm, ap_call, ap_chain, ap_rI, ap_rI0, ap_rU, ap_rEq, ap_rNe, ap_revT, ap_sl, ap_part, ap_noPart, ap_ixLI, ap_ixTI, ap_ixLV, ap_ixTV, ap_len, ap_setLI, ap_setLV, ap_appI, ap_appV, ap_tupL, ap_listS, ap_sumLI, ap_sumTI, ap_repLI, ap_intI, ap_intB, ap_eqTI, ap_neTI, ap_eqLI, ap_neLI, ap_isi, ap_for, ap_rng1, ap_rng2, ap_iList, ap_iTup, ap_lc, ap_yes, ap_cut, ap_gTupH, ap_fmt, ap_jsn, ap_jsc, ap_gcd, ap_isqrt, ap_ixL, tyV_l, wipe_nil, wipe_cons, upd_same, List.set_cons_zero, List.set_cons_succ, List.getElem?_cons_zero, List.getElem?_cons_succ, List.cons_append, List.nil_append, List.append_nil, Option.some.injEq, V.int.injEq, V.ref.injEq, V.bl.injEq, V.str.injEq, V.ty.injEq, Bool.not_true, Bool.not_false, HO.lst.injEq, HO.tup.injEq, reduceCtorEq, Int.reduceToNat, Int.reduceLT, Int.reduceLE, Nat.reduceAdd, Int.cast_ofNat_Int, gi_c0, gi_c1, gi_c2, gi_c3, Int.natCast_inj, map_int_inj, map_nil_iff, List.cons.injEq, exists_eq_left, exists_eq_left', exists_eq, exists_eq', exists_and_left, exists_and_right, exists_const, and_assoc, and_true, true_and, and_false, false_and, or_false, false_or, or_true, true_or, ite_true, ite_false, if_true, if_false, Bool.false_eq_true, own_cons, own_nil, le1, le2, le3, le4, me_cons, me_nil, List.length_map, List.length_cons, List.length_nil, ne_eq, not_false_eq_true, not_true_eq_false, decide_eq_true_eq, h2]
        refine ⟨r, A0, B0, rfl, h2, rr, r, A0, B0, rfl, h2, rr, rfl, iteC (fun c => absurd c (by simp)) fun _ => ?_⟩
        refine ⟨_, true, rfl, rr.v h2, true, rfl, ?_⟩
        exact sF.trans (k1.trans k2)
      · obtain ⟨⟨y, e⟩, sF⟩ := hP
        subst e
        have h1 := sF _ _ f4
        have h2 := sF _ _ f3
        simp only [ap_seq, ap_next, ap_asg, ap_gName, ap_ret, ap_retN, ap_drop, ap_ifS, ap_break, ap_cont, ap_par, ap_aug, ap_ip, ap_gSub, ap_gTup, ap_gNil, ap_gCons, ap_var, ap_c, ap_op, ap_un, ap_if, ap_test, ap_B, ap_and, ap_or, ap_not, ap_andV, ap_orV, ap_notV, ap_nil, ap_cons, ap_tup, ap_lst, ap_cb, ap_bm, ap_call, ap_chain, ap_rI, ap_rI0, ap_rU, ap_rEq, ap_rNe, ap_revT, ap_sl, ap_part, ap_noPart, ap_ixLI, ap_ixTI, ap_ixLV, ap_ixTV, ap_len, ap_setLI, ap_setLV, ap_appI, ap_appV, ap_tupL, ap_listS, ap_sumLI, ap_sumTI, ap_repLI, ap_intI, ap_intB, ap_eqTI, ap_neTI, ap_eqLI, ap_neLI, ap_isi, ap_for, ap_rng1, ap_rng2, ap_iList, ap_iTup, ap_lc, ap_yes, ap_cut, ap_gTupH, ap_fmt, ap_jsn, ap_jsc, ap_gcd, ap_isqrt, ap_ixL, tyV_l, wipe_nil, wipe_cons, upd_same, List.set_cons_zero, List.set_cons_succ, List.getElem?_cons_zero, List.getElem?_cons_succ, List.cons_append, List.nil_append, List.append_nil, Option.some.injEq, V.int.injEq, V.ref.injEq, V.bl.injEq, V.str.injEq, V.ty.injEq, Bool.not_true, Bool.not_false, HO.lst.injEq, HO.tup.injEq, reduceCtorEq, Int.reduceToNat, Int.reduceLT, Int.reduceLE, Nat.reduceAdd, Int.cast_ofNat_Int, gi_c0, gi_c1, gi_c2, gi_c3, Int.natCast_inj, map_int_inj, map_nil_iff, List.cons.injEq, exists_eq_left, exists_eq_left', exists_eq, exists_eq', exists_and_left, exists_and_right, exists_const, and_assoc, and_true, true_and, and_false, false_and, or_false, false_or, or_true, true_or, ite_true, ite_false, if_true, if_false, Bool.false_eq_true, own_cons, own_nil, le1, le2, le3, le4, me_cons, me_nil, List.length_map, List.length_cons, List.length_nil, ne_eq, not_false_eq_true, not_true_eq_false, decide_eq_true_eq, h1, h2]
        refine ⟨u1, _, _, rfl, h1, rS, fun G1 x1 k1 v1 => ?_⟩
        have h3 := k1 _ _ h2
        simp only [ap_seq, ap_next, ap_asg, ap_gName, ap_ret, ap_retN, ap_drop, ap_ifS, ap_break, ap_cont, ap_par, ap_aug, ap_ip, ap_gSub, ap_gTup, ap_gNil, ap_gCons, ap_var, ap_c, ap_op, ap_un, ap_if, ap_test, ap_B, ap_and, ap_or, ap_not, ap_andV, ap_orV, ap_notV, ap_nil, ap_cons, ap_tup, ap_lst, ap_cb, ap_bm, ap_call, ap_chain, ap_rI, ap_rI0, ap_rU, ap_rEq, ap_rNe, ap_revT, ap_sl, ap_part, ap_noPart, ap_ixLI, ap_ixTI, ap_ixLV, ap_ixTV, ap_len, ap_setLI, ap_setLV, ap_appI, ap_appV, ap_tupL, ap_listS, ap_sumLI, ap_sumTI, ap_repLI, ap_intI, ap_intB, ap_eqTI, ap_neTI, ap_eqLI, ap_neLI, ap_isi, ap_for, ap_rng1, ap_rng2, ap_iList, ap_iTup, ap_lc, ap_yes, ap_cut, ap_gTupH, ap_fmt, ap_jsn, ap_jsc, ap_gcd, ap_isqrt, ap_ixL, tyV_l, wipe_nil, wipe_cons, upd_same, List.set_cons_zero, List.set_cons_succ, List.getElem?_cons_zero, List.getElem?_cons_succ, List.cons_append, List.nil_append, List.append_nil, Option.some.injEq, V.int.injEq, V.ref.injEq, V.bl.injEq, V.str.injEq, V.ty.injEq, Bool.not_true, Bool.not_false, HO.lst.injEq, HO.tup.injEq, reduceCtorEq, Int.reduceToNat, Int.reduceLT, Int.reduceLE, Nat.reduceAdd, Int.cast_ofNat_Int, gi_c0, gi_c1, gi_c2, gi_c3, Int.natCast_inj, map_int_inj, map_nil_iff, List.cons.injEq, exists_eq_left, exists_eq_left', exists_eq, exists_eq', exists_and_left, exists_and_right, exists_const, and_assoc, and_true, true_and, and_false, false_and, or_false, false_or, or_true, true_or, ite_true, ite_false, if_true, if_false, Bool.false_eq_true, own_cons, own_nil, le1, le2, le3, le4, me_cons, me_nil, List.length_map, List.length_cons, List.length_nil, ne_eq, not_false_eq_true, not_true_eq_false, decide_eq_true_eq, h3]
        refine ⟨z2, fun l4 nl4 => ?_⟩
        have k2 := same_upd (o := HO.tup [V.int (if a < 0 then -a else a), V.int b]) nl4
        have v2 : RootV (upd G1 l4 (HO.tup [V.int (if a < 0 then -a else a), V.int b])) (.ref l4) (a * a) (b * b) := .inr ⟨l4, _, _, rfl, upd_same, by split <;> omega, by omega, by
          split
          · rw [Int.neg_mul_neg]
          · rfl, rfl⟩
        obtain ⟨dd, d1, d2, d3⟩ := root_eq K (v1.mono k2) v2
        refine ⟨dd, dd, d1, d2, d3, d3, ?_⟩
        rw [SeqAt.eqv_refl dd (SeqAt.canLay_of_shaped d3)]
        exact k _ (WF.trans (sF.trans (k1.trans k2)))

end
end My

namespace My
open PySem PySem.Spec PyProof.Rows L2 Pr M00
section
variable {P : Program} {w : World} {K : PySem.W.Frag} {mg : Str → Option Value} {base : Heap}
section
variable {g : TG} {D : Ends} {σ : L2.St} {H : Hp} {j : Nat} {te : TE} {vs : List Nat} {Q : VK} {tt : TT}
theorem lc_no {a : Addr} {xs : List V} (hx : H a = some (.lst xs)) (hw : ∀ x, wipe ((wipe σ vs).set j (some x)) vs = wipe σ vs)
    (ht : ∀ (i : Nat) x H', xs[i]? = some x → Same H H' → ∀ Q' : Bool → Hp → Prop, Q' false H' → tt ((wipe σ vs).set j (some x)) H' Q')
    (hq : ∀ p H', H p = none → Same H H' → H' p = some (.lst []) → Q (.ref p) H') :
    tLcIn (gName j) tt te vs σ Q (Itl K a) H := fun Dl hD => by
  refine lc_list (g := gName j) (xs := xs) (fun i H' => Same H H' ∧ H' Dl = some (.lst [])) ⟨same_upd hD, upd_same⟩ (fun i H' hi hP => sqL_of (hP.1 _ _ hx)) (fun i x H' hi hP => ?_) (fun H' hP => hq Dl H' hD hP.1 hP.2)
  obtain ⟨sm, ed⟩ := hP
  exact ⟨hw _, ht i x H' hi sm _ ⟨sm, ed⟩⟩
theorem lc_tupV {a : Addr} {xs : List V} (f : Nat → V) (hx : H a = some (.tup xs)) (hn : xs.length < 1000000) (hw : ∀ x, wipe ((wipe σ vs).set j (some x)) vs = wipe σ vs)
    (he : ∀ (i : Nat) x H', xs[i]? = some x → Same H H' → ∀ Q' : VK, (∀ H'', Same H' H'' → Q' (f i) H'') → te ((wipe σ vs).set j (some x)) H' Q')
    (hq : ∀ p H', H p = none → Same H H' → H' p = some (.lst ((List.range xs.length).map f)) → Q (.ref p) H') :
    tLcIn (gName j) tYes te vs σ Q (Itt K a) H := fun Dl hD => by
  refine lc_tup (g := gName j) (xs := xs) (fun i H' => Same H H' ∧ H' Dl = some (.lst ((List.range i).map f))) ⟨same_upd hD, ?_⟩ (fun i H' hi hP => sqT_of (hP.1 _ _ hx)) (fun i x H' hi hP => ?_) (fun H' hP => hq Dl H' hD hP.1 hP.2)
  · rw [upd_same]
    rfl
  · obtain ⟨sm, ed⟩ := hP
    have hl := (List.getElem?_eq_some_iff.mp hi).1
    refine ⟨hw _, he i x H' hi sm _ fun H'' sm' => ⟨_, sm' _ _ ed, sz (by simp; omega), same_mut (sm.trans sm') hD, ?_⟩⟩
    rw [upd_same, List.range_succ, List.map_append]
    simp
end
theorem RatV.pairN {p : Addr} {H : Hp} {x y : V} (h : H p = some (.tup [x, y])) (hx : ∃ t, tyOf x H = some t) (hy : ∃ t, tyOf y H = some t) (e : ratB x y = false) : RatV (.ref p) H false := .inr (.inr ⟨p, x, y, rfl, h, hx, hy, e.symm⟩)
theorem RatV.lenN {p : Addr} {H : Hp} {xs : List V} (h : H p = some (.tup xs)) (hl : xs.length ≠ 2) : RatV (.ref p) H false := .inr (.inl ⟨p, xs, rfl, h, hl, rfl⟩)
theorem RatV.ty {x : V} {H : Hp} {t : String} (h : tyOf x H = some t) (hn : t ≠ "tuple") : RatV x H false := .inl ⟨⟨t, h, hn⟩, rfl⟩
def sp_law_right : Sp := fun vs H Q _ => ∃ (d : Addr), vs = [.ref d] ∧ Dc H d ∧ ∀ H', Exc d H H' → Q (.bl true) H'
theorem ok_law_right (T : Tx K mg) : FnOk P w K mg base CX0 6 T.f_law_right T.d_law_right p_law_right sp_law_right := by
  refine T.F_law_right.ok sc_law_right (fun vs H Q E h => ?_) (fun cdv A outer s H vs Q E hr h => ?_)
  · obtain ⟨d, rfl, _⟩ := h
    rfl
  · obtain ⟨d, rfl, hD, k⟩ := h
    refine ⟨_, (pss_cons (ps_set (i := 1) sc_law_right.nd rfl (Or.inl rfl) (pe_call (ok_law_pick T) (hr.mono (by decide)) (by rfl) T.m_law_pick T.F_law_pick.kp T.b_law_pick .nil pass0 (pa_cons (pv 0) (pa_cons (pe_lst (pa_cons pe_int (pa_cons pe_int (pa_cons (pe_op op_pow pe_int pe_int) pa_nil)))) pa_nil))))
      (pss_cons (ps_par (i := 2) (j := 3) (by rfl) sc_law_right.nd rfl rfl (by decide) rfl rfl (pa_cons (pe_call (ok_law_some_ratio T) (hr.mono (by decide)) (by rfl) T.m_law_some_ratio T.F_law_some_ratio.kp T.b_law_some_ratio .nil pass0 (pa_cons (pv 0) (pa_cons (pv 1) pa_nil))) (pa_cons (pe_call (ok_law_some_ratio T) (hr.mono (by decide)) (by rfl) T.m_law_some_ratio T.F_law_some_ratio.kp T.b_law_some_ratio .nil pass0 (pa_cons (pv 0) (pa_cons (pv 1) pa_nil))) pa_nil)) (by rfl))
      (pss_cons (ps_par (i := 4) (j := 5) (by rfl) sc_law_right.nd rfl rfl (by decide) rfl rfl (pa_cons (pe_call (ok_law_near T) (hr.mono (by decide)) (by rfl) T.m_law_near T.F_law_near.kp T.b_law_near .nil pass0 (pa_cons (pv 0) (pa_cons (pv 1) pa_nil))) (pa_cons (pe_op op_add pe_int (pe_call (ok_law_roll T) (hr.mono (by decide)) (by rfl) T.m_law_roll T.F_law_roll.kp T.b_law_roll .nil pass0 (pa_cons (pv 0) (pa_cons (pv 1) pa_nil)))) pa_nil)) (by rfl))
      (pss_cons (ps_set (i := 6) sc_law_right.nd rfl (Or.inl rfl) (pe_op op_add (pe_op op_mulB (pe_call (ok_law_near T) (hr.mono (by decide)) (by rfl) T.m_law_near T.F_law_near.kp T.b_law_near .nil pass0 (pa_cons (pv 0) (pa_cons pe_int pa_nil))) (pv 5)) (pv 5)))
      (pss_cons (ps_if (PW.pt (pw_or (pt_cmpR (op_neTI hr.units) (pe_call (ok_lowest T) (hr.mono (by decide)) (by rfl) T.m_lowest T.F_lowest.kp T.b_lowest .nil pass0 (pa_cons (pe_op op_mulB (pv 4) (pv 5)) (pa_cons (pe_op op_sub pe_int (pv 5)) pa_nil))) (pe_tup (pa_cons (pe_op op_sub pe_int (pv 4)) (pa_cons pe_int pa_nil))) (nomark _)) (pw_or1 (pt_cmpR (op_neTI hr.units) (pe_call (ok_lowest T) (hr.mono (by decide)) (by rfl) T.m_lowest T.F_lowest.kp T.b_lowest .nil pass0 (pa_cons (pv 4) (pa_cons (pv 5) pa_nil))) (pe_call (ok_law_lowest T) (hr.mono (by decide)) (by rfl) T.m_law_lowest T.F_law_lowest.kp T.b_law_lowest .nil pass0 (pa_cons (pv 4) (pa_cons (pv 5) pa_nil))) (nomark _))))) (pss_one (ps_ret pe_bl)) pss_nil)
      (pss_cons (ps_if (pt_cmpR (op_neTI hr.units) (pe_call (ok_lowest T) (hr.mono (by decide)) (by rfl) T.m_lowest T.F_lowest.kp T.b_lowest .nil pass0 (pa_cons (pv 6) (pa_cons (pv 5) pa_nil))) (pe_tup (pa_cons (pe_op op_fdivP (pv 6) (pv 5)) (pa_cons pe_int pa_nil))) (nomark _)) (pss_one (ps_ret pe_bl)) pss_nil)
      (pss_cons (ps_set (i := 7) sc_law_right.nd rfl (Or.inl rfl) (pe_lst (pa_cons (pe_tup (pa_cons pe_int (pa_cons pe_int pa_nil))) (pa_cons (pe_tup (pa_cons pe_int (pa_cons pe_int pa_nil))) (pa_cons (pe_tup (pa_cons pe_int (pa_cons (pe_un un_neg pe_int) pa_nil))) (pa_cons (pe_tup (pa_cons pe_int (pa_cons pe_int pa_nil))) (pa_cons (pe_tup (pa_cons pe_int (pa_cons pe_int (pa_cons pe_int pa_nil)))) (pa_cons (pe_lst (pa_cons pe_int (pa_cons pe_int pa_nil))) (pa_cons (pe_tup (pa_cons pe_int pa_nil)) (pa_cons pe_str (pa_cons pe_non (pa_cons pe_int (pa_cons (pe_tup (pa_cons pe_bl (pa_cons pe_int pa_nil))) (pa_cons (pe_tup (pa_cons pe_int (pa_cons pe_bl pa_nil))) (pa_cons (pe_tup (pa_cons (pe_op op_pow pe_int pe_int) (pa_cons pe_int pa_nil))) (pa_cons (pe_tup (pa_cons pe_int (pa_cons (pe_op op_pow pe_int pe_int) pa_nil))) pa_nil))))))))))))))))
      (pss_cons (ps_if (pt_cmpR (op_neD hr.units) (pe_lc (own := [("_law_value", 8)]) (g := gName 8) rfl sc_law_right.nd (pi_list (pv 7)) (blkOk_by (N := n_law_right) (sc := defScope s_law_right) (by decide +kernel)) (fun _ _ _ _ _ => (pg_name (i := 8) sc_law_right.nd rfl (by first | exact .inl rfl | exact .inr rfl))) (fun _ _ _ _ _ => (pts_one (pt_val (pe_call (ok_is_ratio T) (hr.mono (by decide)) (by rfl) T.m_is_ratio T.F_is_ratio.kp T.b_is_ratio .nil pass0 (pa_cons (pv 8) pa_nil))))) (fun _ _ _ _ _ => (pv 8))) (pe_lst pa_nil) (nomark _)) (pss_one (ps_ret pe_bl)) pss_nil)
      (pss_one (ps_ret (pe_and (pe_call (ok_law_pair_right T) (hr.mono (by decide)) (by rfl) T.m_law_pair_right T.F_law_pair_right.kp T.b_law_pair_right .nil pass0 (pa_cons (pv 0) (pa_cons (pv 2) (pa_cons (pv 3) pa_nil)))) (pe_one (pe_call (ok_law_pair_right T) (hr.mono (by decide)) (by rfl) T.m_law_pair_right T.F_law_pair_right.kp T.b_law_pair_right .nil pass0 (pa_cons (pv 0) (pa_cons (pv 3) (pa_cons (pv 3) pa_nil)))))))))))))))), ?_⟩
    rw [st_law_right]
    simp only [ap_seq, ap_next, ap_asg, ap_gName, ap_ret, ap_retN, ap_drop, ap_ifS, ap_break, ap_cont, ap_par, ap_aug, ap_ip, ap_gSub, ap_gTup, ap_gNil, ap_gCons, ap_var, ap_c, ap_op, ap_un, ap_if, ap_test, ap_B, ap_and, ap_or, ap_not, ap_andV, ap_orV, ap_notV, ap_nil, ap_cons, ap_tup, ap_lst, ap_cb, ap_bm, ap_call, ap_chain, ap_rI, ap_rI0, ap_rU, ap_rEq, ap_rNe, ap_revT, ap_sl, ap_part, ap_noPart, ap_ixLI, ap_ixTI, ap_ixLV, ap_ixTV, ap_len, ap_setLI, ap_setLV, ap_appI, ap_appV, ap_tupL, ap_listS, ap_sumLI, ap_sumTI, ap_repLI, ap_intI, ap_intB, ap_eqTI, ap_neTI, ap_eqLI, ap_neLI, ap_isi, ap_for, ap_rng1, ap_rng2, ap_iList, ap_iTup, ap_lc, ap_yes, ap_cut, ap_gTupH, ap_fmt, ap_jsn, ap_jsc, ap_gcd, ap_isqrt, ap_ixL, tyV_l, wipe_nil, wipe_cons, upd_same, List.set_cons_zero, List.set_cons_succ, List.getElem?_cons_zero, List.getElem?_cons_succ, List.cons_append, List.nil_append, List.append_nil, Option.some.injEq, V.int.injEq, V.ref.injEq, V.bl.injEq, V.str.injEq, V.ty.injEq, Bool.not_true, Bool.not_false, HO.lst.injEq, HO.tup.injEq, reduceCtorEq, Int.reduceToNat, Int.reduceLT, Int.reduceLE, Nat.reduceAdd, Int.cast_ofNat_Int, gi_c0, gi_c1, gi_c2, gi_c3, Int.natCast_inj, map_int_inj, map_nil_iff, List.cons.injEq, exists_eq_left, exists_eq_left', exists_eq, exists_eq', exists_and_left, exists_and_right, exists_const, and_assoc, and_true, true_and, and_false, false_and, or_false, false_or, or_true, true_or, ite_true, ite_false, if_true, if_false, Bool.false_eq_true, own_cons, own_nil, le1, le2, le3, le4, me_cons, me_nil, List.length_map, List.length_cons, List.length_nil, ne_eq, not_false_eq_true, not_true_eq_false, decide_eq_true_eq]
    have z2 : 2 ≤ sizeLine := by decide
    refine ⟨⟨by decide, by decide, by decide⟩, by decide, fun l nl => ?_⟩
    have D1 : Dc (upd H l (HO.lst [V.int 3, V.int 12, V.int (10 ^ 14)])) d := hD.same (same_upd nl)
    have X1 : Exc d H (upd H l (HO.lst [V.int 3, V.int 12, V.int (10 ^ 14)])) := .same (same_upd nl)
    obtain ⟨_, _, _, hd⟩ := hD
    refine ⟨d, l, [3, 12, 10 ^ 14], rfl, D1, upd_same, (ne_of_none hd nl).symm, by decide, by decide, fun H1 i x1 D2 hi => ?_⟩
    obtain ⟨m, hm, m1, m2⟩ : ∃ m, m = ([3, 12, 10 ^ 14] : List Int).getD i 0 ∧ 1 ≤ m ∧ m ≤ 10 ^ 14 := by
      rcases i with _ | _ | _ | i
      · exact ⟨_, rfl, by decide, by decide⟩
      · exact ⟨_, rfl, by decide, by decide⟩
      · exact ⟨_, rfl, by decide, by decide⟩
      · exact absurd hi (by simp)
    rw [← hm]
    have X2 := X1.trans x1
    refine ⟨d, m, rfl, D2, m1, by omega, fun H2 p a b x2 D3 np hp rp => ?_⟩
    simp only [ap_seq, ap_next, ap_asg, ap_gName, ap_ret, ap_retN, ap_drop, ap_ifS, ap_break, ap_cont, ap_par, ap_aug, ap_ip, ap_gSub, ap_gTup, ap_gNil, ap_gCons, ap_var, ap_c, ap_op, ap_un, ap_if, ap_test, ap_B, ap_and, ap_or, ap_not, ap_andV, ap_orV, ap_notV, ap_nil, ap_cons, ap_tup, ap_lst, ap_cb, ap_bm, ap_call, ap_chain, ap_rI, ap_rI0, ap_rU, ap_rEq, ap_rNe, ap_revT, ap_sl, ap_part, ap_noPart, ap_ixLI, ap_ixTI, ap_ixLV, ap_ixTV, ap_len, ap_setLI, ap_setLV, ap_appI, ap_appV, ap_tupL, ap_listS, ap_sumLI, ap_sumTI, ap_repLI, ap_intI, ap_intB, ap_eqTI, ap_neTI, ap_eqLI, ap_neLI, ap_isi, ap_for, ap_rng1, ap_rng2, ap_iList, ap_iTup, ap_lc, ap_yes, ap_cut, ap_gTupH, ap_fmt, ap_jsn, ap_jsc, ap_gcd, ap_isqrt, ap_ixL, tyV_l, wipe_nil, wipe_cons, upd_same, List.set_cons_zero, List.set_cons_succ, List.getElem?_cons_zero, List.getElem?_cons_succ, List.cons_append, List.nil_append, List.append_nil, Option.some.injEq, V.int.injEq, V.ref.injEq, V.bl.injEq, V.str.injEq, V.ty.injEq, Bool.not_true, Bool.not_false, HO.lst.injEq, HO.tup.injEq, reduceCtorEq, Int.reduceToNat, Int.reduceLT, Int.reduceLE, Nat.reduceAdd, Int.cast_ofNat_Int, gi_c0, gi_c1, gi_c2, gi_c3, Int.natCast_inj, map_int_inj, map_nil_iff, List.cons.injEq, exists_eq_left, exists_eq_left', exists_eq, exists_eq', exists_and_left, exists_and_right, exists_const, and_assoc, and_true, true_and, and_false, false_and, or_false, false_or, or_true, true_or, ite_true, ite_false, if_true, if_false, Bool.false_eq_true, own_cons, own_nil, le1, le2, le3, le4, me_cons, me_nil, List.length_map, List.length_cons, List.length_nil, ne_eq, not_false_eq_true, not_true_eq_false, decide_eq_true_eq]
    refine ⟨d, m, rfl, D3, m1, by omega, fun H3 q a' b' x3 D4 nq hq rq => ?_⟩
    simp only [ap_seq, ap_next, ap_asg, ap_gName, ap_ret, ap_retN, ap_drop, ap_ifS, ap_break, ap_cont, ap_par, ap_aug, ap_ip, ap_gSub, ap_gTup, ap_gNil, ap_gCons, ap_var, ap_c, ap_op, ap_un, ap_if, ap_test, ap_B, ap_and, ap_or, ap_not, ap_andV, ap_orV, ap_notV, ap_nil, ap_cons, ap_tup, ap_lst, ap_cb, ap_bm, ap_call, ap_chain, ap_rI, ap_rI0, ap_rU, ap_rEq, ap_rNe, ap_revT, ap_sl, ap_part, ap_noPart, ap_ixLI, ap_ixTI, ap_ixLV, ap_ixTV, ap_len, ap_setLI, ap_setLV, ap_appI, ap_appV, ap_tupL, ap_listS, ap_sumLI, ap_sumTI, ap_repLI, ap_intI, ap_intB, ap_eqTI, ap_neTI, ap_eqLI, ap_neLI, ap_isi, ap_for, ap_rng1, ap_rng2, ap_iList, ap_iTup, ap_lc, ap_yes, ap_cut, ap_gTupH, ap_fmt, ap_jsn, ap_jsc, ap_gcd, ap_isqrt, ap_ixL, tyV_l, wipe_nil, wipe_cons, upd_same, List.set_cons_zero, List.set_cons_succ, List.getElem?_cons_zero, List.getElem?_cons_succ, List.cons_append, List.nil_append, List.append_nil, Option.some.injEq, V.int.injEq, V.ref.injEq, V.bl.injEq, V.str.injEq, V.ty.injEq, Bool.not_true, Bool.not_false, HO.lst.injEq, HO.tup.injEq, reduceCtorEq, Int.reduceToNat, Int.reduceLT, Int.reduceLE, Nat.reduceAdd, Int.cast_ofNat_Int, gi_c0, gi_c1, gi_c2, gi_c3, Int.natCast_inj, map_int_inj, map_nil_iff, List.cons.injEq, exists_eq_left, exists_eq_left', exists_eq, exists_eq', exists_and_left, exists_and_right, exists_const, and_assoc, and_true, true_and, and_false, false_and, or_false, false_or, or_true, true_or, ite_true, ite_false, if_true, if_false, Bool.false_eq_true, own_cons, own_nil, le1, le2, le3, le4, me_cons, me_nil, List.length_map, List.length_cons, List.length_nil, ne_eq, not_false_eq_true, not_true_eq_false, decide_eq_true_eq]
    refine ⟨d, m, rfl, D4, by omega, by omega, fun H4 t x4 D5 t1 t2 => ?_⟩
    simp only [ap_seq, ap_next, ap_asg, ap_gName, ap_ret, ap_retN, ap_drop, ap_ifS, ap_break, ap_cont, ap_par, ap_aug, ap_ip, ap_gSub, ap_gTup, ap_gNil, ap_gCons, ap_var, ap_c, ap_op, ap_un, ap_if, ap_test, ap_B, ap_and, ap_or, ap_not, ap_andV, ap_orV, ap_notV, ap_nil, ap_cons, ap_tup, ap_lst, ap_cb, ap_bm, ap_call, ap_chain, ap_rI, ap_rI0, ap_rU, ap_rEq, ap_rNe, ap_revT, ap_sl, ap_part, ap_noPart, ap_ixLI, ap_ixTI, ap_ixLV, ap_ixTV, ap_len, ap_setLI, ap_setLV, ap_appI, ap_appV, ap_tupL, ap_listS, ap_sumLI, ap_sumTI, ap_repLI, ap_intI, ap_intB, ap_eqTI, ap_neTI, ap_eqLI, ap_neLI, ap_isi, ap_for, ap_rng1, ap_rng2, ap_iList, ap_iTup, ap_lc, ap_yes, ap_cut, ap_gTupH, ap_fmt, ap_jsn, ap_jsc, ap_gcd, ap_isqrt, ap_ixL, tyV_l, wipe_nil, wipe_cons, upd_same, List.set_cons_zero, List.set_cons_succ, List.getElem?_cons_zero, List.getElem?_cons_succ, List.cons_append, List.nil_append, List.append_nil, Option.some.injEq, V.int.injEq, V.ref.injEq, V.bl.injEq, V.str.injEq, V.ty.injEq, Bool.not_true, Bool.not_false, HO.lst.injEq, HO.tup.injEq, reduceCtorEq, Int.reduceToNat, Int.reduceLT, Int.reduceLE, Nat.reduceAdd, Int.cast_ofNat_Int, gi_c0, gi_c1, gi_c2, gi_c3, Int.natCast_inj, map_int_inj, map_nil_iff, List.cons.injEq, exists_eq_left, exists_eq_left', exists_eq, exists_eq', exists_and_left, exists_and_right, exists_const, and_assoc, and_true, true_and, and_false, false_and, or_false, false_or, or_true, true_or, ite_true, ite_false, if_true, if_false, Bool.false_eq_true, own_cons, own_nil, le1, le2, le3, le4, me_cons, me_nil, List.length_map, List.length_cons, List.length_nil, ne_eq, not_false_eq_true, not_true_eq_false, decide_eq_true_eq]
    refine ⟨d, m, rfl, D5, by omega, by omega, fun H5 n x5 D6 n1 n2 => ?_⟩
    simp only [ap_seq, ap_next, ap_asg, ap_gName, ap_ret, ap_retN, ap_drop, ap_ifS, ap_break, ap_cont, ap_par, ap_aug, ap_ip, ap_gSub, ap_gTup, ap_gNil, ap_gCons, ap_var, ap_c, ap_op, ap_un, ap_if, ap_test, ap_B, ap_and, ap_or, ap_not, ap_andV, ap_orV, ap_notV, ap_nil, ap_cons, ap_tup, ap_lst, ap_cb, ap_bm, ap_call, ap_chain, ap_rI, ap_rI0, ap_rU, ap_rEq, ap_rNe, ap_revT, ap_sl, ap_part, ap_noPart, ap_ixLI, ap_ixTI, ap_ixLV, ap_ixTV, ap_len, ap_setLI, ap_setLV, ap_appI, ap_appV, ap_tupL, ap_listS, ap_sumLI, ap_sumTI, ap_repLI, ap_intI, ap_intB, ap_eqTI, ap_neTI, ap_eqLI, ap_neLI, ap_isi, ap_for, ap_rng1, ap_rng2, ap_iList, ap_iTup, ap_lc, ap_yes, ap_cut, ap_gTupH, ap_fmt, ap_jsn, ap_jsc, ap_gcd, ap_isqrt, ap_ixL, tyV_l, wipe_nil, wipe_cons, upd_same, List.set_cons_zero, List.set_cons_succ, List.getElem?_cons_zero, List.getElem?_cons_succ, List.cons_append, List.nil_append, List.append_nil, Option.some.injEq, V.int.injEq, V.ref.injEq, V.bl.injEq, V.str.injEq, V.ty.injEq, Bool.not_true, Bool.not_false, HO.lst.injEq, HO.tup.injEq, reduceCtorEq, Int.reduceToNat, Int.reduceLT, Int.reduceLE, Nat.reduceAdd, Int.cast_ofNat_Int, gi_c0, gi_c1, gi_c2, gi_c3, Int.natCast_inj, map_int_inj, map_nil_iff, List.cons.injEq, exists_eq_left, exists_eq_left', exists_eq, exists_eq', exists_and_left, exists_and_right, exists_const, and_assoc, and_true, true_and, and_false, false_and, or_false, false_or, or_true, true_or, ite_true, ite_false, if_true, if_false, Bool.false_eq_true, own_cons, own_nil, le1, le2, le3, le4, me_cons, me_nil, List.length_map, List.length_cons, List.length_nil, ne_eq, not_false_eq_true, not_true_eq_false, decide_eq_true_eq]
    refine ⟨d, 9, rfl, D6, by omega, by omega, fun H6 j x6 D7 j1 j2 => ?_⟩
    simp only [ap_seq, ap_next, ap_asg, ap_gName, ap_ret, ap_retN, ap_drop, ap_ifS, ap_break, ap_cont, ap_par, ap_aug, ap_ip, ap_gSub, ap_gTup, ap_gNil, ap_gCons, ap_var, ap_c, ap_op, ap_un, ap_if, ap_test, ap_B, ap_and, ap_or, ap_not, ap_andV, ap_orV, ap_notV, ap_nil, ap_cons, ap_tup, ap_lst, ap_cb, ap_bm, ap_call, ap_chain, ap_rI, ap_rI0, ap_rU, ap_rEq, ap_rNe, ap_revT, ap_sl, ap_part, ap_noPart, ap_ixLI, ap_ixTI, ap_ixLV, ap_ixTV, ap_len, ap_setLI, ap_setLV, ap_appI, ap_appV, ap_tupL, ap_listS, ap_sumLI, ap_sumTI, ap_repLI, ap_intI, ap_intB, ap_eqTI, ap_neTI, ap_eqLI, ap_neLI, ap_isi, ap_for, ap_rng1, ap_rng2, ap_iList, ap_iTup, ap_lc, ap_yes, ap_cut, ap_gTupH, ap_fmt, ap_jsn, ap_jsc, ap_gcd, ap_isqrt, ap_ixL, tyV_l, wipe_nil, wipe_cons, upd_same, List.set_cons_zero, List.set_cons_succ, List.getElem?_cons_zero, List.getElem?_cons_succ, List.cons_append, List.nil_append, List.append_nil, Option.some.injEq, V.int.injEq, V.ref.injEq, V.bl.injEq, V.str.injEq, V.ty.injEq, Bool.not_true, Bool.not_false, HO.lst.injEq, HO.tup.injEq, reduceCtorEq, Int.reduceToNat, Int.reduceLT, Int.reduceLE, Nat.reduceAdd, Int.cast_ofNat_Int, gi_c0, gi_c1, gi_c2, gi_c3, Int.natCast_inj, map_int_inj, map_nil_iff, List.cons.injEq, exists_eq_left, exists_eq_left', exists_eq, exists_eq', exists_and_left, exists_and_right, exists_const, and_assoc, and_true, true_and, and_false, false_and, or_false, false_or, or_true, true_or, ite_true, ite_false, if_true, if_false, Bool.false_eq_true, own_cons, own_nil, le1, le2, le3, le4, me_cons, me_nil, List.length_map, List.length_cons, List.length_nil, ne_eq, not_false_eq_true, not_true_eq_false, decide_eq_true_eq, CMu]
    have y1 := mulk (x := t) (y := 1 + n) (k := 15) (l := 15) (by omega) (by omega)
    have y2 := mulk (x := j) (y := 1 + n) (k := 15) (l := 15) (by omega) (by omega)
    refine ⟨by omega, by omega, by omega, by omega, by omega, by omega, by omega, by omega, ?_⟩
    refine ⟨_, _, rfl, by omega, by omega, by omega, by omega, by omega, fun H7 o1 x7 no1 eo1 => ?_⟩
    have w1 := told (a := 0 - t) (b := 1) (x := t * (1 + n)) (y := 0 - (1 + n)) ⟨by omega, Int.gcd_one_right _⟩ (by omega) (by grind)
    rw [w1.1, w1.2] at eo1
    refine ⟨z2, fun o2 no2 => ?_⟩
    have k2 := same_upd (o := HO.tup [V.int (0 - t), V.int 1]) no2
    refine ⟨o1, rfl, _, k2 _ _ eo1, iteC (fun c => absurd c (by simp)) fun _ => ?_⟩
    refine ⟨_, _, rfl, by omega, by omega, by omega, by omega, by omega, fun H8 o3 x8 no3 eo3 => ?_⟩
    simp only [ap_seq, ap_next, ap_asg, ap_gName, ap_ret, ap_retN, ap_drop, ap_ifS, ap_break, ap_cont, ap_par, ap_aug, ap_ip, ap_gSub, ap_gTup, ap_gNil, ap_gCons, ap_var, ap_c, ap_op, ap_un, ap_if, ap_test, ap_B, ap_and, ap_or, ap_not, ap_andV, ap_orV, ap_notV, ap_nil, ap_cons, ap_tup, ap_lst, ap_cb, ap_bm, ap_call, ap_chain, ap_rI, ap_rI0, ap_rU, ap_rEq, ap_rNe, ap_revT, ap_sl, ap_part, ap_noPart, ap_ixLI, ap_ixTI, ap_ixLV, ap_ixTV, ap_len, ap_setLI, ap_setLV, ap_appI, ap_appV, ap_tupL, ap_listS, ap_sumLI, ap_sumTI, ap_repLI, ap_intI, ap_intB, ap_eqTI, ap_neTI, ap_eqLI, ap_neLI, ap_isi, ap_for, ap_rng1, ap_rng2, ap_iList, ap_iTup, ap_lc, ap_yes, ap_cut, ap_gTupH, ap_fmt, ap_jsn, ap_jsc, ap_gcd, ap_isqrt, ap_ixL, tyV_l, wipe_nil, wipe_cons, upd_same, List.set_cons_zero, List.set_cons_succ, List.getElem?_cons_zero, List.getElem?_cons_succ, List.cons_append, List.nil_append, List.append_nil, Option.some.injEq, V.int.injEq, V.ref.injEq, V.bl.injEq, V.str.injEq, V.ty.injEq, Bool.not_true, Bool.not_false, HO.lst.injEq, HO.tup.injEq, reduceCtorEq, Int.reduceToNat, Int.reduceLT, Int.reduceLE, Nat.reduceAdd, Int.cast_ofNat_Int, gi_c0, gi_c1, gi_c2, gi_c3, Int.natCast_inj, map_int_inj, map_nil_iff, List.cons.injEq, exists_eq_left, exists_eq_left', exists_eq, exists_eq', exists_and_left, exists_and_right, exists_const, and_assoc, and_true, true_and, and_false, false_and, or_false, false_or, or_true, true_or, ite_true, ite_false, if_true, if_false, Bool.false_eq_true, own_cons, own_nil, le1, le2, le3, le4, me_cons, me_nil, List.length_map, List.length_cons, List.length_nil, ne_eq, not_false_eq_true, not_true_eq_false, decide_eq_true_eq, sp_law_lowest]
    refine ⟨_, _, rfl, by omega, by omega, by omega, fun H9 o4 x9 no4 eo4 => ?_⟩
    simp only [ap_seq, ap_next, ap_asg, ap_gName, ap_ret, ap_retN, ap_drop, ap_ifS, ap_break, ap_cont, ap_par, ap_aug, ap_ip, ap_gSub, ap_gTup, ap_gNil, ap_gCons, ap_var, ap_c, ap_op, ap_un, ap_if, ap_test, ap_B, ap_and, ap_or, ap_not, ap_andV, ap_orV, ap_notV, ap_nil, ap_cons, ap_tup, ap_lst, ap_cb, ap_bm, ap_call, ap_chain, ap_rI, ap_rI0, ap_rU, ap_rEq, ap_rNe, ap_revT, ap_sl, ap_part, ap_noPart, ap_ixLI, ap_ixTI, ap_ixLV, ap_ixTV, ap_len, ap_setLI, ap_setLV, ap_appI, ap_appV, ap_tupL, ap_listS, ap_sumLI, ap_sumTI, ap_repLI, ap_intI, ap_intB, ap_eqTI, ap_neTI, ap_eqLI, ap_neLI, ap_isi, ap_for, ap_rng1, ap_rng2, ap_iList, ap_iTup, ap_lc, ap_yes, ap_cut, ap_gTupH, ap_fmt, ap_jsn, ap_jsc, ap_gcd, ap_isqrt, ap_ixL, tyV_l, wipe_nil, wipe_cons, upd_same, List.set_cons_zero, List.set_cons_succ, List.getElem?_cons_zero, List.getElem?_cons_succ, List.cons_append, List.nil_append, List.append_nil, Option.some.injEq, V.int.injEq, V.ref.injEq, V.bl.injEq, V.str.injEq, V.ty.injEq, Bool.not_true, Bool.not_false, HO.lst.injEq, HO.tup.injEq, reduceCtorEq, Int.reduceToNat, Int.reduceLT, Int.reduceLE, Nat.reduceAdd, Int.cast_ofNat_Int, gi_c0, gi_c1, gi_c2, gi_c3, Int.natCast_inj, map_int_inj, map_nil_iff, List.cons.injEq, exists_eq_left, exists_eq_left', exists_eq, exists_eq', exists_and_left, exists_and_right, exists_const, and_assoc, and_true, true_and, and_false, false_and, or_false, false_or, or_true, true_or, ite_true, ite_false, if_true, if_false, Bool.false_eq_true, own_cons, own_nil, le1, le2, le3, le4, me_cons, me_nil, List.length_map, List.length_cons, List.length_nil, ne_eq, not_false_eq_true, not_true_eq_false, decide_eq_true_eq]
    refine ⟨_, x9 _ _ eo3, _, eo4, iteC (fun c => absurd c (by simp)) fun _ => ?_⟩
    refine ⟨_, _, rfl, by omega, by omega, by omega, by omega, by omega, fun H10 o5 x10 no5 eo5 => ?_⟩
    have w2 := told (a := j + 1) (b := 1) (x := j * (1 + n) + (1 + n)) (y := 1 + n) ⟨by omega, Int.gcd_one_right _⟩ (by omega) (by grind)
    rw [w2.1, w2.2] at eo5
    have w3 : (j * (1 + n) + (1 + n)) / (1 + n) = j + 1 := by
      rw [show j * (1 + n) + (1 + n) = (j + 1) * (1 + n) by grind]
      exact Int.mul_ediv_cancel _ (by omega)
    simp only [ap_seq, ap_next, ap_asg, ap_gName, ap_ret, ap_retN, ap_drop, ap_ifS, ap_break, ap_cont, ap_par, ap_aug, ap_ip, ap_gSub, ap_gTup, ap_gNil, ap_gCons, ap_var, ap_c, ap_op, ap_un, ap_if, ap_test, ap_B, ap_and, ap_or, ap_not, ap_andV, ap_orV, ap_notV, ap_nil, ap_cons, ap_tup, ap_lst, ap_cb, ap_bm, ap_call, ap_chain, ap_rI, ap_rI0, ap_rU, ap_rEq, ap_rNe, ap_revT, ap_sl, ap_part, ap_noPart, ap_ixLI, ap_ixTI, ap_ixLV, ap_ixTV, ap_len, ap_setLI, ap_setLV, ap_appI, ap_appV, ap_tupL, ap_listS, ap_sumLI, ap_sumTI, ap_repLI, ap_intI, ap_intB, ap_eqTI, ap_neTI, ap_eqLI, ap_neLI, ap_isi, ap_for, ap_rng1, ap_rng2, ap_iList, ap_iTup, ap_lc, ap_yes, ap_cut, ap_gTupH, ap_fmt, ap_jsn, ap_jsc, ap_gcd, ap_isqrt, ap_ixL, tyV_l, wipe_nil, wipe_cons, upd_same, List.set_cons_zero, List.set_cons_succ, List.getElem?_cons_zero, List.getElem?_cons_succ, List.cons_append, List.nil_append, List.append_nil, Option.some.injEq, V.int.injEq, V.ref.injEq, V.bl.injEq, V.str.injEq, V.ty.injEq, Bool.not_true, Bool.not_false, HO.lst.injEq, HO.tup.injEq, reduceCtorEq, Int.reduceToNat, Int.reduceLT, Int.reduceLE, Nat.reduceAdd, Int.cast_ofNat_Int, gi_c0, gi_c1, gi_c2, gi_c3, Int.natCast_inj, map_int_inj, map_nil_iff, List.cons.injEq, exists_eq_left, exists_eq_left', exists_eq, exists_eq', exists_and_left, exists_and_right, exists_const, and_assoc, and_true, true_and, and_false, false_and, or_false, false_or, or_true, true_or, ite_true, ite_false, if_true, if_false, Bool.false_eq_true, own_cons, own_nil, le1, le2, le3, le4, me_cons, me_nil, List.length_map, List.length_cons, List.length_nil, ne_eq, not_false_eq_true, not_true_eq_false, decide_eq_true_eq, CDp]
    rw [w3]
    refine ⟨by omega, by omega, z2, fun o6 no6 => ?_⟩
    have k6 := same_upd (o := HO.tup [V.int (j + 1), V.int 1]) no6
    refine ⟨_, k6 _ _ eo5, iteC (fun c => absurd c (by simp)) fun _ => ?_⟩
    have SX : Same H6 _ := (((x7.trans k2).trans x8).trans (x9.trans x10)).trans k6
    generalize upd H10 o6 (HO.tup [V.int (j + 1), V.int 1]) = G0 at SX ⊢
    refine ⟨by decide, fun u1 nu1 => ?_⟩
    have su1 := same_upd (o := HO.tup [V.int 2, V.int 4]) nu1
    have eu1 : upd G0 u1 (HO.tup [V.int 2, V.int 4]) u1 = some (HO.tup [V.int 2, V.int 4]) := upd_same
    generalize upd G0 u1 (HO.tup [V.int 2, V.int 4]) = G1 at su1 eu1 ⊢
    refine ⟨by decide, fun u2 nu2 => ?_⟩
    have su2 := same_upd (o := HO.tup [V.int 1, V.int 0]) nu2
    have eu2 : upd G1 u2 (HO.tup [V.int 1, V.int 0]) u2 = some (HO.tup [V.int 1, V.int 0]) := upd_same
    generalize upd G1 u2 (HO.tup [V.int 1, V.int 0]) = G2 at su2 eu2 ⊢
    refine ⟨by decide, fun u3 nu3 => ?_⟩
    have su3 := same_upd (o := HO.tup [V.int 1, V.int (-2)]) nu3
    have eu3 : upd G2 u3 (HO.tup [V.int 1, V.int (-2)]) u3 = some (HO.tup [V.int 1, V.int (-2)]) := upd_same
    generalize upd G2 u3 (HO.tup [V.int 1, V.int (-2)]) = G3 at su3 eu3 ⊢
    refine ⟨by decide, fun u4 nu4 => ?_⟩
    have su4 := same_upd (o := HO.tup [V.int 0, V.int 2]) nu4
    have eu4 : upd G3 u4 (HO.tup [V.int 0, V.int 2]) u4 = some (HO.tup [V.int 0, V.int 2]) := upd_same
    generalize upd G3 u4 (HO.tup [V.int 0, V.int 2]) = G4 at su4 eu4 ⊢
    refine ⟨by decide, fun u5 nu5 => ?_⟩
    have su5 := same_upd (o := HO.tup [V.int 1, V.int 2, V.int 3]) nu5
    have eu5 : upd G4 u5 (HO.tup [V.int 1, V.int 2, V.int 3]) u5 = some (HO.tup [V.int 1, V.int 2, V.int 3]) := upd_same
    generalize upd G4 u5 (HO.tup [V.int 1, V.int 2, V.int 3]) = G5 at su5 eu5 ⊢
    refine ⟨by decide, fun u6 nu6 => ?_⟩
    have su6 := same_upd (o := HO.lst [V.int 1, V.int 2]) nu6
    have eu6 : upd G5 u6 (HO.lst [V.int 1, V.int 2]) u6 = some (HO.lst [V.int 1, V.int 2]) := upd_same
    generalize upd G5 u6 (HO.lst [V.int 1, V.int 2]) = G6 at su6 eu6 ⊢
    refine ⟨by decide, fun u7 nu7 => ?_⟩
    have su7 := same_upd (o := HO.tup [V.int 1]) nu7
    have eu7 : upd G6 u7 (HO.tup [V.int 1]) u7 = some (HO.tup [V.int 1]) := upd_same
    generalize upd G6 u7 (HO.tup [V.int 1]) = G7 at su7 eu7 ⊢
    refine ⟨by decide, fun u8 nu8 => ?_⟩
    have su8 := same_upd (o := HO.tup [V.bl true, V.int 1]) nu8
    have eu8 : upd G7 u8 (HO.tup [V.bl true, V.int 1]) u8 = some (HO.tup [V.bl true, V.int 1]) := upd_same
    generalize upd G7 u8 (HO.tup [V.bl true, V.int 1]) = G8 at su8 eu8 ⊢
    refine ⟨by decide, fun u9 nu9 => ?_⟩
    have su9 := same_upd (o := HO.tup [V.int 1, V.bl true]) nu9
    have eu9 : upd G8 u9 (HO.tup [V.int 1, V.bl true]) u9 = some (HO.tup [V.int 1, V.bl true]) := upd_same
    generalize upd G8 u9 (HO.tup [V.int 1, V.bl true]) = G9 at su9 eu9 ⊢
    refine ⟨⟨by decide, by decide, by decide⟩, ?_⟩
    refine ⟨by decide, fun u10 nu10 => ?_⟩
    have su10 := same_upd (o := HO.tup [V.int (10 ^ 60), V.int 1]) nu10
    have eu10 : upd G9 u10 (HO.tup [V.int (10 ^ 60), V.int 1]) u10 = some (HO.tup [V.int (10 ^ 60), V.int 1]) := upd_same
    generalize upd G9 u10 (HO.tup [V.int (10 ^ 60), V.int 1]) = G10 at su10 eu10 ⊢
    refine ⟨⟨by decide, by decide, by decide⟩, ?_⟩
    refine ⟨by decide, fun u11 nu11 => ?_⟩
    have su11 := same_upd (o := HO.tup [V.int 1, V.int (10 ^ 60)]) nu11
    have eu11 : upd G10 u11 (HO.tup [V.int 1, V.int (10 ^ 60)]) u11 = some (HO.tup [V.int 1, V.int (10 ^ 60)]) := upd_same
    generalize upd G10 u11 (HO.tup [V.int 1, V.int (10 ^ 60)]) = G11 at su11 eu11 ⊢
    refine ⟨by decide, fun u12 nu12 => ?_⟩
    have su12 := same_upd (o := HO.lst [V.ref u1, V.ref u2, V.ref u3, V.ref u4, V.ref u5, V.ref u6, V.ref u7, V.str (Str.ofString "1/2"), V.non, V.int 1, V.ref u8, V.ref u9, V.ref u10, V.ref u11]) nu12
    have eu12 : upd G11 u12 (HO.lst [V.ref u1, V.ref u2, V.ref u3, V.ref u4, V.ref u5, V.ref u6, V.ref u7, V.str (Str.ofString "1/2"), V.non, V.int 1, V.ref u8, V.ref u9, V.ref u10, V.ref u11]) u12 = some (HO.lst [V.ref u1, V.ref u2, V.ref u3, V.ref u4, V.ref u5, V.ref u6, V.ref u7, V.str (Str.ofString "1/2"), V.non, V.int 1, V.ref u8, V.ref u9, V.ref u10, V.ref u11]) := upd_same
    generalize upd G11 u12 (HO.lst [V.ref u1, V.ref u2, V.ref u3, V.ref u4, V.ref u5, V.ref u6, V.ref u7, V.str (Str.ofString "1/2"), V.non, V.int 1, V.ref u8, V.ref u9, V.ref u10, V.ref u11]) = G12 at su12 eu12 ⊢
    have F1 := su12 _ _ (su11 _ _ (su10 _ _ (su9 _ _ (su8 _ _ (su7 _ _ (su6 _ _ (su5 _ _ (su4 _ _ (su3 _ _ (su2 _ _ (eu1)))))))))))
    have F2 := su12 _ _ (su11 _ _ (su10 _ _ (su9 _ _ (su8 _ _ (su7 _ _ (su6 _ _ (su5 _ _ (su4 _ _ (su3 _ _ (eu2))))))))))
    have F3 := su12 _ _ (su11 _ _ (su10 _ _ (su9 _ _ (su8 _ _ (su7 _ _ (su6 _ _ (su5 _ _ (su4 _ _ (eu3)))))))))
    have F4 := su12 _ _ (su11 _ _ (su10 _ _ (su9 _ _ (su8 _ _ (su7 _ _ (su6 _ _ (su5 _ _ (eu4))))))))
    have F5 := su12 _ _ (su11 _ _ (su10 _ _ (su9 _ _ (su8 _ _ (su7 _ _ (su6 _ _ (eu5)))))))
    have F6 := su12 _ _ (su11 _ _ (su10 _ _ (su9 _ _ (su8 _ _ (su7 _ _ (eu6))))))
    have F7 := su12 _ _ (su11 _ _ (su10 _ _ (su9 _ _ (su8 _ _ (eu7)))))
    have F8 := su12 _ _ (su11 _ _ (su10 _ _ (su9 _ _ (eu8))))
    have F9 := su12 _ _ (su11 _ _ (su10 _ _ (eu9)))
    have F10 := su12 _ _ (su11 _ _ (eu10))
    have F11 := su12 _ _ (eu11)
    have SG : Same H6 G12 := ((((((((((((SX.trans su1).trans su2).trans su3).trans su4).trans su5).trans su6).trans su7).trans su8).trans su9).trans su10).trans su11).trans su12)
    refine ⟨⟨_, sqL_of eu12⟩, lc_no eu12 (fun x => rfl) (fun i x G hx sm Q' hq => ?_) (fun D G nD sm eD => ?_)⟩
    · have hv : RatV x G false := by
        rcases i with _ | _ | _ | _ | _ | _ | _ | _ | _ | _ | _ | _ | _ | _ | i
        · rw [← Option.some.inj hx]
          exact .pairN (sm _ _ F1) ⟨_, rfl⟩ ⟨_, rfl⟩ (by decide)
        · rw [← Option.some.inj hx]
          exact .pairN (sm _ _ F2) ⟨_, rfl⟩ ⟨_, rfl⟩ (by decide)
        · rw [← Option.some.inj hx]
          exact .pairN (sm _ _ F3) ⟨_, rfl⟩ ⟨_, rfl⟩ (by decide)
        · rw [← Option.some.inj hx]
          exact .pairN (sm _ _ F4) ⟨_, rfl⟩ ⟨_, rfl⟩ (by decide)
        · rw [← Option.some.inj hx]
          exact .lenN (sm _ _ F5) (by simp)
        · rw [← Option.some.inj hx]
          exact .ty (ty_lst (sm _ _ F6)) (by decide)
        · rw [← Option.some.inj hx]
          exact .lenN (sm _ _ F7) (by simp)
        · rw [← Option.some.inj hx]
          exact .ty (ty_str _ _) (by decide)
        · rw [← Option.some.inj hx]
          exact .ty (ty_non _) (by decide)
        · rw [← Option.some.inj hx]
          exact .ty (ty_int _ _) (by decide)
        · rw [← Option.some.inj hx]
          exact .pairN (sm _ _ F8) ⟨_, rfl⟩ ⟨_, rfl⟩ rfl
        · rw [← Option.some.inj hx]
          exact .pairN (sm _ _ F9) ⟨_, rfl⟩ ⟨_, rfl⟩ rfl
        · rw [← Option.some.inj hx]
          exact .pairN (sm _ _ F10) ⟨_, rfl⟩ ⟨_, rfl⟩ (by decide)
        · rw [← Option.some.inj hx]
          exact .pairN (sm _ _ F11) ⟨_, rfl⟩ ⟨_, rfl⟩ (by decide)
        · exact absurd hx (by simp)
      simp only [ap_seq, ap_next, ap_asg, ap_gName, ap_ret, ap_retN, ap_drop, ap_ifS, ap_break, ap_cont, ap_par, ap_aug, ap_ip, ap_gSub, ap_gTup, ap_gNil, ap_gCons, ap_var, ap_c, ap_op, ap_un, ap_if, ap_test, ap_B, ap_and, ap_or, ap_not, ap_andV, ap_orV, ap_notV, ap_nil, ap_cons, ap_tup, ap_lst, ap_cb, ap_bm, ap_call, ap_chain, ap_rI, ap_rI0, ap_rU, ap_rEq, ap_rNe, ap_revT, ap_sl, ap_part, ap_noPart, ap_ixLI, ap_ixTI, ap_ixLV, ap_ixTV, ap_len, ap_setLI, ap_setLV, ap_appI, ap_appV, ap_tupL, ap_listS, ap_sumLI, ap_sumTI, ap_repLI, ap_intI, ap_intB, ap_eqTI, ap_neTI, ap_eqLI, ap_neLI, ap_isi, ap_for, ap_rng1, ap_rng2, ap_iList, ap_iTup, ap_lc, ap_yes, ap_cut, ap_gTupH, ap_fmt, ap_jsn, ap_jsc, ap_gcd, ap_isqrt, ap_ixL, tyV_l, wipe_nil, wipe_cons, upd_same, List.set_cons_zero, List.set_cons_succ, List.getElem?_cons_zero, List.getElem?_cons_succ, List.cons_append, List.nil_append, List.append_nil, Option.some.injEq, V.int.injEq, V.ref.injEq, V.bl.injEq, V.str.injEq, V.ty.injEq, Bool.not_true, Bool.not_false, HO.lst.injEq, HO.tup.injEq, reduceCtorEq, Int.reduceToNat, Int.reduceLT, Int.reduceLE, Nat.reduceAdd, Int.cast_ofNat_Int, gi_c0, gi_c1, gi_c2, gi_c3, Int.natCast_inj, map_int_inj, map_nil_iff, List.cons.injEq, exists_eq_left, exists_eq_left', exists_eq, exists_eq', exists_and_left, exists_and_right, exists_const, and_assoc, and_true, true_and, and_false, false_and, or_false, false_or, or_true, true_or, ite_true, ite_false, if_true, if_false, Bool.false_eq_true, own_cons, own_nil, le1, le2, le3, le4, me_cons, me_nil, List.length_map, List.length_cons, List.length_nil, ne_eq, not_false_eq_true, not_true_eq_false, decide_eq_true_eq, sp_is_ratio]
      exact ⟨_, hv, hq⟩
    · refine ⟨by decide, fun e ne => ?_⟩
      have se := same_upd (o := HO.lst []) ne
      refine ⟨_, _, .lst (sqL_of (se _ _ eD)) .nil, .lst (sqL_of upd_same) .nil, rfl, rfl, false, rfl, ?_⟩
      rw [if_neg (by simp)]
      obtain ⟨_, _, _, hd1⟩ := D2
      obtain ⟨_, _, _, hd2⟩ := D3
      have pd : p ≠ d := (ne_of_none hd1 np).symm
      have qd : q ≠ d := (ne_of_none hd2 nq).symm
      have SE := (SG.trans sm).trans se
      have hp' := SE _ _ (x6 _ _ pd (x5 _ _ pd (x4 _ _ pd (x3 _ _ pd hp))))
      have hq' := SE _ _ (x6 _ _ qd (x5 _ _ qd (x4 _ _ qd hq)))
      have rp' : RatM (10 ^ 14) a b := ⟨rp.low, by have := rp.lo; omega, by have := rp.hi; omega, by have := rp.bo; omega⟩
      have rq' : RatM (10 ^ 14) a' b' := ⟨rq.low, by have := rq.lo; omega, by have := rq.hi; omega, by have := rq.bo; omega⟩
      refine ⟨d, p, q, a, b, a', b', rfl, hp', rp', hq', rq', fun I1 z1 => ?_⟩
      refine ⟨true, rfl, ?_⟩
      rw [if_pos rfl]
      refine ⟨d, q, q, a', b', a', b', rfl, z1 _ _ hq', rq', z1 _ _ hq', rq', fun I2 z2 => ?_⟩
      refine k _ ?_
      exact (((((X2.trans x2).trans x3).trans x4).trans x5).trans x6).trans (.same (SE.trans (z1.trans z2)))
def sp_law (K : PySem.W.Frag) : Sp := fun vs H Q _ => ∃ (a : Addr) (ns : List Int), vs = [.ref a] ∧ SqL K H a (ns.map V.int) ∧ ns.length ≤ 63 ∧ ∀ H', Q (.bl true) H'
theorem ok_law (T : Tx K mg) : FnOk P w K mg base CX0 7 T.f_law T.d_law p_law (sp_law K) := by
  refine T.F_law.ok sc_law (fun vs H Q E h => ?_) (fun cdv A outer s H vs Q E hr h => ?_)
  · obtain ⟨a, ns, rfl, _⟩ := h
    rfl
  · obtain ⟨a, ns, rfl, hS, hl, q⟩ := h
    refine ⟨_, (pss_cons (ps_for PassesOwn.never rfl (pi_range1 (by rfl) T.z_range (pa_cons (pe_callB (call_max2 rfl) (by rfl) T.z_max (by decide +kernel) (pa_cons pe_int (pa_cons (pe_callB (call_min2 rfl) (by rfl) T.z_min (by decide +kernel) (pa_cons pe_int (pa_cons (pe_callB call_len_seq (by rfl) T.z_len PySem.boot_len (pa_cons (pv 0) pa_nil)) pa_nil))) pa_nil))) pa_nil)) (pg_name (i := 1) sc_law.nd rfl (by first | exact .inl rfl | exact .inr rfl))
      (pss_one (ps_if (pt_not (pt_val (pe_call (ok_law_right T) (hr.mono (by decide)) (by rfl) T.m_law_right T.F_law_right.kp T.b_law_right .nil pass0 (pa_cons (pe_call (ok_law_dice T) (hr.mono (by decide)) (by rfl) T.m_law_dice T.F_law_dice.kp T.b_law_dice .nil pass0 (pa_cons (pv 0) (pa_cons (pv 1) pa_nil))) pa_nil)))) (pss_one (ps_ret pe_bl)) pss_nil)))
      (pss_cons (ps_setLc (i := 2) (own := [("_law_value", 3)]) (g := gName 3) (tt := tYes) rfl sc_law.nd rfl rfl (sw_true rfl rfl rfl (by decide +kernel)) (pi_tup (pe_tup (pa_cons pe_int (pa_cons (pe_op op_add (pe_un un_neg (pe_op op_pow pe_int pe_int)) pe_int) (pa_cons (pe_op op_pow pe_int pe_int) (pa_cons pe_bl (pa_cons pe_non (pa_cons pe_str (pa_cons (pe_tup (pa_cons pe_int pa_nil)) pa_nil))))))))) (blkOk_by (N := n_law) (sc := defScope s_law) (by decide +kernel)) (fun _ _ _ _ _ => (pg_name (i := 3) sc_law.nd rfl (by first | exact .inl rfl | exact .inr rfl))) (fun _ _ _ _ _ => pts_nil) (fun _ _ _ _ _ => (pe_call (ok_is_integer T) (hr.mono (by decide)) (by rfl) T.m_is_integer T.F_is_integer.kp T.b_is_integer .nil pass0 (pa_cons (pv 3) pa_nil))))
      (pss_one (ps_ret (pe_and (pe_cmpR (op_eqD hr.units) (pv 2) (pe_lst (pa_cons pe_bl (pa_cons pe_bl (pa_cons pe_bl (pa_cons pe_bl (pa_cons pe_bl (pa_cons pe_bl (pa_cons pe_bl pa_nil)))))))) (nomark _)) (pe_and (pe_cmpR (op_eqD hr.units) (pe_call (ok_root_of T) (hr.mono (by decide)) (by rfl) T.m_root_of T.F_root_of.kp T.b_root_of .nil pass0 (pa_cons (pe_tup (pa_cons pe_int (pa_cons pe_int pa_nil))) pa_nil)) (pe_tup (pa_cons pe_int (pa_cons pe_int pa_nil))) (nomark _)) (pe_one (pe_cmpR op_isN (pe_call (ok_root_of T) (hr.mono (by decide)) (by rfl) T.m_root_of T.F_root_of.kp T.b_root_of .nil pass0 (pa_cons (pe_tup (pa_cons pe_int (pa_cons pe_int pa_nil))) pa_nil)) pe_non (nomark _))))))))), ?_⟩
    rw [st_law]
    simp only [ap_seq, ap_next, ap_asg, ap_gName, ap_ret, ap_retN, ap_drop, ap_ifS, ap_break, ap_cont, ap_par, ap_aug, ap_ip, ap_gSub, ap_gTup, ap_gNil, ap_gCons, ap_var, ap_c, ap_op, ap_un, ap_if, ap_test, ap_B, ap_and, ap_or, ap_not, ap_andV, ap_orV, ap_notV, ap_nil, ap_cons, ap_tup, ap_lst, ap_cb, ap_bm, ap_call, ap_chain, ap_rI, ap_rI0, ap_rU, ap_rEq, ap_rNe, ap_revT, ap_sl, ap_part, ap_noPart, ap_ixLI, ap_ixTI, ap_ixLV, ap_ixTV, ap_len, ap_setLI, ap_setLV, ap_appI, ap_appV, ap_tupL, ap_listS, ap_sumLI, ap_sumTI, ap_repLI, ap_intI, ap_intB, ap_eqTI, ap_neTI, ap_eqLI, ap_neLI, ap_isi, ap_for, ap_rng1, ap_rng2, ap_iList, ap_iTup, ap_lc, ap_yes, ap_cut, ap_gTupH, ap_fmt, ap_jsn, ap_jsc, ap_gcd, ap_isqrt, ap_ixL, tyV_l, wipe_nil, wipe_cons, upd_same, List.set_cons_zero, List.set_cons_succ, List.getElem?_cons_zero, List.getElem?_cons_succ, List.cons_append, List.nil_append, List.append_nil, Option.some.injEq, V.int.injEq, V.ref.injEq, V.bl.injEq, V.str.injEq, V.ty.injEq, Bool.not_true, Bool.not_false, HO.lst.injEq, HO.tup.injEq, reduceCtorEq, Int.reduceToNat, Int.reduceLT, Int.reduceLE, Nat.reduceAdd, Int.cast_ofNat_Int, gi_c0, gi_c1, gi_c2, gi_c3, Int.natCast_inj, map_int_inj, map_nil_iff, List.cons.injEq, exists_eq_left, exists_eq_left', exists_eq, exists_eq', exists_and_left, exists_and_right, exists_const, and_assoc, and_true, true_and, and_false, false_and, or_false, false_or, or_true, true_or, ite_true, ite_false, if_true, if_false, Bool.false_eq_true, own_cons, own_nil, le1, le2, le3, le4, me_cons, me_nil, List.length_map, List.length_cons, List.length_nil, ne_eq, not_false_eq_true, not_true_eq_false, decide_eq_true_eq]
    refine ⟨_, .inl hS, ?_⟩
    have ln : (ns.map V.int).length = ns.length := List.length_map ..
    rw [ln]
    obtain ⟨n, hn, n1, n4⟩ : ∃ n : Int, (if (if (ns.length : Int) < 6 then (ns.length : Int) else 6) > 1 then if (ns.length : Int) < 6 then (ns.length : Int) else 6 else 1) = n ∧ 1 ≤ n ∧ n ≤ 6 :=
      ⟨_, rfl, by split <;> split <;> omega, by split <;> split <;> omega⟩
    simp only [hn]
    refine ⟨by omega, by omega, ?_⟩
    refine loop_range (fun i σ' H' => Same H H' ∧ ∃ y1, σ' = [some (.ref a), y1, none, none]) ⟨Same.refl H, _, rfl⟩ (fun i σ' H1 hi hP => ?_) (fun σ' H1 hP => ?_)
    · obtain ⟨sm, y1, e⟩ := hP
      subst e
      simp only [ap_seq, ap_next, ap_asg, ap_gName, ap_ret, ap_retN, ap_drop, ap_ifS, ap_break, ap_cont, ap_par, ap_aug, ap_ip, ap_gSub, ap_gTup, ap_gNil, ap_gCons, ap_var, ap_c, ap_op, ap_un, ap_if, ap_test, ap_B, ap_and, ap_or, ap_not, ap_andV, ap_orV, ap_notV, ap_nil, ap_cons, ap_tup, ap_lst, ap_cb, ap_bm, ap_call, ap_chain, ap_rI, ap_rI0, ap_rU, ap_rEq, ap_rNe, ap_revT, ap_sl, ap_part, ap_noPart, ap_ixLI, ap_ixTI, ap_ixLV, ap_ixTV, ap_len, ap_setLI, ap_setLV, ap_appI, ap_appV, ap_tupL, ap_listS, ap_sumLI, ap_sumTI, ap_repLI, ap_intI, ap_intB, ap_eqTI, ap_neTI, ap_eqLI, ap_neLI, ap_isi, ap_for, ap_rng1, ap_rng2, ap_iList, ap_iTup, ap_lc, ap_yes, ap_cut, ap_gTupH, ap_fmt, ap_jsn, ap_jsc, ap_gcd, ap_isqrt, ap_ixL, tyV_l, wipe_nil, wipe_cons, upd_same, List.set_cons_zero, List.set_cons_succ, List.getElem?_cons_zero, List.getElem?_cons_succ, List.cons_append, List.nil_append, List.append_nil, Option.some.injEq, V.int.injEq, V.ref.injEq, V.bl.injEq, V.str.injEq, V.ty.injEq, Bool.not_true, Bool.not_false, HO.lst.injEq, HO.tup.injEq, reduceCtorEq, Int.reduceToNat, Int.reduceLT, Int.reduceLE, Nat.reduceAdd, Int.cast_ofNat_Int, gi_c0, gi_c1, gi_c2, gi_c3, Int.natCast_inj, map_int_inj, map_nil_iff, List.cons.injEq, exists_eq_left, exists_eq_left', exists_eq, exists_eq', exists_and_left, exists_and_right, exists_const, and_assoc, and_true, true_and, and_false, false_and, or_false, false_or, or_true, true_or, ite_true, ite_false, if_true, if_false, Bool.false_eq_true, own_cons, own_nil, le1, le2, le3, le4, me_cons, me_nil, List.length_map, List.length_cons, List.length_nil, ne_eq, not_false_eq_true, not_true_eq_false, decide_eq_true_eq]
      refine ⟨a, ns, i, by rw [Int.zero_add], sm.seq hS, by omega, fun H2 p s2 np D2 => ?_⟩
      refine ⟨p, rfl, D2, fun H3 x3 => ?_⟩
      simp only [ap_seq, ap_next, ap_asg, ap_gName, ap_ret, ap_retN, ap_drop, ap_ifS, ap_break, ap_cont, ap_par, ap_aug, ap_ip, ap_gSub, ap_gTup, ap_gNil, ap_gCons, ap_var, ap_c, ap_op, ap_un, ap_if, ap_test, ap_B, ap_and, ap_or, ap_not, ap_andV, ap_orV, ap_notV, ap_nil, ap_cons, ap_tup, ap_lst, ap_cb, ap_bm, ap_call, ap_chain, ap_rI, ap_rI0, ap_rU, ap_rEq, ap_rNe, ap_revT, ap_sl, ap_part, ap_noPart, ap_ixLI, ap_ixTI, ap_ixLV, ap_ixTV, ap_len, ap_setLI, ap_setLV, ap_appI, ap_appV, ap_tupL, ap_listS, ap_sumLI, ap_sumTI, ap_repLI, ap_intI, ap_intB, ap_eqTI, ap_neTI, ap_eqLI, ap_neLI, ap_isi, ap_for, ap_rng1, ap_rng2, ap_iList, ap_iTup, ap_lc, ap_yes, ap_cut, ap_gTupH, ap_fmt, ap_jsn, ap_jsc, ap_gcd, ap_isqrt, ap_ixL, tyV_l, wipe_nil, wipe_cons, upd_same, List.set_cons_zero, List.set_cons_succ, List.getElem?_cons_zero, List.getElem?_cons_succ, List.cons_append, List.nil_append, List.append_nil, Option.some.injEq, V.int.injEq, V.ref.injEq, V.bl.injEq, V.str.injEq, V.ty.injEq, Bool.not_true, Bool.not_false, HO.lst.injEq, HO.tup.injEq, reduceCtorEq, Int.reduceToNat, Int.reduceLT, Int.reduceLE, Nat.reduceAdd, Int.cast_ofNat_Int, gi_c0, gi_c1, gi_c2, gi_c3, Int.natCast_inj, map_int_inj, map_nil_iff, List.cons.injEq, exists_eq_left, exists_eq_left', exists_eq, exists_eq', exists_and_left, exists_and_right, exists_const, and_assoc, and_true, true_and, and_false, false_and, or_false, false_or, or_true, true_or, ite_true, ite_false, if_true, if_false, Bool.false_eq_true, own_cons, own_nil, le1, le2, le3, le4, me_cons, me_nil, List.length_map, List.length_cons, List.length_nil, ne_eq, not_false_eq_true, not_true_eq_false, decide_eq_true_eq]
      exact fun b o hb => x3 b o (ne_of_none hb (sm.free np)) (s2 _ _ (sm _ _ hb))
    · obtain ⟨sm, y1, e⟩ := hP
      subst e
      simp only [ap_seq, ap_next, ap_asg, ap_gName, ap_ret, ap_retN, ap_drop, ap_ifS, ap_break, ap_cont, ap_par, ap_aug, ap_ip, ap_gSub, ap_gTup, ap_gNil, ap_gCons, ap_var, ap_c, ap_op, ap_un, ap_if, ap_test, ap_B, ap_and, ap_or, ap_not, ap_andV, ap_orV, ap_notV, ap_nil, ap_cons, ap_tup, ap_lst, ap_cb, ap_bm, ap_call, ap_chain, ap_rI, ap_rI0, ap_rU, ap_rEq, ap_rNe, ap_revT, ap_sl, ap_part, ap_noPart, ap_ixLI, ap_ixTI, ap_ixLV, ap_ixTV, ap_len, ap_setLI, ap_setLV, ap_appI, ap_appV, ap_tupL, ap_listS, ap_sumLI, ap_sumTI, ap_repLI, ap_intI, ap_intB, ap_eqTI, ap_neTI, ap_eqLI, ap_neLI, ap_isi, ap_for, ap_rng1, ap_rng2, ap_iList, ap_iTup, ap_lc, ap_yes, ap_cut, ap_gTupH, ap_fmt, ap_jsn, ap_jsc, ap_gcd, ap_isqrt, ap_ixL, tyV_l, wipe_nil, wipe_cons, upd_same, List.set_cons_zero, List.set_cons_succ, List.getElem?_cons_zero, List.getElem?_cons_succ, List.cons_append, List.nil_append, List.append_nil, Option.some.injEq, V.int.injEq, V.ref.injEq, V.bl.injEq, V.str.injEq, V.ty.injEq, Bool.not_true, Bool.not_false, HO.lst.injEq, HO.tup.injEq, reduceCtorEq, Int.reduceToNat, Int.reduceLT, Int.reduceLE, Nat.reduceAdd, Int.cast_ofNat_Int, gi_c0, gi_c1, gi_c2, gi_c3, Int.natCast_inj, map_int_inj, map_nil_iff, List.cons.injEq, exists_eq_left, exists_eq_left', exists_eq, exists_eq', exists_and_left, exists_and_right, exists_const, and_assoc, and_true, true_and, and_false, false_and, or_false, false_or, or_true, true_or, ite_true, ite_false, if_true, if_false, Bool.false_eq_true, own_cons, own_nil, le1, le2, le3, le4, me_cons, me_nil, List.length_map, List.length_cons, List.length_nil, ne_eq, not_false_eq_true, not_true_eq_false, decide_eq_true_eq]
      refine ⟨⟨by decide, by decide, by decide⟩, ⟨by decide, by decide, by decide⟩, ?_⟩
      refine ⟨by decide, fun u1 nu1 => ?_⟩
      have su1 := same_upd (o := HO.tup [V.int 1]) nu1
      have eu1 : upd H1 u1 (HO.tup [V.int 1]) u1 = some (HO.tup [V.int 1]) := upd_same
      generalize upd H1 u1 (HO.tup [V.int 1]) = G1 at su1 eu1 ⊢
      refine ⟨by decide, fun u2 nu2 => ?_⟩
      have su2 := same_upd (o := HO.tup [V.int 0, V.int (-10 ^ 60 + 1), V.int (10 ^ 60), V.bl true, V.non, V.str (Str.ofString "1"), V.ref u1]) nu2
      have eu2 : upd G1 u2 (HO.tup [V.int 0, V.int (-10 ^ 60 + 1), V.int (10 ^ 60), V.bl true, V.non, V.str (Str.ofString "1"), V.ref u1]) u2 = some (HO.tup [V.int 0, V.int (-10 ^ 60 + 1), V.int (10 ^ 60), V.bl true, V.non, V.str (Str.ofString "1"), V.ref u1]) := upd_same
      generalize upd G1 u2 (HO.tup [V.int 0, V.int (-10 ^ 60 + 1), V.int (10 ^ 60), V.bl true, V.non, V.str (Str.ofString "1"), V.ref u1]) = G2 at su2 eu2 ⊢
      refine ⟨⟨_, sqT_of eu2⟩, lc_tupV (fun i => .bl (decide (i < 2))) eu2 (by simp) (fun x => rfl) (fun i x G hx sm2 Q' hq => ?_) (fun D G nD sm2 eD => ?_)⟩
      · simp only [ap_seq, ap_next, ap_asg, ap_gName, ap_ret, ap_retN, ap_drop, ap_ifS, ap_break, ap_cont, ap_par, ap_aug, ap_ip, ap_gSub, ap_gTup, ap_gNil, ap_gCons, ap_var, ap_c, ap_op, ap_un, ap_if, ap_test, ap_B, ap_and, ap_or, ap_not, ap_andV, ap_orV, ap_notV, ap_nil, ap_cons, ap_tup, ap_lst, ap_cb, ap_bm, ap_call, ap_chain, ap_rI, ap_rI0, ap_rU, ap_rEq, ap_rNe, ap_revT, ap_sl, ap_part, ap_noPart, ap_ixLI, ap_ixTI, ap_ixLV, ap_ixTV, ap_len, ap_setLI, ap_setLV, ap_appI, ap_appV, ap_tupL, ap_listS, ap_sumLI, ap_sumTI, ap_repLI, ap_intI, ap_intB, ap_eqTI, ap_neTI, ap_eqLI, ap_neLI, ap_isi, ap_for, ap_rng1, ap_rng2, ap_iList, ap_iTup, ap_lc, ap_yes, ap_cut, ap_gTupH, ap_fmt, ap_jsn, ap_jsc, ap_gcd, ap_isqrt, ap_ixL, tyV_l, wipe_nil, wipe_cons, upd_same, List.set_cons_zero, List.set_cons_succ, List.getElem?_cons_zero, List.getElem?_cons_succ, List.cons_append, List.nil_append, List.append_nil, Option.some.injEq, V.int.injEq, V.ref.injEq, V.bl.injEq, V.str.injEq, V.ty.injEq, Bool.not_true, Bool.not_false, HO.lst.injEq, HO.tup.injEq, reduceCtorEq, Int.reduceToNat, Int.reduceLT, Int.reduceLE, Nat.reduceAdd, Int.cast_ofNat_Int, gi_c0, gi_c1, gi_c2, gi_c3, Int.natCast_inj, map_int_inj, map_nil_iff, List.cons.injEq, exists_eq_left, exists_eq_left', exists_eq, exists_eq', exists_and_left, exists_and_right, exists_const, and_assoc, and_true, true_and, and_false, false_and, or_false, false_or, or_true, true_or, ite_true, ite_false, if_true, if_false, Bool.false_eq_true, own_cons, own_nil, le1, le2, le3, le4, me_cons, me_nil, List.length_map, List.length_cons, List.length_nil, ne_eq, not_false_eq_true, not_true_eq_false, decide_eq_true_eq, sp_is_integer]
        have e1 := sm2 _ _ (su2 _ _ eu1)
        rcases i with _ | _ | _ | _ | _ | _ | _ | i
        · rw [← Option.some.inj hx]
          exact ⟨⟨_, rfl⟩, hq G (Same.refl G)⟩
        · rw [← Option.some.inj hx]
          exact ⟨⟨_, rfl⟩, hq G (Same.refl G)⟩
        · rw [← Option.some.inj hx]
          exact ⟨⟨_, rfl⟩, hq G (Same.refl G)⟩
        · rw [← Option.some.inj hx]
          exact ⟨⟨_, rfl⟩, hq G (Same.refl G)⟩
        · rw [← Option.some.inj hx]
          exact ⟨⟨_, rfl⟩, hq G (Same.refl G)⟩
        · rw [← Option.some.inj hx]
          exact ⟨⟨_, rfl⟩, hq G (Same.refl G)⟩
        · rw [← Option.some.inj hx]
          exact ⟨⟨_, ty_tup e1⟩, hq G (Same.refl G)⟩
        · exact absurd hx (by simp)
      · have z2 : 2 ≤ sizeLine := by decide
        refine ⟨by decide, fun u3 nu3 => ?_⟩
        have su3 := same_upd (o := HO.lst [V.bl true, V.bl true, V.bl false, V.bl false, V.bl false, V.bl false, V.bl false]) nu3
        have eu3 : upd G u3 (HO.lst [V.bl true, V.bl true, V.bl false, V.bl false, V.bl false, V.bl false, V.bl false]) u3 = some (HO.lst [V.bl true, V.bl true, V.bl false, V.bl false, V.bl false, V.bl false, V.bl false]) := upd_same
        generalize upd G u3 (HO.lst [V.bl true, V.bl true, V.bl false, V.bl false, V.bl false, V.bl false, V.bl false]) = G3 at su3 eu3 ⊢
        have eD2 : G3 D = some (.lst [V.bl true, V.bl true, V.bl false, V.bl false, V.bl false, V.bl false, V.bl false]) := su3 _ _ eD
        refine ⟨_, _, .lst (sqL_of eD2) (.cons (.bl _) (.cons (.bl _) (.cons (.bl _) (.cons (.bl _) (.cons (.bl _) (.cons (.bl _) (.cons (.bl _) .nil))))))), .lst (sqL_of eu3) (.cons (.bl _) (.cons (.bl _) (.cons (.bl _) (.cons (.bl _) (.cons (.bl _) (.cons (.bl _) (.cons (.bl _) .nil))))))), by decide, by decide, true, by decide +kernel, ?_⟩
        rw [if_pos rfl]
        refine ⟨by decide, fun u4 nu4 => ?_⟩
        have su4 := same_upd (o := HO.tup [V.int 4, V.int 9]) nu4
        have eu4 : upd G3 u4 (HO.tup [V.int 4, V.int 9]) u4 = some (HO.tup [V.int 4, V.int 9]) := upd_same
        generalize upd G3 u4 (HO.tup [V.int 4, V.int 9]) = G4 at su4 eu4 ⊢
        refine ⟨u4, 4, 9, rfl, eu4, ⟨⟨by omega, by decide⟩, by omega, by omega, by omega⟩, fun G5 x5 s5 v5 => ?_⟩
        simp only [ap_seq, ap_next, ap_asg, ap_gName, ap_ret, ap_retN, ap_drop, ap_ifS, ap_break, ap_cont, ap_par, ap_aug, ap_ip, ap_gSub, ap_gTup, ap_gNil, ap_gCons, ap_var, ap_c, ap_op, ap_un, ap_if, ap_test, ap_B, ap_and, ap_or, ap_not, ap_andV, ap_orV, ap_notV, ap_nil, ap_cons, ap_tup, ap_lst, ap_cb, ap_bm, ap_call, ap_chain, ap_rI, ap_rI0, ap_rU, ap_rEq, ap_rNe, ap_revT, ap_sl, ap_part, ap_noPart, ap_ixLI, ap_ixTI, ap_ixLV, ap_ixTV, ap_len, ap_setLI, ap_setLV, ap_appI, ap_appV, ap_tupL, ap_listS, ap_sumLI, ap_sumTI, ap_repLI, ap_intI, ap_intB, ap_eqTI, ap_neTI, ap_eqLI, ap_neLI, ap_isi, ap_for, ap_rng1, ap_rng2, ap_iList, ap_iTup, ap_lc, ap_yes, ap_cut, ap_gTupH, ap_fmt, ap_jsn, ap_jsc, ap_gcd, ap_isqrt, ap_ixL, tyV_l, wipe_nil, wipe_cons, upd_same, List.set_cons_zero, List.set_cons_succ, List.getElem?_cons_zero, List.getElem?_cons_succ, List.cons_append, List.nil_append, List.append_nil, Option.some.injEq, V.int.injEq, V.ref.injEq, V.bl.injEq, V.str.injEq, V.ty.injEq, Bool.not_true, Bool.not_false, HO.lst.injEq, HO.tup.injEq, reduceCtorEq, Int.reduceToNat, Int.reduceLT, Int.reduceLE, Nat.reduceAdd, Int.cast_ofNat_Int, gi_c0, gi_c1, gi_c2, gi_c3, Int.natCast_inj, map_int_inj, map_nil_iff, List.cons.injEq, exists_eq_left, exists_eq_left', exists_eq, exists_eq', exists_and_left, exists_and_right, exists_const, and_assoc, and_true, true_and, and_false, false_and, or_false, false_or, or_true, true_or, ite_true, ite_false, if_true, if_false, Bool.false_eq_true, own_cons, own_nil, le1, le2, le3, le4, me_cons, me_nil, List.length_map, List.length_cons, List.length_nil, ne_eq, not_false_eq_true, not_true_eq_false, decide_eq_true_eq]
        refine ⟨z2, fun u6 nu6 => ?_⟩
        have k6 := same_upd (o := HO.tup [V.int 2, V.int 3]) nu6
        have v6 : RootV (upd G5 u6 (HO.tup [V.int 2, V.int 3])) (.ref u6) 4 9 := .inr ⟨u6, 2, 3, rfl, upd_same, by omega, by omega, rfl, rfl⟩
        obtain ⟨dd, d1, d2, d3⟩ := root_eq K (v5.mono k6) v6
        refine ⟨dd, dd, d1, d2, d3, d3, true, by rw [SeqAt.eqv_refl dd (SeqAt.canLay_of_shaped d3)], ?_⟩
        rw [if_pos rfl]
        refine ⟨z2, fun u7 nu7 => ?_⟩
        refine ⟨u7, 2, 1, rfl, upd_same, ⟨⟨by omega, by decide⟩, by omega, by omega, by omega⟩, fun G8 x8 s8 v8 => ?_⟩
        rcases v8 with ⟨rfl, _⟩ | ⟨_, r, _, _, _, r0, _, er, _⟩
        · exact q _
        · exfalso
          by_cases h : r ≤ 1
          · have := sq_le r0 h
            omega
          · have := sq_le (a := 2) (b := r) (by omega) (by omega)
            omega
end
end My

namespace My
open PySem PySem.Spec PyProof.Rows L2 Pr M00
theorem all_mk {l : PySem.W.OpenLaw} {w : World} {K : PySem.W.Frag} {h : Heap} {mg : Str → Option Value} {fa : Addr} (X : K.In h) (G : h.Ns mainGlobals mg) (hfa : mg "law" = some (.ref fa))
    {f0 : Addr} {od0 an0 : Option Addr} {sl0 : Array (Option Value)} {oc0 kV0 dc0 pm0 cd0 ct0 : Value}
    (a0 : PySem.W.nsIn K mainGlobals "is_integer" = some (some (.ref f0))) (l0 : K.lookup f0 = some ⟨oc0, od0, .func (PySem.W.fnOf "is_integer" "is_integer" (defArgs s_is_integer) (defBody s_is_integer) (defScope s_is_integer) .none kV0 dc0 pm0 an0 cd0 ct0), sl0⟩) (c0 : PySem.W.codeIn K cd0 "is_integer" = true) (k0 : PySem.W.keepIn K (.ref f0) = true)
    {f1 : Addr} {od1 an1 : Option Addr} {sl1 : Array (Option Value)} {oc1 kV1 dc1 pm1 cd1 ct1 : Value}
    (a1 : PySem.W.nsIn K mainGlobals "is_ratio" = some (some (.ref f1))) (l1 : K.lookup f1 = some ⟨oc1, od1, .func (PySem.W.fnOf "is_ratio" "is_ratio" (defArgs s_is_ratio) (defBody s_is_ratio) (defScope s_is_ratio) .none kV1 dc1 pm1 an1 cd1 ct1), sl1⟩) (c1 : PySem.W.codeIn K cd1 "is_ratio" = true) (k1 : PySem.W.keepIn K (.ref f1) = true)
    {f2 : Addr} {od2 an2 : Option Addr} {sl2 : Array (Option Value)} {oc2 kV2 dc2 pm2 cd2 ct2 : Value}
    (a2 : PySem.W.nsIn K mainGlobals "need_ratio" = some (some (.ref f2))) (l2 : K.lookup f2 = some ⟨oc2, od2, .func (PySem.W.fnOf "need_ratio" "need_ratio" (defArgs s_need_ratio) (defBody s_need_ratio) (defScope s_need_ratio) .none kV2 dc2 pm2 an2 cd2 ct2), sl2⟩) (c2 : PySem.W.codeIn K cd2 "need_ratio" = true) (k2 : PySem.W.keepIn K (.ref f2) = true)
    {f3 : Addr} {od3 an3 : Option Addr} {sl3 : Array (Option Value)} {oc3 kV3 dc3 pm3 cd3 ct3 : Value}
    (a3 : PySem.W.nsIn K mainGlobals "reduced" = some (some (.ref f3))) (l3 : K.lookup f3 = some ⟨oc3, od3, .func (PySem.W.fnOf "reduced" "reduced" (defArgs s_reduced) (defBody s_reduced) (defScope s_reduced) .none kV3 dc3 pm3 an3 cd3 ct3), sl3⟩) (c3 : PySem.W.codeIn K cd3 "reduced" = true) (k3 : PySem.W.keepIn K (.ref f3) = true)
    {f4 : Addr} {od4 an4 : Option Addr} {sl4 : Array (Option Value)} {oc4 kV4 dc4 pm4 cd4 ct4 : Value}
    (a4 : PySem.W.nsIn K mainGlobals "lowest" = some (some (.ref f4))) (l4 : K.lookup f4 = some ⟨oc4, od4, .func (PySem.W.fnOf "lowest" "lowest" (defArgs s_lowest) (defBody s_lowest) (defScope s_lowest) .none kV4 dc4 pm4 an4 cd4 ct4), sl4⟩) (c4 : PySem.W.codeIn K cd4 "lowest" = true) (k4 : PySem.W.keepIn K (.ref f4) = true)
    {f5 : Addr} {od5 an5 : Option Addr} {sl5 : Array (Option Value)} {oc5 kV5 dc5 pm5 cd5 ct5 : Value}
    (a5 : PySem.W.nsIn K mainGlobals "plus" = some (some (.ref f5))) (l5 : K.lookup f5 = some ⟨oc5, od5, .func (PySem.W.fnOf "plus" "plus" (defArgs s_plus) (defBody s_plus) (defScope s_plus) .none kV5 dc5 pm5 an5 cd5 ct5), sl5⟩) (c5 : PySem.W.codeIn K cd5 "plus" = true) (k5 : PySem.W.keepIn K (.ref f5) = true)
    {f6 : Addr} {od6 an6 : Option Addr} {sl6 : Array (Option Value)} {oc6 kV6 dc6 pm6 cd6 ct6 : Value}
    (a6 : PySem.W.nsIn K mainGlobals "minus" = some (some (.ref f6))) (l6 : K.lookup f6 = some ⟨oc6, od6, .func (PySem.W.fnOf "minus" "minus" (defArgs s_minus) (defBody s_minus) (defScope s_minus) .none kV6 dc6 pm6 an6 cd6 ct6), sl6⟩) (c6 : PySem.W.codeIn K cd6 "minus" = true) (k6 : PySem.W.keepIn K (.ref f6) = true)
    {f7 : Addr} {od7 an7 : Option Addr} {sl7 : Array (Option Value)} {oc7 kV7 dc7 pm7 cd7 ct7 : Value}
    (a7 : PySem.W.nsIn K mainGlobals "times" = some (some (.ref f7))) (l7 : K.lookup f7 = some ⟨oc7, od7, .func (PySem.W.fnOf "times" "times" (defArgs s_times) (defBody s_times) (defScope s_times) .none kV7 dc7 pm7 an7 cd7 ct7), sl7⟩) (c7 : PySem.W.codeIn K cd7 "times" = true) (k7 : PySem.W.keepIn K (.ref f7) = true)
    {f8 : Addr} {od8 an8 : Option Addr} {sl8 : Array (Option Value)} {oc8 kV8 dc8 pm8 cd8 ct8 : Value}
    (a8 : PySem.W.nsIn K mainGlobals "over" = some (some (.ref f8))) (l8 : K.lookup f8 = some ⟨oc8, od8, .func (PySem.W.fnOf "over" "over" (defArgs s_over) (defBody s_over) (defScope s_over) .none kV8 dc8 pm8 an8 cd8 ct8), sl8⟩) (c8 : PySem.W.codeIn K cd8 "over" = true) (k8 : PySem.W.keepIn K (.ref f8) = true)
    {f9 : Addr} {od9 an9 : Option Addr} {sl9 : Array (Option Value)} {oc9 kV9 dc9 pm9 cd9 ct9 : Value}
    (a9 : PySem.W.nsIn K mainGlobals "compare" = some (some (.ref f9))) (l9 : K.lookup f9 = some ⟨oc9, od9, .func (PySem.W.fnOf "compare" "compare" (defArgs s_compare) (defBody s_compare) (defScope s_compare) .none kV9 dc9 pm9 an9 cd9 ct9), sl9⟩) (c9 : PySem.W.codeIn K cd9 "compare" = true) (k9 : PySem.W.keepIn K (.ref f9) = true)
    {f10 : Addr} {od10 an10 : Option Addr} {sl10 : Array (Option Value)} {oc10 kV10 dc10 pm10 cd10 ct10 : Value}
    (a10 : PySem.W.nsIn K mainGlobals "root_of" = some (some (.ref f10))) (l10 : K.lookup f10 = some ⟨oc10, od10, .func (PySem.W.fnOf "root_of" "root_of" (defArgs s_root_of) (defBody s_root_of) (defScope s_root_of) .none kV10 dc10 pm10 an10 cd10 ct10), sl10⟩) (c10 : PySem.W.codeIn K cd10 "root_of" = true) (k10 : PySem.W.keepIn K (.ref f10) = true)
    {f11 : Addr} {od11 an11 : Option Addr} {sl11 : Array (Option Value)} {oc11 kV11 dc11 pm11 cd11 ct11 : Value}
    (a11 : PySem.W.nsIn K mainGlobals "ratio_text" = some (some (.ref f11))) (l11 : K.lookup f11 = some ⟨oc11, od11, .func (PySem.W.fnOf "ratio_text" "ratio_text" (defArgs s_ratio_text) (defBody s_ratio_text) (defScope s_ratio_text) .none kV11 dc11 pm11 an11 cd11 ct11), sl11⟩) (c11 : PySem.W.codeIn K cd11 "ratio_text" = true) (k11 : PySem.W.keepIn K (.ref f11) = true)
    {f12 : Addr} {od12 an12 : Option Addr} {sl12 : Array (Option Value)} {oc12 kV12 dc12 pm12 cd12 ct12 : Value}
    (a12 : PySem.W.nsIn K mainGlobals "_law_dice" = some (some (.ref f12))) (l12 : K.lookup f12 = some ⟨oc12, od12, .func (PySem.W.fnOf "_law_dice" "_law_dice" (defArgs s_law_dice) (defBody s_law_dice) (defScope s_law_dice) .none kV12 dc12 pm12 an12 cd12 ct12), sl12⟩) (c12 : PySem.W.codeIn K cd12 "_law_dice" = true) (k12 : PySem.W.keepIn K (.ref f12) = true)
    {f13 : Addr} {od13 an13 : Option Addr} {sl13 : Array (Option Value)} {oc13 kV13 dc13 pm13 cd13 ct13 : Value}
    (a13 : PySem.W.nsIn K mainGlobals "_law_roll" = some (some (.ref f13))) (l13 : K.lookup f13 = some ⟨oc13, od13, .func (PySem.W.fnOf "_law_roll" "_law_roll" (defArgs s_law_roll) (defBody s_law_roll) (defScope s_law_roll) .none kV13 dc13 pm13 an13 cd13 ct13), sl13⟩) (c13 : PySem.W.codeIn K cd13 "_law_roll" = true) (k13 : PySem.W.keepIn K (.ref f13) = true)
    {f14 : Addr} {od14 an14 : Option Addr} {sl14 : Array (Option Value)} {oc14 kV14 dc14 pm14 cd14 ct14 : Value}
    (a14 : PySem.W.nsIn K mainGlobals "_law_pick" = some (some (.ref f14))) (l14 : K.lookup f14 = some ⟨oc14, od14, .func (PySem.W.fnOf "_law_pick" "_law_pick" (defArgs s_law_pick) (defBody s_law_pick) (defScope s_law_pick) .none kV14 dc14 pm14 an14 cd14 ct14), sl14⟩) (c14 : PySem.W.codeIn K cd14 "_law_pick" = true) (k14 : PySem.W.keepIn K (.ref f14) = true)
    {f15 : Addr} {od15 an15 : Option Addr} {sl15 : Array (Option Value)} {oc15 kV15 dc15 pm15 cd15 ct15 : Value}
    (a15 : PySem.W.nsIn K mainGlobals "_law_near" = some (some (.ref f15))) (l15 : K.lookup f15 = some ⟨oc15, od15, .func (PySem.W.fnOf "_law_near" "_law_near" (defArgs s_law_near) (defBody s_law_near) (defScope s_law_near) .none kV15 dc15 pm15 an15 cd15 ct15), sl15⟩) (c15 : PySem.W.codeIn K cd15 "_law_near" = true) (k15 : PySem.W.keepIn K (.ref f15) = true)
    {f16 : Addr} {od16 an16 : Option Addr} {sl16 : Array (Option Value)} {oc16 kV16 dc16 pm16 cd16 ct16 : Value}
    (a16 : PySem.W.nsIn K mainGlobals "_law_gcd" = some (some (.ref f16))) (l16 : K.lookup f16 = some ⟨oc16, od16, .func (PySem.W.fnOf "_law_gcd" "_law_gcd" (defArgs s_law_gcd) (defBody s_law_gcd) (defScope s_law_gcd) .none kV16 dc16 pm16 an16 cd16 ct16), sl16⟩) (c16 : PySem.W.codeIn K cd16 "_law_gcd" = true) (k16 : PySem.W.keepIn K (.ref f16) = true)
    {f17 : Addr} {od17 an17 : Option Addr} {sl17 : Array (Option Value)} {oc17 kV17 dc17 pm17 cd17 ct17 : Value}
    (a17 : PySem.W.nsIn K mainGlobals "_law_lowest" = some (some (.ref f17))) (l17 : K.lookup f17 = some ⟨oc17, od17, .func (PySem.W.fnOf "_law_lowest" "_law_lowest" (defArgs s_law_lowest) (defBody s_law_lowest) (defScope s_law_lowest) .none kV17 dc17 pm17 an17 cd17 ct17), sl17⟩) (c17 : PySem.W.codeIn K cd17 "_law_lowest" = true) (k17 : PySem.W.keepIn K (.ref f17) = true)
    {f18 : Addr} {od18 an18 : Option Addr} {sl18 : Array (Option Value)} {oc18 kV18 dc18 pm18 cd18 ct18 : Value}
    (a18 : PySem.W.nsIn K mainGlobals "_law_ratio_sum" = some (some (.ref f18))) (l18 : K.lookup f18 = some ⟨oc18, od18, .func (PySem.W.fnOf "_law_ratio_sum" "_law_ratio_sum" (defArgs s_law_ratio_sum) (defBody s_law_ratio_sum) (defScope s_law_ratio_sum) .none kV18 dc18 pm18 an18 cd18 ct18), sl18⟩) (c18 : PySem.W.codeIn K cd18 "_law_ratio_sum" = true) (k18 : PySem.W.keepIn K (.ref f18) = true)
    {f19 : Addr} {od19 an19 : Option Addr} {sl19 : Array (Option Value)} {oc19 kV19 dc19 pm19 cd19 ct19 : Value}
    (a19 : PySem.W.nsIn K mainGlobals "_law_ratio_product" = some (some (.ref f19))) (l19 : K.lookup f19 = some ⟨oc19, od19, .func (PySem.W.fnOf "_law_ratio_product" "_law_ratio_product" (defArgs s_law_ratio_product) (defBody s_law_ratio_product) (defScope s_law_ratio_product) .none kV19 dc19 pm19 an19 cd19 ct19), sl19⟩) (c19 : PySem.W.codeIn K cd19 "_law_ratio_product" = true) (k19 : PySem.W.keepIn K (.ref f19) = true)
    {f20 : Addr} {od20 an20 : Option Addr} {sl20 : Array (Option Value)} {oc20 kV20 dc20 pm20 cd20 ct20 : Value}
    (a20 : PySem.W.nsIn K mainGlobals "_law_some_ratio" = some (some (.ref f20))) (l20 : K.lookup f20 = some ⟨oc20, od20, .func (PySem.W.fnOf "_law_some_ratio" "_law_some_ratio" (defArgs s_law_some_ratio) (defBody s_law_some_ratio) (defScope s_law_some_ratio) .none kV20 dc20 pm20 an20 cd20 ct20), sl20⟩) (c20 : PySem.W.codeIn K cd20 "_law_some_ratio" = true) (k20 : PySem.W.keepIn K (.ref f20) = true)
    {f21 : Addr} {od21 an21 : Option Addr} {sl21 : Array (Option Value)} {oc21 kV21 dc21 pm21 cd21 ct21 : Value}
    (a21 : PySem.W.nsIn K mainGlobals "_law_int_root" = some (some (.ref f21))) (l21 : K.lookup f21 = some ⟨oc21, od21, .func (PySem.W.fnOf "_law_int_root" "_law_int_root" (defArgs s_law_int_root) (defBody s_law_int_root) (defScope s_law_int_root) .none kV21 dc21 pm21 an21 cd21 ct21), sl21⟩) (c21 : PySem.W.codeIn K cd21 "_law_int_root" = true) (k21 : PySem.W.keepIn K (.ref f21) = true)
    {f22 : Addr} {od22 an22 : Option Addr} {sl22 : Array (Option Value)} {oc22 kV22 dc22 pm22 cd22 ct22 : Value}
    (a22 : PySem.W.nsIn K mainGlobals "_law_text_of" = some (some (.ref f22))) (l22 : K.lookup f22 = some ⟨oc22, od22, .func (PySem.W.fnOf "_law_text_of" "_law_text_of" (defArgs s_law_text_of) (defBody s_law_text_of) (defScope s_law_text_of) .none kV22 dc22 pm22 an22 cd22 ct22), sl22⟩) (c22 : PySem.W.codeIn K cd22 "_law_text_of" = true) (k22 : PySem.W.keepIn K (.ref f22) = true)
    {f23 : Addr} {od23 an23 : Option Addr} {sl23 : Array (Option Value)} {oc23 kV23 dc23 pm23 cd23 ct23 : Value}
    (a23 : PySem.W.nsIn K mainGlobals "_law_root_due" = some (some (.ref f23))) (l23 : K.lookup f23 = some ⟨oc23, od23, .func (PySem.W.fnOf "_law_root_due" "_law_root_due" (defArgs s_law_root_due) (defBody s_law_root_due) (defScope s_law_root_due) .none kV23 dc23 pm23 an23 cd23 ct23), sl23⟩) (c23 : PySem.W.codeIn K cd23 "_law_root_due" = true) (k23 : PySem.W.keepIn K (.ref f23) = true)
    {f24 : Addr} {od24 an24 : Option Addr} {sl24 : Array (Option Value)} {oc24 kV24 dc24 pm24 cd24 ct24 : Value}
    (a24 : PySem.W.nsIn K mainGlobals "_law_pair_right" = some (some (.ref f24))) (l24 : K.lookup f24 = some ⟨oc24, od24, .func (PySem.W.fnOf "_law_pair_right" "_law_pair_right" (defArgs s_law_pair_right) (defBody s_law_pair_right) (defScope s_law_pair_right) .none kV24 dc24 pm24 an24 cd24 ct24), sl24⟩) (c24 : PySem.W.codeIn K cd24 "_law_pair_right" = true) (k24 : PySem.W.keepIn K (.ref f24) = true)
    {f25 : Addr} {od25 an25 : Option Addr} {sl25 : Array (Option Value)} {oc25 kV25 dc25 pm25 cd25 ct25 : Value}
    (a25 : PySem.W.nsIn K mainGlobals "_law_right" = some (some (.ref f25))) (l25 : K.lookup f25 = some ⟨oc25, od25, .func (PySem.W.fnOf "_law_right" "_law_right" (defArgs s_law_right) (defBody s_law_right) (defScope s_law_right) .none kV25 dc25 pm25 an25 cd25 ct25), sl25⟩) (c25 : PySem.W.codeIn K cd25 "_law_right" = true) (k25 : PySem.W.keepIn K (.ref f25) = true)
    {f26 : Addr} {od26 an26 : Option Addr} {sl26 : Array (Option Value)} {oc26 kV26 dc26 pm26 cd26 ct26 : Value}
    (a26 : PySem.W.nsIn K mainGlobals "law" = some (some (.ref f26))) (l26 : K.lookup f26 = some ⟨oc26, od26, .func (PySem.W.fnOf "law" "law" (defArgs s_law) (defBody s_law) (defScope s_law) .none kV26 dc26 pm26 an26 cd26 ct26), sl26⟩) (c26 : PySem.W.codeIn K cd26 "law" = true) (k26 : PySem.W.keepIn K (.ref f26) = true)
    (z0 : PySem.W.nsIn K mainGlobals "abs" = some none)
    (z1 : PySem.W.nsIn K mainGlobals "bool" = some none)
    (z2 : PySem.W.nsIn K mainGlobals "int" = some none)
    (z3 : PySem.W.nsIn K mainGlobals "isinstance" = some none)
    (z4 : PySem.W.nsIn K mainGlobals "len" = some none)
    (z5 : PySem.W.nsIn K mainGlobals "max" = some none)
    (z6 : PySem.W.nsIn K mainGlobals "min" = some none)
    (z7 : PySem.W.nsIn K mainGlobals "range" = some none)
    (z8 : PySem.W.nsIn K mainGlobals "str" = some none)
    (z9 : PySem.W.nsIn K mainGlobals "tuple" = some none)
    (i0 : PySem.W.nsIn K mainGlobals "gcd" = some (some (.builtin "math.gcd")))
    (i1 : PySem.W.nsIn K mainGlobals "isqrt" = some (some (.builtin "math.isqrt")))
    {t0 : Tok} (q0 : PySem.W.nsIn K mainGlobals "TOO_LONG" = some (some (.int 1000000000000000000000000000000000000000000000000000000000000 t0)))
    : ∃ fd : FuncData, (∀ (s : Shared) (v : Value), BindsTo s fd ⟨[v], []⟩ [("_law_script", v)]) ∧ ∀ base : Heap, K.In base → base.Ns mainGlobals mg → FnOk l.prog w K mg base CX0 7 fa fd ["_law_script"] (sp_law K) := by
  have e := hfa.symm.trans (PySem.W.mg_of X G a26)
  cases e
  have F0 := fun_mk (st := s_is_integer) l0 c0 k0
  have b0 := F0.binds (ps := p_is_integer) fun _ _ _ _ _ _ us hl => match us, hl with | [_], _ => rfl
  have F1 := fun_mk (st := s_is_ratio) l1 c1 k1
  have b1 := F1.binds (ps := p_is_ratio) fun _ _ _ _ _ _ us hl => match us, hl with | [_], _ => rfl
  have F2 := fun_mk (st := s_need_ratio) l2 c2 k2
  have b2 := F2.binds (ps := p_need_ratio) fun _ _ _ _ _ _ us hl => match us, hl with | [_], _ => rfl
  have F3 := fun_mk (st := s_reduced) l3 c3 k3
  have b3 := F3.binds (ps := p_reduced) fun _ _ _ _ _ _ us hl => match us, hl with | [_, _], _ => rfl
  have F4 := fun_mk (st := s_lowest) l4 c4 k4
  have b4 := F4.binds (ps := p_lowest) fun _ _ _ _ _ _ us hl => match us, hl with | [_, _], _ => rfl
  have F5 := fun_mk (st := s_plus) l5 c5 k5
  have b5 := F5.binds (ps := p_plus) fun _ _ _ _ _ _ us hl => match us, hl with | [_, _], _ => rfl
  have F6 := fun_mk (st := s_minus) l6 c6 k6
  have b6 := F6.binds (ps := p_minus) fun _ _ _ _ _ _ us hl => match us, hl with | [_, _], _ => rfl
  have F7 := fun_mk (st := s_times) l7 c7 k7
  have b7 := F7.binds (ps := p_times) fun _ _ _ _ _ _ us hl => match us, hl with | [_, _], _ => rfl
  have F8 := fun_mk (st := s_over) l8 c8 k8
  have b8 := F8.binds (ps := p_over) fun _ _ _ _ _ _ us hl => match us, hl with | [_, _], _ => rfl
  have F9 := fun_mk (st := s_compare) l9 c9 k9
  have b9 := F9.binds (ps := p_compare) fun _ _ _ _ _ _ us hl => match us, hl with | [_, _], _ => rfl
  have F10 := fun_mk (st := s_root_of) l10 c10 k10
  have b10 := F10.binds (ps := p_root_of) fun _ _ _ _ _ _ us hl => match us, hl with | [_], _ => rfl
  have F11 := fun_mk (st := s_ratio_text) l11 c11 k11
  have b11 := F11.binds (ps := p_ratio_text) fun _ _ _ _ _ _ us hl => match us, hl with | [_], _ => rfl
  have F12 := fun_mk (st := s_law_dice) l12 c12 k12
  have b12 := F12.binds (ps := p_law_dice) fun _ _ _ _ _ _ us hl => match us, hl with | [_, _], _ => rfl
  have F13 := fun_mk (st := s_law_roll) l13 c13 k13
  have b13 := F13.binds (ps := p_law_roll) fun _ _ _ _ _ _ us hl => match us, hl with | [_, _], _ => rfl
  have F14 := fun_mk (st := s_law_pick) l14 c14 k14
  have b14 := F14.binds (ps := p_law_pick) fun _ _ _ _ _ _ us hl => match us, hl with | [_, _], _ => rfl
  have F15 := fun_mk (st := s_law_near) l15 c15 k15
  have b15 := F15.binds (ps := p_law_near) fun _ _ _ _ _ _ us hl => match us, hl with | [_, _], _ => rfl
  have F16 := fun_mk (st := s_law_gcd) l16 c16 k16
  have b16 := F16.binds (ps := p_law_gcd) fun _ _ _ _ _ _ us hl => match us, hl with | [_, _], _ => rfl
  have F17 := fun_mk (st := s_law_lowest) l17 c17 k17
  have b17 := F17.binds (ps := p_law_lowest) fun _ _ _ _ _ _ us hl => match us, hl with | [_, _], _ => rfl
  have F18 := fun_mk (st := s_law_ratio_sum) l18 c18 k18
  have b18 := F18.binds (ps := p_law_ratio_sum) fun _ _ _ _ _ _ us hl => match us, hl with | [_, _], _ => rfl
  have F19 := fun_mk (st := s_law_ratio_product) l19 c19 k19
  have b19 := F19.binds (ps := p_law_ratio_product) fun _ _ _ _ _ _ us hl => match us, hl with | [_, _], _ => rfl
  have F20 := fun_mk (st := s_law_some_ratio) l20 c20 k20
  have b20 := F20.binds (ps := p_law_some_ratio) fun _ _ _ _ _ _ us hl => match us, hl with | [_, _], _ => rfl
  have F21 := fun_mk (st := s_law_int_root) l21 c21 k21
  have b21 := F21.binds (ps := p_law_int_root) fun _ _ _ _ _ _ us hl => match us, hl with | [_], _ => rfl
  have F22 := fun_mk (st := s_law_text_of) l22 c22 k22
  have b22 := F22.binds (ps := p_law_text_of) fun _ _ _ _ _ _ us hl => match us, hl with | [_], _ => rfl
  have F23 := fun_mk (st := s_law_root_due) l23 c23 k23
  have b23 := F23.binds (ps := p_law_root_due) fun _ _ _ _ _ _ us hl => match us, hl with | [_], _ => rfl
  have F24 := fun_mk (st := s_law_pair_right) l24 c24 k24
  have b24 := F24.binds (ps := p_law_pair_right) fun _ _ _ _ _ _ us hl => match us, hl with | [_, _, _], _ => rfl
  have F25 := fun_mk (st := s_law_right) l25 c25 k25
  have b25 := F25.binds (ps := p_law_right) fun _ _ _ _ _ _ us hl => match us, hl with | [_], _ => rfl
  have F26 := fun_mk (st := s_law) l26 c26 k26
  have b26 := F26.binds (ps := p_law) fun _ _ _ _ _ _ us hl => match us, hl with | [_], _ => rfl
  let T : Tx K mg := ⟨_, _, F0, b0, PySem.W.mg_of X G a0, _, _, F1, b1, PySem.W.mg_of X G a1, _, _, F2, b2, PySem.W.mg_of X G a2, _, _, F3, b3, PySem.W.mg_of X G a3, _, _, F4, b4, PySem.W.mg_of X G a4, _, _, F5, b5, PySem.W.mg_of X G a5, _, _, F6, b6, PySem.W.mg_of X G a6, _, _, F7, b7, PySem.W.mg_of X G a7, _, _, F8, b8, PySem.W.mg_of X G a8, _, _, F9, b9, PySem.W.mg_of X G a9, _, _, F10, b10, PySem.W.mg_of X G a10, _, _, F11, b11, PySem.W.mg_of X G a11, _, _, F12, b12, PySem.W.mg_of X G a12, _, _, F13, b13, PySem.W.mg_of X G a13, _, _, F14, b14, PySem.W.mg_of X G a14, _, _, F15, b15, PySem.W.mg_of X G a15, _, _, F16, b16, PySem.W.mg_of X G a16, _, _, F17, b17, PySem.W.mg_of X G a17, _, _, F18, b18, PySem.W.mg_of X G a18, _, _, F19, b19, PySem.W.mg_of X G a19, _, _, F20, b20, PySem.W.mg_of X G a20, _, _, F21, b21, PySem.W.mg_of X G a21, _, _, F22, b22, PySem.W.mg_of X G a22, _, _, F23, b23, PySem.W.mg_of X G a23, _, _, F24, b24, PySem.W.mg_of X G a24, _, _, F25, b25, PySem.W.mg_of X G a25, _, _, F26, b26, PySem.W.mg_of X G a26, PySem.W.mg_none_of X G z0, PySem.W.mg_none_of X G z1, PySem.W.mg_none_of X G z2, PySem.W.mg_none_of X G z3, PySem.W.mg_none_of X G z4, PySem.W.mg_none_of X G z5, PySem.W.mg_none_of X G z6, PySem.W.mg_none_of X G z7, PySem.W.mg_none_of X G z8, PySem.W.mg_none_of X G z9, PySem.W.mg_of X G i0, PySem.W.mg_of X G i1, _, PySem.W.mg_of X G q0⟩
  exact ⟨_, fun s v => .of_eq rfl, fun base _ _ => ok_law T⟩
end My
open PySem PySem.W PyProof.Rows
set_option maxHeartbeats 0 in
theorem PySem.Challenge.cw_sourceforms_k00_whole_ratios_holds : PySem.Challenge.rw_sourceforms_k00_whole_ratios.Holds := by
  w_on; o_law; k_head; (case hw => w_witness2)
  k_fill
  refine L2.walk_of (l := PySem.Challenge.rw_sourceforms_k00_whole_ratios) (n := 63) (k := 7) (x := "_law_script") (CX := fun _ => L2.CX0) (sp := fun w => My.sp_law _) rfl (by decide) rfl ⟨rfl, by decide, by decide⟩ (fun w h Y => PySem.W.kIn_of Y) ?F (fun _ _ a ns hl _ hS => ⟨a, ns, rfl, hS, hl, fun _ => rfl⟩) (fun _ _ _ _ _ h => h)
  case F =>
    intro w mg fa h KX G hmg
    refine' My.all_mk KX G hmg ?a0 ?l0 ?c0 ?k0 ?a1 ?l1 ?c1 ?k1 ?a2 ?l2 ?c2 ?k2 ?a3 ?l3 ?c3 ?k3 ?a4 ?l4 ?c4 ?k4 ?a5 ?l5 ?c5 ?k5 ?a6 ?l6 ?c6 ?k6 ?a7 ?l7 ?c7 ?k7 ?a8 ?l8 ?c8 ?k8 ?a9 ?l9 ?c9 ?k9 ?a10 ?l10 ?c10 ?k10 ?a11 ?l11 ?c11 ?k11 ?a12 ?l12 ?c12 ?k12 ?a13 ?l13 ?c13 ?k13 ?a14 ?l14 ?c14 ?k14 ?a15 ?l15 ?c15 ?k15 ?a16 ?l16 ?c16 ?k16 ?a17 ?l17 ?c17 ?k17 ?a18 ?l18 ?c18 ?k18 ?a19 ?l19 ?c19 ?k19 ?a20 ?l20 ?c20 ?k20 ?a21 ?l21 ?c21 ?k21 ?a22 ?l22 ?c22 ?k22 ?a23 ?l23 ?c23 ?k23 ?a24 ?l24 ?c24 ?k24 ?a25 ?l25 ?c25 ?k25 ?a26 ?l26 ?c26 ?k26 ?z0 ?z1 ?z2 ?z3 ?z4 ?z5 ?z6 ?z7 ?z8 ?z9 ?i0 ?i1 ?q0
    (case a0 => k_is)
    (case l0 => k_is)
    (case c0 => k_is)
    (case k0 => k_is)
    (case a1 => k_is)
    (case l1 => k_is)
    (case c1 => k_is)
    (case k1 => k_is)
    (case a2 => k_is)
    (case l2 => k_is)
    (case c2 => k_is)
    (case k2 => k_is)
    (case a3 => k_is)
    (case l3 => k_is)
    (case c3 => k_is)
    (case k3 => k_is)
    (case a4 => k_is)
    (case l4 => k_is)
    (case c4 => k_is)
    (case k4 => k_is)
    (case a5 => k_is)
    (case l5 => k_is)
    (case c5 => k_is)
    (case k5 => k_is)
    (case a6 => k_is)
    (case l6 => k_is)
    (case c6 => k_is)
    (case k6 => k_is)
    (case a7 => k_is)
    (case l7 => k_is)
    (case c7 => k_is)
    (case k7 => k_is)
    (case a8 => k_is)
    (case l8 => k_is)
    (case c8 => k_is)
    (case k8 => k_is)
    (case a9 => k_is)
    (case l9 => k_is)
    (case c9 => k_is)
    (case k9 => k_is)
    (case a10 => k_is)
    (case l10 => k_is)
    (case c10 => k_is)
    (case k10 => k_is)
    (case a11 => k_is)
    (case l11 => k_is)
    (case c11 => k_is)
    (case k11 => k_is)
    (case a12 => k_is)
    (case l12 => k_is)
    (case c12 => k_is)
    (case k12 => k_is)
    (case a13 => k_is)
    (case l13 => k_is)
    (case c13 => k_is)
    (case k13 => k_is)
    (case a14 => k_is)
    (case l14 => k_is)
    (case c14 => k_is)
    (case k14 => k_is)
    (case a15 => k_is)
    (case l15 => k_is)
    (case c15 => k_is)
    (case k15 => k_is)
    (case a16 => k_is)
    (case l16 => k_is)
    (case c16 => k_is)
    (case k16 => k_is)
    (case a17 => k_is)
    (case l17 => k_is)
    (case c17 => k_is)
    (case k17 => k_is)
    (case a18 => k_is)
    (case l18 => k_is)
    (case c18 => k_is)
    (case k18 => k_is)
    (case a19 => k_is)
    (case l19 => k_is)
    (case c19 => k_is)
    (case k19 => k_is)
    (case a20 => k_is)
    (case l20 => k_is)
    (case c20 => k_is)
    (case k20 => k_is)
    (case a21 => k_is)
    (case l21 => k_is)
    (case c21 => k_is)
    (case k21 => k_is)
    (case a22 => k_is)
    (case l22 => k_is)
    (case c22 => k_is)
    (case k22 => k_is)
    (case a23 => k_is)
    (case l23 => k_is)
    (case c23 => k_is)
    (case k23 => k_is)
    (case a24 => k_is)
    (case l24 => k_is)
    (case c24 => k_is)
    (case k24 => k_is)
    (case a25 => k_is)
    (case l25 => k_is)
    (case c25 => k_is)
    (case k25 => k_is)
    (case a26 => k_is)
    (case l26 => k_is)
    (case c26 => k_is)
    (case k26 => k_is)
    (case z0 => k_is)
    (case z1 => k_is)
    (case z2 => k_is)
    (case z3 => k_is)
    (case z4 => k_is)
    (case z5 => k_is)
    (case z6 => k_is)
    (case z7 => k_is)
    (case z8 => k_is)
    (case z9 => k_is)
    (case i0 => k_is)
    (case i1 => k_is)
    (case q0 => k_is)

