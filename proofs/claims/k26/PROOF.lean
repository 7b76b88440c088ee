import PyProof.Rows.All
import Wide.All
import OpenK.AllK
import Wide.FinOn
import HandS.ForMost
import HandS.Wide
import HandS.IsInst
import HandS.Zip
import HandS.Style
import HandS.Gcd
import HandS.FStr
import HandS.Evl
import KE.GoesEnum
import HandS.WideBits
import KE.KMathGC
import PySem.Challenge.RW_sourceforms_k26_whole_counts_of_boxes
set_option Elab.async false
set_option linter.all false
set_option maxRecDepth 100000
set_option maxHeartbeats 4000000
/-! rules by values whose readings are settled by what the heap holds -/
namespace Pr
open PySem PySem.Spec PyProof.Rows L2

/-! ### weaker readings -/
section
variable {X : Cx}
theorem opImp {f : Value → Value → Sem Value} {r r' : R2} (h : OpR X f r) (i : ∀ x y H Q, r' x y H Q → r x y H Q) : OpR X f r' :=
  fun pins s σ H x y v u Q I rx ry q => h pins s σ H x y v u Q I rx ry (i _ _ _ _ q)
theorem callImp {f : Value} {r r' : List V → Hp → VK → Prop} (h : CallR X f r) (i : ∀ vs H Q, r' vs H Q → r vs H Q) : CallR X f r' :=
  fun pins s σ H xs us Q I rx q => h pins s σ H xs us Q I rx (i _ _ _ q)
theorem ixImp {r r' : R2} (h : IxR X r) (i : ∀ x y H Q, r' x y H Q → r x y H Q) : IxR X r' :=
  fun va sl pins s σ H x y v u Q I rx ry q e => h va sl pins s σ H x y v u Q I rx ry (i _ _ _ _ q) e
theorem mtImp {id : String} {r r' : V → List V → Hp → VK → Prop} (h : MtM X id r) (i : ∀ x vs H Q, r' x vs H Q → r x vs H Q) : MtM X id r' :=
  fun pins s σ H x xs v us Q I rx rs q => h pins s σ H x xs v us Q I rx rs (i _ _ _ _ q)
theorem setImp {r r' : TSet} (h : PSet X r) (i : ∀ o j v H Q, r' o j v H Q → r o j v H Q) : PSet X r' :=
  fun pins s σ H o j v ov iv u Q I ro ri rv q => h pins s σ H o j v ov iv u Q I ro ri rv (i _ _ _ _ _ q)
end

/-! ### lists and tuples of ints -/
abbrev LI (ns : List Int) : HO := .lst (ns.map V.int)
abbrev TI (ns : List Int) : HO := .tup (ns.map V.int)
theorem map_int_inj {xs ys : List Int} : xs.map V.int = ys.map V.int ↔ xs = ys := by
  constructor
  · intro h
    exact (List.map_inj_right (fun a b e => V.int.inj e)).mp h
  · rintro rfl
    rfl
theorem map_nil_iff {xs : List Int} : ([] : List V) = xs.map V.int ↔ xs = [] := by
  cases xs <;> simp
/-- the item at an int's place -/
def gi (ns : List Int) (i : Int) : Int := ns.getD i.toNat 0
theorem gi_nat (ns : List Int) (i : Nat) : gi ns (i : Int) = ns.getD i 0 := by
  unfold gi
  rw [Int.toNat_natCast]
theorem at_gi {ns : List Int} {i : Int} (h0 : 0 ≤ i) (h1 : i < ns.length) : atI (ns.map V.int) i = some (.int (gi ns i)) := by
  obtain ⟨n, rfl⟩ := Int.eq_ofNat_of_zero_le h0
  have hn : n < ns.length := by omega
  rw [gi_nat]
  refine atI_nat (j := n) ?_
  rw [List.getElem?_map, List.getElem?_eq_getElem hn, List.getD_eq_getElem?_getD, List.getElem?_eq_getElem hn]
  rfl
theorem at_raw {xs : List V} {i : Int} (h0 : 0 ≤ i) (h1 : i < xs.length) : atI xs i = some (xs.getD i.toNat .non) := by
  obtain ⟨n, rfl⟩ := Int.eq_ofNat_of_zero_le h0
  have hn : n < xs.length := by omega
  refine atI_nat (j := n) ?_
  rw [Int.toNat_natCast, List.getElem?_eq_getElem hn, List.getD_eq_getElem?_getD, List.getElem?_eq_getElem hn]
  rfl
theorem atI_neg {xs : List V} {i : Int} (h0 : i < 0) (h1 : -(xs.length : Int) ≤ i) : atI xs i = some (xs.getD (i + xs.length).toNat .non) := by
  unfold atI ixN
  rw [if_neg (by omega), if_pos h1]
  show xs[(i + (xs.length : Int)).toNat]? = _
  rw [List.getElem?_eq_getElem (by omega), List.getD_eq_getElem?_getD, List.getElem?_eq_getElem (by omega)]
  rfl

section
variable {X : Cx}
/-- xs[i], xs a list of ints, the place from the left -/
def rIxLI : R2 := fun x y H Q => ∃ p i, x = .ref p ∧ y = .int i ∧ ∃ ns, H p = some (LI ns) ∧ 0 ≤ i ∧ i < (ns.length : Int) ∧ Q (.int (gi ns i)) H
theorem ix_LI : IxR X rIxLI := ixImp ix_list fun x y H Q ⟨p, i, ex, ey, ns, hp, h0, h1, q⟩ =>
  ⟨p, _, i, _, ex, ey, .inl (.inl hp), at_gi h0 h1, q⟩
def rIxTI : R2 := fun x y H Q => ∃ p i, x = .ref p ∧ y = .int i ∧ ∃ ns, H p = some (TI ns) ∧ 0 ≤ i ∧ i < (ns.length : Int) ∧ Q (.int (gi ns i)) H
theorem ix_TI : IxR X rIxTI := ixImp ix_tup fun x y H Q ⟨p, i, ex, ey, ns, hp, h0, h1, q⟩ =>
  ⟨p, _, i, _, ex, ey, .inl (.inl hp), at_gi h0 h1, q⟩
/-- xs[i], xs a list or tuple of any things -/
def rIxLV : R2 := fun x y H Q => ∃ p i, x = .ref p ∧ y = .int i ∧ ∃ xs, H p = some (.lst xs) ∧ ∃ v, atI xs i = some v ∧ Q v H
theorem ix_LV : IxR X rIxLV := ixImp ix_list fun x y H Q ⟨p, i, ex, ey, xs, hp, v, hv, q⟩ => ⟨p, xs, i, v, ex, ey, .inl (.inl hp), hv, q⟩
def rIxTV : R2 := fun x y H Q => ∃ p i, x = .ref p ∧ y = .int i ∧ ∃ xs, H p = some (.tup xs) ∧ ∃ v, atI xs i = some v ∧ Q v H
theorem ix_TV : IxR X rIxTV := ixImp ix_tup fun x y H Q ⟨p, i, ex, ey, xs, hp, v, hv, q⟩ => ⟨p, xs, i, v, ex, ey, .inl (.inl hp), hv, q⟩
def rLen : List V → Hp → VK → Prop := fun vs H Q => ∃ p, vs = [.ref p] ∧ ∃ xs, (H p = some (.lst xs) ∨ H p = some (.tup xs)) ∧ Q (.int (xs.length : Nat)) H
theorem cr_len : CallR X (.builtin "len") rLen := callImp call_len_seq fun vs H Q ⟨p, e, xs, h, q⟩ =>
  ⟨p, xs, e, h.elim (fun h => .inl (.inl (.inl h))) (fun h => .inr (.inl (.inl h))), q⟩
theorem ixN_of {n : Nat} {i : Int} (h0 : 0 ≤ i) (h1 : i < n) : ixN n i = some i.toNat := by
  unfold ixN
  rw [if_pos h0, if_pos h1]
def rSetLI : TSet := fun o j v H Q => ∃ p i n, o = .ref p ∧ j = .int i ∧ v = .int n ∧ ∃ ns, H p = some (LI ns) ∧ 0 ≤ i ∧ i < (ns.length : Int) ∧ Q (upd H p (LI (ns.set i.toNat n)))
theorem set_LI : PSet X rSetLI := setImp set_list fun o j v H Q ⟨p, i, n, eo, ej, ev, ns, hp, h0, h1, q⟩ => by
  subst ev
  refine ⟨p, _, i, i.toNat, eo, ej, hp, ?_, ?_⟩
  · rw [List.length_map]
    exact ixN_of h0 h1
  · rw [← List.map_set]
    exact q
def rSetLV : TSet := fun o j v H Q => ∃ p i, o = .ref p ∧ j = .int i ∧ ∃ xs, H p = some (.lst xs) ∧ 0 ≤ i ∧ i < (xs.length : Int) ∧ Q (upd H p (.lst (xs.set i.toNat v)))
theorem set_LV : PSet X rSetLV := setImp set_list fun o j v H Q ⟨p, i, eo, ej, xs, hp, h0, h1, q⟩ =>
  ⟨p, xs, i, i.toNat, eo, ej, hp, ixN_of h0 h1, q⟩
theorem sz {n : Nat} (h : n < 1000000) : n < sizeLine := Nat.lt_of_lt_of_le h (by decide)
def rAppI : V → List V → Hp → VK → Prop := fun x vs H Q => ∃ l n, x = .ref l ∧ vs = [.int n] ∧ ∃ ns, H l = some (LI ns) ∧ ns.length < 1000000 ∧ Q .non (upd H l (LI (ns ++ [n])))
theorem mt_appI : MtM X "list.append" rAppI := mtImp mt_append fun x vs H Q ⟨l, n, ex, ev, ns, hl, hz, q⟩ => by
  refine ⟨l, ns.map V.int, .int n, ex, ev, hl, sz (by rw [List.length_map]; exact hz), ?_⟩
  rw [← List.map_singleton (f := V.int), ← List.map_append]
  exact q
def rAppV : V → List V → Hp → VK → Prop := fun x vs H Q => ∃ l v, x = .ref l ∧ vs = [v] ∧ ∃ xs, H l = some (.lst xs) ∧ xs.length < 1000000 ∧ Q .non (upd H l (.lst (xs ++ [v])))
theorem mt_appV : MtM X "list.append" rAppV := mtImp mt_append fun x vs H Q ⟨l, n, ex, ev, ns, hl, hz, q⟩ => ⟨l, ns, n, ex, ev, hl, sz hz, q⟩
def rTupL : List V → Hp → VK → Prop := fun vs H Q => ∃ p, vs = [.ref p] ∧ ∃ xs, H p = some (.lst xs) ∧ ∀ l, H l = none → Q (.ref l) (upd H l (.tup xs))
theorem cr_tupL : CallR X (.type "tuple") rTupL := callImp call_tuple_of fun vs H Q ⟨p, e, xs, h, q⟩ => ⟨p, xs, e, .inl ⟨.inl (.inl h), q⟩⟩
def rListS : List V → Hp → VK → Prop := fun vs H Q => ∃ p, vs = [.ref p] ∧ ∃ xs, (H p = some (.lst xs) ∨ H p = some (.tup xs)) ∧ ∀ l, H l = none → Q (.ref l) (upd H l (.lst xs))
theorem cr_listS : CallR X (.type "list") rListS := callImp call_list_of fun vs H Q ⟨p, e, xs, h, q⟩ => ⟨p, xs, e, h.elim (fun h => .inl (.inl (.inl h))) (fun h => .inr (.inl (.inl h))), q⟩
def rSumLI : List V → Hp → VK → Prop := fun vs H Q => ∃ p, vs = [.ref p] ∧ ∃ ns, H p = some (LI ns) ∧ Q (.int ns.sum) H
theorem cr_sumLI (hc : X.calm = true) : CallR X (.builtin "sum") rSumLI := callImp (cr_sum hc) fun vs H Q ⟨p, e, ns, h, q⟩ => ⟨p, ns, e, .inl (.inl h), q⟩
/-- xs * k of a new list -/
def rRepLI : R2 := fun x y H Q => ∃ l k, x = .ref l ∧ y = .int k ∧ ∃ n, H l = some (LI [n]) ∧ k < 1000000 ∧ -1000000 < k ∧ ∀ p, H p = none → Q (.ref p) (upd H p (LI (List.replicate k.toNat n)))
theorem flat_rep (k : Nat) (n : Int) : (List.replicate k [V.int n]).flatten = (List.replicate k n).map V.int := by
  induction k with
  | zero => rfl
  | succ k ih =>
    rw [List.replicate_succ, List.flatten_cons, ih, List.replicate_succ]
    rfl
theorem op_repLI : OpR X (binaryOp .Mult) rRepLI := opImp op_rep fun x y H Q ⟨l, k, ex, ey, n, hl, h0, h1, q⟩ => by
  refine ⟨l, k, [V.int n], ex, ey, hl, by omega, by omega, ?_, fun p hp => ?_⟩
  · show 1 * k.toNat ≤ sizeLine
    rw [Nat.one_mul]
    exact Nat.le_of_lt (sz (by omega))
  · rw [flat_rep]
    exact q p hp
/-- int(n) -/
def rIntI : List V → Hp → VK → Prop := fun vs H Q => ∃ i, vs = [.int i] ∧ Q (.int i) H
theorem cr_intI : CallR X (.type "int") rIntI := callImp call_int1 fun vs H Q ⟨i, e, q⟩ => .inl ⟨i, e, q⟩
def rIntB : List V → Hp → VK → Prop := fun vs H Q => ∃ k, vs = [.bl k] ∧ Q (.int (if k then 1 else 0)) H
theorem cr_intB : CallR X (.type "int") rIntB := callImp call_int1 fun vs H Q ⟨i, e, q⟩ => .inr ⟨i, e, q⟩
/-- isinstance(x, T) by what x is, T a builtin class -/
def tyOf : V → Hp → Option String
  | .non, _ => some "NoneType"
  | .bl _, _ => some "bool"
  | .int _, _ => some "int"
  | .str _, _ => some "str"
  | .ref a, H => match H a with
    | some (.lst _) => some "list"
    | some (.tup _) => some "tuple"
    | some (.dK _) => some "dict"
    | some (.dT _) => some "dict"
    | _ => none
  | _, _ => none
end
end Pr

namespace Pr
open PySem PySem.Spec PyProof.Rows L2

/-! ### == of lists and tuples of ints -/
theorem dpAll_ints (K : PySem.W.Frag) (H : Hp) : ∀ ns : List Int, DpAll K H (ns.map V.int) (ns.map PyData.int)
  | [] => .nil
  | n :: ns => .cons (.int n) (dpAll_ints K H ns)
theorem eqvAll_ints : ∀ ns ms : List Int, PyData.eqvAll (ns.map .int) (ms.map .int) = decide (ns = ms)
  | [], [] => rfl
  | [], m :: ms => by simp [PyData.eqvAll]
  | n :: ns, [] => by simp [PyData.eqvAll]
  | n :: ns, m :: ms => by
    show (PyData.eqv (.int n) (.int m) && PyData.eqvAll (ns.map .int) (ms.map .int)) = decide (n :: ns = m :: ms)
    rw [eqvAll_ints ns ms]
    simp [PyData.eqv, ]
    by_cases h : n = m <;> simp [h]
theorem lay_ints : ∀ ns : List Int, PyData.canLayAll0 (ns.map .int) = true
  | [] => rfl
  | n :: ns => by
    show (PyData.canLay0 (.int n) && PyData.canLayAll0 (ns.map .int)) = true
    rw [lay_ints ns]
    rfl
theorem depth_ints : ∀ ns : List Int, PyData.depthAll (ns.map .int) = 0
  | [] => rfl
  | n :: ns => by
    show max (PyData.depth (.int n)) (PyData.depthAll (ns.map .int)) = 0
    rw [depth_ints ns]
    rfl
theorem shaped_TI (ns : List Int) : SeqAt.shaped (.tuple (ns.map .int)) = true := by
  unfold SeqAt.shaped
  simp [PyData.canLay0, PyData.depth, lay_ints, depth_ints]
theorem shaped_LI (ns : List Int) : SeqAt.shaped (.list (ns.map .int)) = true := by
  unfold SeqAt.shaped
  simp [PyData.canLay0, PyData.depth, lay_ints, depth_ints]
section
variable {X : Cx}
def rEqTI : R2 := fun x y H Q => ∃ p q, x = .ref p ∧ y = .ref q ∧ ∃ ns, H p = some (TI ns) ∧ ∃ ms, H q = some (TI ms) ∧ Q (.bl (decide (ns = ms))) H
theorem op_eqTI (hu : X.A.units + 64 < cLine) : OpR X (compareOp .Eq) rEqTI := opImp (op_eqD hu) fun x y H Q ⟨p, q, ex, ey, ns, hp, ms, hq, k⟩ => by
  subst ex ey
  refine ⟨_, _, .tup (.inl (.inl hp)) (dpAll_ints _ _ ns), .tup (.inl (.inl hq)) (dpAll_ints _ _ ms), shaped_TI ns, shaped_TI ms, ?_⟩
  show Q (.bl (PyData.eqvAll (ns.map .int) (ms.map .int))) H
  rw [eqvAll_ints]
  exact k
def rNeTI : R2 := fun x y H Q => ∃ p q, x = .ref p ∧ y = .ref q ∧ ∃ ns, H p = some (TI ns) ∧ ∃ ms, H q = some (TI ms) ∧ Q (.bl (!decide (ns = ms))) H
theorem op_neTI (hu : X.A.units + 64 < cLine) : OpR X (compareOp .NotEq) rNeTI := opImp (op_neD hu) fun x y H Q ⟨p, q, ex, ey, ns, hp, ms, hq, k⟩ => by
  subst ex ey
  refine ⟨_, _, .tup (.inl (.inl hp)) (dpAll_ints _ _ ns), .tup (.inl (.inl hq)) (dpAll_ints _ _ ms), shaped_TI ns, shaped_TI ms, ?_⟩
  show Q (.bl (!PyData.eqvAll (ns.map .int) (ms.map .int))) H
  rw [eqvAll_ints]
  exact k
def rEqLI : R2 := fun x y H Q => ∃ p q, x = .ref p ∧ y = .ref q ∧ ∃ ns, H p = some (LI ns) ∧ ∃ ms, H q = some (LI ms) ∧ Q (.bl (decide (ns = ms))) H
theorem op_eqLI (hu : X.A.units + 64 < cLine) : OpR X (compareOp .Eq) rEqLI := opImp (op_eqD hu) fun x y H Q ⟨p, q, ex, ey, ns, hp, ms, hq, k⟩ => by
  subst ex ey
  refine ⟨_, _, .lst (.inl (.inl hp)) (dpAll_ints _ _ ns), .lst (.inl (.inl hq)) (dpAll_ints _ _ ms), shaped_LI ns, shaped_LI ms, ?_⟩
  show Q (.bl (PyData.eqvAll (ns.map .int) (ms.map .int))) H
  rw [eqvAll_ints]
  exact k
def rNeLI : R2 := fun x y H Q => ∃ p q, x = .ref p ∧ y = .ref q ∧ ∃ ns, H p = some (LI ns) ∧ ∃ ms, H q = some (LI ms) ∧ Q (.bl (!decide (ns = ms))) H
theorem op_neLI (hu : X.A.units + 64 < cLine) : OpR X (compareOp .NotEq) rNeLI := opImp (op_neD hu) fun x y H Q ⟨p, q, ex, ey, ns, hp, ms, hq, k⟩ => by
  subst ex ey
  refine ⟨_, _, .lst (.inl (.inl hp)) (dpAll_ints _ _ ns), .lst (.inl (.inl hq)) (dpAll_ints _ _ ms), shaped_LI ns, shaped_LI ms, ?_⟩
  show Q (.bl (!PyData.eqvAll (ns.map .int) (ms.map .int))) H
  rw [eqvAll_ints]
  exact k
/-- isinstance of what is no object -/
def rIsiS : List V → Hp → VK → Prop := fun vs H Q => ∃ x T, vs = [x, .ty T] ∧ ∃ t, tyOf x H = some t ∧ ∃ b, kitB t T = some b ∧ Q (.bl b) H
theorem cr_isiS : CallR X (.builtin "isinstance") rIsiS := callImp call_isi fun vs H Q ⟨x, T, e, t, ht, b, hb, q⟩ => by
  refine ⟨x, .ty T, .type t, .type T, b, e, ?_, ?_, kit_ty hb, q⟩
  · exact .ty T
  · unfold tyOf at ht
    split at ht
    · cases ht; exact .base .non
    · cases ht; exact .base (.bl _)
    · cases ht; exact .base (.int _)
    · cases ht; exact .base (.str _)
    · split at ht <;> cases ht
      · exact .base (.lst ‹_›)
      · exact .base (.tup ‹_›)
      · exact .base (.dK ‹_›)
      · exact .base (.dT ‹_›)
    · cases ht
end

/-! ### sum of a tuple of ints -/
section
variable {prog : Program} {w : World} {A : Around} {E : Value → Shared → Prop} {s : Shared} {l : Addr} {xs : Array (Int × Tok)}
theorem sum_intTupG {Q : Value → Shared → Prop} (hh : A.handled = none) (hl : IsTup s.heap l (intItems xs))
    (h : ∀ h' tk t', (∀ b o, s.heap.get? b = some o → h'.get? b = some o) → Q (.int (preSum (numAt xs) xs.size) t') { s with heap := h', toks := tk }) :
    wpAny (model prog w) A (call (.builtin "sum") [.ref l]) Q E s := by
  have hlt : l < s.heap.objs.size := hl.lt
  refine call_sum_walkG (wpAny_pyIter_tuple hl ?_)
  refine ⟨_, [_, l], [_], _, _, _, numAt xs, rfl, Walks.tuple (A := A.in1) hh _ l (Nat.ne_of_lt hlt) (intItems xs), ⟨⟨_, Heap.get?_push_size _ rfl, rfl, rfl⟩, hl.push _⟩, fun b hb => ?_, (fun _ _ => intItems_at), fun h' tk t' hk => ?_⟩
  · show b < (s.heap.push _).objs.size
    rw [Heap.size_push]
    rcases List.mem_cons.mp hb with rfl | hb
    · exact Nat.lt_succ_self _
    · rcases List.mem_cons.mp hb with rfl | hb
      · exact Nat.lt_succ_of_lt hlt
      · cases hb
  · have := h h' tk t' (fun b o e => by
      refine hk b o (fun hm => ?_) (Heap.get?_push_of_some _ e)
      rcases List.mem_cons.mp hm with e1 | hm
      · exact absurd (e1 ▸ Heap.lt_size e) (Nat.lt_irrefl _)
      · cases hm)
    simpa [intItems] using this
end
section
variable {X : Cx}
def rSumTI : List V → Hp → VK → Prop := fun vs H Q => ∃ p, vs = [.ref p] ∧ ∃ ns, H p = some (TI ns) ∧ Q (.int ns.sum) H
theorem cr_sumTI (hc : X.calm = true) : CallR X (.builtin "sum") rSumTI := by
  intro pins s σ H vs us Q I r h
  obtain ⟨a, rfl, ns, hs, q⟩ := h
  obtain ⟨its, rv, hl, _⟩ := I.tuple (.inl (.inl hs))
  rw [Vals.ref1 r]
  obtain ⟨xs, e⟩ := rv.ints.allInts.items
  have hn : numsOf (intItems xs).toList = ns := by rw [← e]; exact rv.ints.numsOf
  rw [nums_intItems] at hn
  rw [e] at hl
  refine sum_intTupG (I.ok.hd hc) hl fun h' tk t' hk => ?_
  refine ⟨.int _, H, I.kept hk, ⟨_, rfl⟩, ?_⟩
  rw [preSum_eq, List.take_of_length_le (by simp), hn]
  exact q
end

/-! ### t[::-1] of a tuple -/
section
variable {prog : Program} {w : World} {A : Around} {E : Value → Shared → Prop} {s : Shared}
theorem rev_pick (xs : Array Value) : ((List.range xs.size).filterMap fun (m : Nat) => xs[(((xs.size : Int) - 1) + (m : Int) * (-1)).toNat]?).toArray = xs.toList.reverse.toArray := by
  congr 1
  have e : (List.range xs.size).filterMap (fun (m : Nat) => xs[(((xs.size : Int) - 1) + (m : Int) * (-1)).toNat]?) = (List.range xs.size).map fun m => xs.toList.reverse.getD m .none := by
    have h1 : ∀ m ∈ List.range xs.size, xs[(((xs.size : Int) - 1) + (m : Int) * (-1)).toNat]? = some (xs.toList.reverse.getD m .none) := fun m hm => by
      have hm := List.mem_range.mp hm
      have e1 : (((xs.size : Int) - 1) + (m : Int) * (-1)).toNat = xs.size - 1 - m := by omega
      rw [e1, List.getD_eq_getElem?_getD, List.getElem?_reverse (by simpa using hm), Array.getElem?_toList, Array.length_toList]
      rw [Array.getElem?_eq_getElem (by omega)]
      rfl
    generalize hg : (List.range xs.size) = L at h1 ⊢
    clear hg
    induction L with
    | nil => rfl
    | cons a L ih =>
      rw [List.filterMap_cons]
      simp only [h1 a List.mem_cons_self]
      rw [List.map_cons, ih fun m hm => h1 m (List.mem_cons_of_mem _ hm)]
  rw [e]
  apply List.ext_getElem
  · simp
  · intro i h1 h2
    rw [List.getElem_map, List.getElem_range, List.getD_eq_getElem?_getD, List.getElem?_eq_getElem h2]
    rfl
theorem sliceApplied_rev {sl : Addr} {n : Nat} {tk : Tok} {Q : Int × Int × Nat → Shared → Prop} (hs : s.heap.IsSliceOf sl .none .none (.int (-1) tk))
    (h : Q ((n : Int) - 1, -1, n) s) : wpAny (model prog w) A (Builtin.Slice.sliceApplied (.ref sl) (pure (n : Int))) Q E s := by
  obtain ⟨os, hos, hcs, hds⟩ := id hs
  unfold Builtin.Slice.sliceApplied Builtin.Slice.sliceFields
  refine wpAny_bind (wpAny_bind (wpAny_field hos hds (x := .none) rfl (wpAny_bind (wpAny_field hos hds (x := .none) rfl (wpAny_bind (wpAny_field hos hds (x := .int (-1) tk) rfl (wpAny_pure ?_)))))))
  refine wpAny_bind (slicePart_int ?_)
  show wpAny _ _ (if ((-1 : Int) == 0) = true then _ else _) _ _ s
  rw [if_neg (by decide)]
  refine wpAny_bind (slicePart_none (wpAny_bind (slicePart_none (wpAny_bind (wpAny_pure ?_)))))
  show wpAny _ _ (pure (((n : Int) - 1), (-1 : Int), Builtin.Slice.slicePlaces ((n : Int) - 1) (-1) (-1))) _ _ s
  have e : Builtin.Slice.slicePlaces ((n : Int) - 1) (-1) (-1) = n := by
    unfold Builtin.Slice.slicePlaces
    rw [if_neg (by omega)]
    by_cases h0 : (n : Int) - 1 > -1
    · rw [if_pos h0]
      show (((n : Int) - 1 - -1 - 1) / 1 + 1).toNat = n
      omega
    · rw [if_neg h0]
      omega
  rw [e]
  exact wpAny_pure h
theorem getItem_tuple_rev {t sl : Addr} {items : Array Value} {tk : Tok} {Q : Value → Shared → Prop} (ht : IsTup s.heap t items) (hs : s.heap.IsSliceOf sl .none .none (.int (-1) tk))
    (h : Q (.ref s.heap.objs.size) { s with heap := s.heap.push { cls := .type "tuple", data := .seq items.toList.reverse.toArray } })
    (hsz : items.size ≤ sizeLine) : wpAny (model prog w) A (getItem (.ref t) (.ref sl)) Q E s := by
  have htake : sizeOk (.seq (items.toList.reverse).toArray) := by
    show (items.toList.reverse).toArray.size ≤ sizeLine
    rw [List.size_toArray, List.length_reverse, Array.length_toList]
    omega
  obtain ⟨os, hos, hcs, hds⟩ := id hs
  have hTs : s.TypeIs (.ref sl) "slice" := ⟨os, hos, hcs⟩
  unfold getItem
  try with_reducible refine wpAny_holding ?_
  first | refine wpAny_bind (wpAny_pure ?_) | skip
  refine wpAny_bind (wpAny_sequenceKey ht.typeIs (by decide) ?_)
  refine wpAny_bind (wpAny_callSpecial?_slot (name := Str.ofString "__getitem__") ht.typeIs PyProof.Rows.slot_tuple_getitem
    (wpAny_call_entry PyProof.Rows.slot_tuple_getitem ht.typeIs PyProof.Rows.entry_tuple_getitem ?_ (PyProof.Rows.args_tuple_getitem _ _)))
  show wpAny _ _ (Builtin.Tuple.tupleItemsOf (.ref t) >>= _) _ _ s
  refine wpAny_bind (tupleItemsOf_ ht ?_)
  refine wpAny_bind (wpAny_typeOf hTs ?_)
  rw [if_pos (by decide)]
  refine wpAny_bind (sliceApplied_rev hs ?_)
  have hno : ¬ (((((items.size : Nat) : Int) - 1) == 0 && (-1 : Int) == 1 && items.size == items.size) = true) := by
    intro q
    rw [Bool.and_eq_true, Bool.and_eq_true] at q
    exact absurd q.1.2 (by decide)
  show wpAny _ _ (if ((((items.size : Nat) : Int) - 1) == 0 && (-1 : Int) == 1 && items.size == items.size) = true then _ else _) _ _ s
  rw [if_neg hno, rev_pick]
  first
    | exact wpAny_bind (m := Builtin.Tuple.tupleExact _) (wpAny_newObj_type (wpAny_pure ⟨_, rfl, wpAny_pure h⟩) htake)
    | exact wpAny_bind (m := Builtin.Tuple.tupleExact _) (wpAny_newObj_type (wpAny_bind (wpAny_pure (wpAny_pure ⟨_, rfl, wpAny_pure h⟩))) htake)
    | exact wpAny_bind (wpAny_bind (m := Builtin.Tuple.tupleExact _) (wpAny_newObj_type (wpAny_pure (wpAny_pure ⟨_, rfl, wpAny_pure h⟩)) htake))
    | exact wpAny_bind (wpAny_bind (m := Builtin.Tuple.tupleExact _) (wpAny_newObj_type (wpAny_pure ⟨_, rfl, wpAny_pure h⟩) htake))
end
section
variable {X : Cx}
def tRevT (te : TE) : TE := fun σ H Q => te σ H fun x H1 => ∃ a, x = .ref a ∧ ∃ xs, H1 a = some (.tup xs) ∧ ∀ p, H1 p = none → Q (.ref p) (upd H1 p (.tup xs.reverse))
theorem pe_revT {e : Expr} {te : TE} {k : Nat} {p1 p2 p3 pos : Pos} (he : PE X e te) : PE X (.Subscript e (.Slice none none (some (.UnaryOp .USub (.Constant (.int 1) k p1) p2)) p3) pos) (tRevT te) := by
  refine ⟨fun pins s σ H Q I h => ?_⟩
  refine Subscript_ (thn (he.run pins s σ H _ I h) fun v s1 ⟨x, H1, I1, r1, q1⟩ => ?_)
  obtain ⟨a, ex, xs, hx, q⟩ := q1
  subst ex
  cases r1
  have hst : PO X (some (.UnaryOp .USub (.Constant (.int 1) k p1) p2)) (tPart (tUn (rU fun i => .int (-i)) (tC (.int 1)))) := po_some (pe_un un_neg pe_int)
  refine wpAny_Slice (thn (po_none.run pins s1 σ H1 (fun o H2 => o = none ∧ H2 = H1) I1 ⟨rfl, rfl⟩) fun vl s2 ⟨l, H2, I2, pl, el, e2⟩ => ?_)
  subst el e2
  refine thn (po_none.run pins s2 σ H2 (fun o H3 => o = none ∧ H3 = H2) I2 ⟨rfl, rfl⟩) fun vu s3 ⟨u, H3, I3, pu, eu, e3⟩ => ?_
  subst eu e3
  refine thn (hst.run pins s3 σ H3 (fun o H4 => o = some (-1) ∧ H4 = H3) I3 ⟨1, rfl, -1, rfl, rfl, rfl⟩) fun vs s4 ⟨o, H4, I4, ps, eo, e4⟩ => ?_
  subst eo e4
  cases pl
  cases pu
  cases ps with
  | int i tk =>
  have I5 : Inv X pins σ H4 { s4 with heap := s4.heap.push { cls := .type "slice", data := .fields #[.none, .none, .int (-1) tk] } } := I4.kept (t' := s4.toks) fun b ob q => Heap.get?_push_of_some _ q
  obtain ⟨its, r, ht, hz⟩ := I5.tuple (.inl (.inl hx))
  have hlen := r.length
  show wpAny (model X.prog X.w) X.A (subscriptTail e (.Slice none none (some (.UnaryOp .USub (.Constant (.int 1) k p1) p2)) p3) (.ref a) (.ref s4.heap.objs.size)) (EP X pins σ Q) X.xe { s4 with heap := s4.heap.push { cls := .type "slice", data := .fields #[.none, .none, .int (-1) tk] } }
  refine tail_any (ops := [.ref a, .ref s4.heap.objs.size]) ht.typeIs (PyProof.Rows.slot_tuple_getitem.lookup) ?_ (by with_unfolding_all rfl)
  refine getItem_tuple_rev ht (Heap.IsSliceOf.new _ .none .none (.int (-1) tk)) ?_ (by rw [List.size_toArray]; omega)
  refine ⟨.ref _, _, I5.laid (t' := s4.toks) (o := .tup xs.reverse) (fun b ob q => Heap.get?_push_of_some _ q) (Nat.le_refl _) ?_, rfl, q _ (I5.hok.fresh (Nat.le_refl _))⟩
  exact ⟨by rw [List.length_reverse]; exact hz, _, r.reverse, IsTup.new _ _⟩
end
end Pr

namespace Pr
open PySem PySem.Spec PyProof.Rows L2

/-! ### readings, applied -/
section
variable {K : PySem.W.Frag} {σ : L2.St} {H : Hp} {Q : VK} {ta tb tc te : TE} {t u : TT} {D : Ends} {tu tw : TS} {g : TG} {x y v : V} {i j : Nat} {QT : Bool → Hp → Prop} {QA : List V → Hp → Prop}
theorem ap_seq : tSeq tu tw D σ H = tu { D with nx := tw D } σ H := rfl
theorem ap_next : tNext D σ H = D.nx σ H := rfl
theorem ap_asg : tAsg te g D σ H = te σ H fun x H1 => g x σ H1 D.nx := rfl
theorem ap_gName {QN : L2.St → Hp → Prop} : gName i v σ H QN = QN (σ.set i (some v)) H := rfl
theorem ap_ret : tRet te D σ H = te σ H D.rt := rfl
theorem ap_retN : tRetN D σ H = D.rt .non H := rfl
theorem ap_drop : tDrop te D σ H = te σ H fun _ H1 => D.nx σ H1 := rfl
theorem ap_ifS : tIfS t tu tw D σ H = t σ H fun b H1 => if b = true then tu D σ H1 else tw D σ H1 := rfl
theorem ap_break : tBreak D σ H = D.bk σ H := rfl
theorem ap_cont : tCont D σ H = D.ct σ H := rfl
theorem ap_par {ta : TA} : tPar i j ta D σ H = ta σ H fun vs H1 => ∃ v w, vs = [v, w] ∧ D.nx ((σ.set i (some v)).set j (some w)) H1 := rfl
theorem ap_aug {ti : TIp} : tAug i te ti D σ H = ∃ x, σ[i]? = some (some x) ∧ te σ H fun y H1 => ti x y H1 fun z H2 => D.nx (σ.set i (some z)) H2 := rfl
theorem ap_ip {f : Int → Int → Int} : ipI f x y H Q = ∃ i j, x = .int i ∧ y = .int j ∧ Q (.int (f i j)) H := rfl
theorem ap_gSub {to ti : TE} {ts : TSet} {QN : L2.St → Hp → Prop} : gSub to ti ts v σ H QN = to σ H fun o H1 => ti σ H1 fun i H2 => ts o i v H2 fun H3 => QN σ H3 := rfl
theorem ap_gTup {n : Nat} {ts : TGs} {QN : L2.St → Hp → Prop} : gTup K n ts v σ H QN = ∃ a xs, v = .ref a ∧ SqT K H a xs ∧ xs.length = n ∧ ts xs σ H QN := rfl
theorem ap_gNil {vs : List V} {QN : L2.St → Hp → Prop} : gNil vs σ H QN = (vs = [] ∧ QN σ H) := rfl
theorem ap_gCons {t : TG} {u : TGs} {vs : List V} {QN : L2.St → Hp → Prop} : gCons t u vs σ H QN = ∃ v r, vs = v :: r ∧ t v σ H fun σ' H' => u r σ' H' QN := rfl
theorem ap_var : tVar i σ H Q = ∃ v, σ[i]? = some (some v) ∧ Q v H := rfl
theorem ap_c : tC v σ H Q = Q v H := rfl
theorem ap_op {r : R2} : tOp r ta tb σ H Q = ta σ H fun x H1 => tb σ H1 fun y H2 => r x y H2 Q := rfl
theorem ap_un {r : V → Hp → VK → Prop} : tUn r ta σ H Q = ta σ H fun x H1 => r x H1 Q := rfl
theorem ap_if : tIf t ta tb σ H Q = t σ H fun c H1 => if c = true then ta σ H1 Q else tb σ H1 Q := rfl
theorem ap_test : tTest te σ H QT = te σ H fun x H' => ∃ k, x = .bl k ∧ QT k H' := rfl
theorem ap_B : tB te σ H QT = te σ H fun x H' => ∃ k, x = .bl k ∧ QT k H' := rfl
theorem ap_and : tAnd t u σ H QT = t σ H fun c H1 => if c = true then u σ H1 QT else QT false H1 := rfl
theorem ap_or : tOr t u σ H QT = t σ H fun c H1 => if c = true then QT true H1 else u σ H1 QT := rfl
theorem ap_not : tNot t σ H QT = t σ H fun c H1 => QT (!c) H1 := rfl
theorem ap_andV : tAndV ta tb σ H Q = ta σ H fun x H1 => ∃ c, x = .bl c ∧ if c = true then tb σ H1 Q else Q (.bl false) H1 := rfl
theorem ap_orV : tOrV ta tb σ H Q = ta σ H fun x H1 => ∃ c, x = .bl c ∧ if c = true then Q (.bl true) H1 else tb σ H1 Q := rfl
theorem ap_notV : tNotV ta σ H Q = ta σ H fun x H1 => ∃ c, x = .bl c ∧ Q (.bl (!c)) H1 := rfl
theorem ap_nil : tNil σ H QA = QA [] H := rfl
theorem ap_cons {tr : TA} : tCons ta tr σ H QA = ta σ H fun x H1 => tr σ H1 fun xs H2 => QA (x :: xs) H2 := rfl
theorem ap_tup {ta : TA} : tTup ta σ H Q = ta σ H fun xs H1 => xs.length ≤ sizeLine ∧ ∀ p, H1 p = none → Q (.ref p) (upd H1 p (.tup xs)) := rfl
theorem ap_lst {ta : TA} : tLst ta σ H Q = ta σ H fun xs H1 => xs.length ≤ sizeLine ∧ ∀ p, H1 p = none → Q (.ref p) (upd H1 p (.lst xs)) := rfl
theorem ap_cb {r : List V → Hp → VK → Prop} {ta : TA} : tCB r ta σ H Q = ta σ H fun vs H1 => r vs H1 Q := rfl
theorem ap_bm {T : String} {r : V → List V → Hp → VK → Prop} {ta : TA} : tBM K T r te ta σ H Q = te σ H fun x H1 => tyV K T x H1 ∧ ta σ H1 fun xs H2 => r x xs H2 Q := rfl
theorem ap_call {sp : Sp} {dvs : List V} {E : XK} {ta : TA} : tCall sp dvs E ta σ H Q = ta σ H fun vs H1 => sp (vs ++ dvs) H1 Q E := rfl
theorem ap_chain {r r' : R2} : tChain r r' ta tb tc σ H Q = ta σ H fun x H1 => tb σ H1 fun y H2 => r x y H2 fun z H3 => ∃ k, z = .bl k ∧ (if k = true then tc σ H3 fun w H4 => r' y w H4 Q else Q (.bl false) H3) := by
  unfold tChain
  apply propext
  rfl
theorem ap_rI {C : Int → Int → Prop} {f : Int → Int → V} : rI C f x y H Q = ∃ i j, x = .int i ∧ y = .int j ∧ C i j ∧ Q (f i j) H := rfl
theorem ap_rI0 {f : Int → Int → V} : rI0 f x y H Q = ∃ i j, x = .int i ∧ y = .int j ∧ Q (f i j) H := rfl
theorem ap_rU {f : Int → V} : rU f x H Q = ∃ i, x = .int i ∧ Q (f i) H := rfl
theorem ap_rEq : rEq x y H Q = (scal x y = true ∧ Q (.bl (decide (x = y))) H) := rfl
theorem ap_rNe : rNe x y H Q = (scal x y = true ∧ Q (.bl (!decide (x = y))) H) := rfl
theorem ap_revT : tRevT te σ H Q = te σ H fun x H1 => ∃ a, x = .ref a ∧ ∃ xs, H1 a = some (.tup xs) ∧ ∀ p, H1 p = none → Q (.ref p) (upd H1 p (.tup xs.reverse)) := rfl
theorem ap_sl {r : V → Option Int → Option Int → Hp → VK → Prop} {tl th : TO} : tSl r te tl th σ H Q = te σ H fun x H1 => tl σ H1 fun l H2 => th σ H2 fun u H3 => r x l u H3 Q := rfl
theorem ap_part {QO : Option Int → Hp → Prop} : tPart te σ H QO = te σ H fun x H1 => ∃ i, x = .int i ∧ QO (some i) H1 := rfl
theorem ap_noPart {QO : Option Int → Hp → Prop} : tNoPart σ H QO = QO none H := rfl
theorem ap_ixLI : rIxLI x y H Q = ∃ p i, x = .ref p ∧ y = .int i ∧ ∃ ns, H p = some (LI ns) ∧ 0 ≤ i ∧ i < (ns.length : Int) ∧ Q (.int (gi ns i)) H := rfl
theorem ap_ixTI : rIxTI x y H Q = ∃ p i, x = .ref p ∧ y = .int i ∧ ∃ ns, H p = some (TI ns) ∧ 0 ≤ i ∧ i < (ns.length : Int) ∧ Q (.int (gi ns i)) H := rfl
theorem ap_ixLV : rIxLV x y H Q = ∃ p i, x = .ref p ∧ y = .int i ∧ ∃ xs, H p = some (.lst xs) ∧ ∃ v, atI xs i = some v ∧ Q v H := rfl
theorem ap_ixTV : rIxTV x y H Q = ∃ p i, x = .ref p ∧ y = .int i ∧ ∃ xs, H p = some (.tup xs) ∧ ∃ v, atI xs i = some v ∧ Q v H := rfl
theorem ap_ixL : rIxL K x y H Q = ∃ p xs i v, x = .ref p ∧ y = .int i ∧ SqL K H p xs ∧ atI xs i = some v ∧ Q v H := rfl
theorem ap_len {vs : List V} : rLen vs H Q = ∃ p, vs = [.ref p] ∧ ∃ xs, (H p = some (.lst xs) ∨ H p = some (.tup xs)) ∧ Q (.int (xs.length : Nat)) H := rfl
theorem ap_setLI {o : V} {QH : Hp → Prop} : rSetLI o x v H QH = ∃ p i n, o = .ref p ∧ x = .int i ∧ v = .int n ∧ ∃ ns, H p = some (LI ns) ∧ 0 ≤ i ∧ i < (ns.length : Int) ∧ QH (upd H p (LI (ns.set i.toNat n))) := rfl
theorem ap_setLV {o : V} {QH : Hp → Prop} : rSetLV o x v H QH = ∃ p i, o = .ref p ∧ x = .int i ∧ ∃ xs, H p = some (.lst xs) ∧ 0 ≤ i ∧ i < (xs.length : Int) ∧ QH (upd H p (.lst (xs.set i.toNat v))) := rfl
theorem ap_appI {vs : List V} : rAppI x vs H Q = ∃ l n, x = .ref l ∧ vs = [.int n] ∧ ∃ ns, H l = some (LI ns) ∧ ns.length < 1000000 ∧ Q .non (upd H l (LI (ns ++ [n]))) := rfl
theorem ap_appV {vs : List V} : rAppV x vs H Q = ∃ l v, x = .ref l ∧ vs = [v] ∧ ∃ xs, H l = some (.lst xs) ∧ xs.length < 1000000 ∧ Q .non (upd H l (.lst (xs ++ [v]))) := rfl
theorem ap_tupL {vs : List V} : rTupL vs H Q = ∃ p, vs = [.ref p] ∧ ∃ xs, H p = some (.lst xs) ∧ ∀ l, H l = none → Q (.ref l) (upd H l (.tup xs)) := rfl
theorem ap_listS {vs : List V} : rListS vs H Q = ∃ p, vs = [.ref p] ∧ ∃ xs, (H p = some (.lst xs) ∨ H p = some (.tup xs)) ∧ ∀ l, H l = none → Q (.ref l) (upd H l (.lst xs)) := rfl
theorem ap_sumLI {vs : List V} : rSumLI vs H Q = ∃ p, vs = [.ref p] ∧ ∃ ns, H p = some (LI ns) ∧ Q (.int ns.sum) H := rfl
theorem ap_sumTI {vs : List V} : rSumTI vs H Q = ∃ p, vs = [.ref p] ∧ ∃ ns, H p = some (TI ns) ∧ Q (.int ns.sum) H := rfl
theorem ap_repLI : rRepLI x y H Q = ∃ l k, x = .ref l ∧ y = .int k ∧ ∃ n, H l = some (LI [n]) ∧ k < 1000000 ∧ -1000000 < k ∧ ∀ p, H p = none → Q (.ref p) (upd H p (LI (List.replicate k.toNat n))) := rfl
theorem ap_intI {vs : List V} : rIntI vs H Q = ∃ i, vs = [.int i] ∧ Q (.int i) H := rfl
theorem ap_intB {vs : List V} : rIntB vs H Q = ∃ k, vs = [.bl k] ∧ Q (.int (if k then 1 else 0)) H := rfl
theorem ap_eqTI : rEqTI x y H Q = ∃ p q, x = .ref p ∧ y = .ref q ∧ ∃ ns, H p = some (TI ns) ∧ ∃ ms, H q = some (TI ms) ∧ Q (.bl (decide (ns = ms))) H := rfl
theorem ap_neTI : rNeTI x y H Q = ∃ p q, x = .ref p ∧ y = .ref q ∧ ∃ ns, H p = some (TI ns) ∧ ∃ ms, H q = some (TI ms) ∧ Q (.bl (!decide (ns = ms))) H := rfl
theorem ap_eqLI : rEqLI x y H Q = ∃ p q, x = .ref p ∧ y = .ref q ∧ ∃ ns, H p = some (LI ns) ∧ ∃ ms, H q = some (LI ms) ∧ Q (.bl (decide (ns = ms))) H := rfl
theorem ap_neLI : rNeLI x y H Q = ∃ p q, x = .ref p ∧ y = .ref q ∧ ∃ ns, H p = some (LI ns) ∧ ∃ ms, H q = some (LI ms) ∧ Q (.bl (!decide (ns = ms))) H := rfl
theorem ap_isi {vs : List V} : rIsiS vs H Q = ∃ x T, vs = [x, .ty T] ∧ ∃ t, tyOf x H = some t ∧ ∃ b, kitB t T = some b ∧ Q (.bl b) H := rfl
/-- a loop over what has begun -/
def tLoop (g : TG) (tb : TS) (D : Ends) (σ : L2.St) (J : It) (H1 : Hp) : Prop := ∃ W : Nat → Nat → L2.St → Hp → Prop, (∃ m, W 0 m σ H1) ∧ ∀ i m σ H, W i m σ H →
  (J.stop i H ∧ D.nx σ H) ∨ (J.go i H ∧ ∃ N : L2.St → Hp → Prop, (∀ σ' H', N σ' H' → ∃ m', m' < m ∧ W (i + 1) m' σ' H') ∧ ∀ x H', J.yld i H x H' → g x σ H' fun σ2 H2 => tb { D with nx := N, ct := N, bk := D.nx } σ2 H2)
theorem ap_for {wi : L2.TI} : tFor wi g tu D σ H = wi σ H (tLoop g tu D σ) := rfl
theorem ap_rng1 {ta : TA} {R : It → Hp → Prop} : iRng1 ta σ H R = ta σ H fun vs H1 => ∃ j : Int, vs = [.int j] ∧ -(2 ^ 62) ≤ j ∧ j < 2 ^ 62 ∧ R (Itr 0 j.toNat) H1 := rfl
theorem ap_rng2 {ta : TA} {R : It → Hp → Prop} : iRng2 ta σ H R = ta σ H fun vs H1 => ∃ i j : Int, vs = [.int i, .int j] ∧ (-(2 ^ 62) ≤ i ∧ i < 2 ^ 62 ∧ -(2 ^ 62) ≤ j ∧ j < 2 ^ 62) ∧ R (Itr i (j - i).toNat) H1 := rfl
theorem ap_iList {R : It → Hp → Prop} : iList K te σ H R = te σ H fun x H1 => ∃ a, x = .ref a ∧ (∃ xs, SqL K H1 a xs) ∧ R (Itl K a) H1 := rfl
theorem ap_iTup {R : It → Hp → Prop} : iTup K te σ H R = te σ H fun x H1 => ∃ a, x = .ref a ∧ (∃ xs, SqT K H1 a xs) ∧ R (Itt K a) H1 := rfl
/-- a comprehension over what has begun -/
def tLcIn (g : TG) (tt : TT) (te : TE) (vs : List Nat) (σ : L2.St) (Q : VK) (J : It) (H1 : Hp) : Prop := ∀ D, H1 D = none → ∃ W : Nat → Nat → Hp → Prop, (∃ m, W 0 m (upd H1 D (.lst []))) ∧ ∀ i m H, W i m H →
  (J.stop i H ∧ Q (.ref D) H) ∨ (J.go i H ∧ ∃ Nx : Hp → Prop, (∀ H', Nx H' → ∃ m', m' < m ∧ W (i + 1) m' H') ∧ ∀ x H', J.yld i H x H' → g x (wipe σ vs) H' fun σ2 H2 => wipe σ2 vs = wipe σ vs ∧ tt σ2 H2 fun b H3 =>
    if b = true then te σ2 H3 fun y H4 => ∃ acc, H4 D = some (.lst acc) ∧ acc.length < sizeLine ∧ Nx (upd H4 D (.lst (acc ++ [y]))) else Nx H3)
theorem ap_lc {wi : L2.TI} {vs : List Nat} : tLc wi g t te vs σ H Q = wi σ H (tLcIn g t te vs σ Q) := rfl
theorem ap_yes : tYes σ H QT = QT true H := rfl
theorem tyV_l {p : Addr} (h : ∃ xs, H p = some (.lst xs)) : tyV K "list" (.ref p) H = True := by
  obtain ⟨xs, h⟩ := h
  exact eq_true (.inl ⟨rfl, xs, .inl (.inl h)⟩)
theorem sqL_of {p : Addr} {xs : List V} (h : H p = some (.lst xs)) : SqL K H p xs := .inl (.inl h)
theorem sqT_of {p : Addr} {xs : List V} (h : H p = some (.tup xs)) : SqT K H p xs := .inl (.inl h)
end

/-! ### loops -/
section
variable {K : PySem.W.Frag} {g : TG} {tb : TS} {D : Ends} {σ : L2.St} {H : Hp} {j : Nat} {te : TE} {vs : List Nat} {Q : VK} {tt : TT}
theorem loop_range {lo : Int} {n : Nat} (Pv : Nat → L2.St → Hp → Prop) (h0 : Pv 0 σ H)
    (hs : ∀ (i : Nat) σ H, i < n → Pv i σ H → tb { D with nx := Pv (i + 1), ct := Pv (i + 1), bk := D.nx } (σ.set j (some (.int (lo + i)))) H) (hd : ∀ σ H, Pv n σ H → D.nx σ H) :
    tLoop (gName j) tb D σ (Itr lo n) H := for_range (g := gName j) Pv h0 hs hd
theorem loop_list {a : Addr} {xs : List V} (Pv : Nat → L2.St → Hp → Prop) (h0 : Pv 0 σ H) (hl : ∀ i σ H, i ≤ xs.length → Pv i σ H → SqL K H a xs)
    (hs : ∀ i x σ H, xs[i]? = some x → Pv i σ H → tb { D with nx := Pv (i + 1), ct := Pv (i + 1), bk := D.nx } (σ.set j (some x)) H) (hd : ∀ σ H, Pv xs.length σ H → D.nx σ H) :
    tLoop (gName j) tb D σ (Itl K a) H := for_list (g := gName j) Pv h0 hl hs hd
theorem loop_tup {a : Addr} {xs : List V} (Pv : Nat → L2.St → Hp → Prop) (h0 : Pv 0 σ H) (hl : ∀ i σ H, i ≤ xs.length → Pv i σ H → SqT K H a xs)
    (hs : ∀ i x σ H, xs[i]? = some x → Pv i σ H → tb { D with nx := Pv (i + 1), ct := Pv (i + 1), bk := D.nx } (σ.set j (some x)) H) (hd : ∀ σ H, Pv xs.length σ H → D.nx σ H) :
    tLoop (gName j) tb D σ (Itt K a) H := for_tup (g := gName j) Pv h0 hl hs hd
theorem same_upd {H : Hp} {p : Addr} {o : HO} (h : H p = none) : Same H (upd H p o) := fun b x e => by
  rw [upd_ne (ne_of_none e h)]
  exact e
theorem same_mut {H H' : Hp} {p : Addr} {o : HO} (e : Same H H') (h : H p = none) : Same H (upd H' p o) := fun b x eb => by
  rw [upd_ne (ne_of_none eb h)]
  exact e b x eb
/-- a comprehension whose turns leave what H knows, and give ints -/
theorem lc_rangeI {lo : Int} {n : Nat} (f : Nat → Int) (hn : n < 1000000) (hw : ∀ x, wipe ((wipe σ vs).set j (some x)) vs = wipe σ vs)
    (he : ∀ (i : Nat) H', i < n → Same H H' → ∀ Q' : VK, (∀ H'', Same H' H'' → Q' (.int (f i)) H'') → te ((wipe σ vs).set j (some (.int (lo + i)))) H' Q')
    (hq : ∀ p H', H p = none → Same H H' → H' p = some (LI ((List.range n).map f)) → Q (.ref p) H') :
    tLcIn (gName j) tYes te vs σ Q (Itr lo n) H := fun Dl hD => by
  refine lc_range (g := gName j) (lo := lo) (n := n) (fun i H' => Same H H' ∧ H' Dl = some (LI ((List.range i).map f))) ⟨same_upd hD, ?_⟩ (fun i H' hi hP => ?_) (fun H' hP => hq Dl H' hD hP.1 hP.2)
  · rw [upd_same]
    rfl
  · obtain ⟨sm, ed⟩ := hP
    refine ⟨hw _, he i H' hi sm _ fun H'' sm' => ⟨_, sm' _ _ ed, sz (by simp; omega), same_mut (sm.trans sm') hD, ?_⟩⟩
    rw [upd_same, List.range_succ, List.map_append]
    simp
theorem lc_listI {a : Addr} {xs : List V} (f : Nat → Int) (hx : H a = some (.lst xs)) (hn : xs.length < 1000000) (hw : ∀ x, wipe ((wipe σ vs).set j (some x)) vs = wipe σ vs)
    (he : ∀ (i : Nat) x H', xs[i]? = some x → Same H H' → ∀ Q' : VK, (∀ H'', Same H' H'' → Q' (.int (f i)) H'') → te ((wipe σ vs).set j (some x)) H' Q')
    (hq : ∀ p H', H p = none → Same H H' → H' p = some (LI ((List.range xs.length).map f)) → Q (.ref p) H') :
    tLcIn (gName j) tYes te vs σ Q (Itl K a) H := fun Dl hD => by
  refine lc_list (g := gName j) (xs := xs) (fun i H' => Same H H' ∧ H' Dl = some (LI ((List.range i).map f))) ⟨same_upd hD, ?_⟩ (fun i H' hi hP => sqL_of (hP.1 _ _ hx)) (fun i x H' hi hP => ?_) (fun H' hP => hq Dl H' hD hP.1 hP.2)
  · rw [upd_same]
    rfl
  · obtain ⟨sm, ed⟩ := hP
    have hl := (List.getElem?_eq_some_iff.mp hi).1
    refine ⟨hw _, he i x H' hi sm _ fun H'' sm' => ⟨_, sm' _ _ ed, sz (by simp; omega), same_mut (sm.trans sm') hD, ?_⟩⟩
    rw [upd_same, List.range_succ, List.map_append]
    simp
theorem iteC {c A B : Prop} {inst : Decidable c} (h1 : c → A) (h2 : ¬c → B) : @ite Prop c inst A B := by
  by_cases h : c
  · rw [if_pos h]
    exact h1 h
  · rw [if_neg h]
    exact h2 h
theorem gi_c0 {a : Int} {l : List Int} : gi (a :: l) 0 = a := by
  unfold gi
  rfl
theorem gi_c1 {a b : Int} {l : List Int} : gi (a :: b :: l) 1 = b := by
  unfold gi
  rfl
theorem gi_c2 {a b c : Int} {l : List Int} : gi (a :: b :: c :: l) 2 = c := by
  unfold gi
  rfl
theorem gi_c3 {a b c d : Int} {l : List Int} : gi (a :: b :: c :: d :: l) 3 = d := by
  unfold gi
  rfl
theorem own_cons {p : Str × Nat} {l : List (Str × Nat)} : List.map (fun x : Str × Nat => x.snd) (p :: l) = p.snd :: List.map (fun x : Str × Nat => x.snd) l := rfl
theorem own_nil : List.map (fun x : Str × Nat => x.snd) [] = [] := rfl
theorem le1 {a : Int} {ns : List Int} : ([V.int a] = List.map V.int ns) ↔ [a] = ns := map_int_inj (xs := [a])
theorem le2 {a b : Int} {ns : List Int} : ([V.int a, V.int b] = List.map V.int ns) ↔ [a, b] = ns := map_int_inj (xs := [a, b])
theorem le3 {a b c : Int} {ns : List Int} : ([V.int a, V.int b, V.int c] = List.map V.int ns) ↔ [a, b, c] = ns := map_int_inj (xs := [a, b, c])
theorem le4 {a b c d : Int} {ns : List Int} : ([V.int a, V.int b, V.int c, V.int d] = List.map V.int ns) ↔ [a, b, c, d] = ns := map_int_inj (xs := [a, b, c, d])
theorem me_cons {a : Int} {l : List Int} {v : V} {r : List V} : (List.map V.int (a :: l) = v :: r) ↔ (V.int a = v ∧ List.map V.int l = r) := by
  rw [List.map_cons, List.cons.injEq]
theorem me_nil {r : List V} : (List.map V.int ([] : List Int) = r) ↔ [] = r := Iff.rfl
theorem wipe_nil : wipe σ [] = σ := rfl
theorem wipe_cons {v : Nat} : wipe σ (v :: vs) = (wipe σ vs).set v none := rfl
end
/-! the written part named, for what stands in a comprehension within another one -/
section
variable {X : Cx} {K : PySem.W.Frag} {tg l : Expr} {tl : TE}
theorem pi_listK (hK : X.K = K) (hl : PE X l tl) : PI X tg l (iList K tl) := by
  subst hK
  exact pi_list hl
theorem pi_tupK (hK : X.K = K) (hl : PE X l tl) : PI X tg l (iTup K tl) := by
  subst hK
  exact pi_tup hl
theorem ix_listK (hK : X.K = K) : IxR X (rIxL K) := by
  subst hK
  exact ix_list
end
end Pr

namespace Pr
open PySem PySem.Spec PyProof.Rows L2

/-! ### ints of any sign and some hundred digits -/
abbrev Big : Int := (2 ^ 250) ^ 16
def CFd (_ j : Int) : Prop := j ≠ 0 ∧ -((2 ^ 250) ^ 16) < j ∧ j < (2 ^ 250) ^ 16
def CMu (i j : Int) : Prop := (-((2 ^ 250) ^ 16) < i ∧ i < (2 ^ 250) ^ 16) ∧ -((2 ^ 250) ^ 16) < j ∧ j < (2 ^ 250) ^ 16
theorem bigE : ((2 : Int) ^ 250) ^ 16 = ((2 ^ 4000 : Nat) : Int) := by
  rw [← Int.pow_mul]
  norm_cast
theorem big_abs {i : Int} (h : -(2 ^ 250) ^ 16 < i ∧ i < (2 ^ 250) ^ 16) : i.natAbs < 2 ^ 4000 := by
  have e := bigE
  generalize (2 ^ 4000 : Nat) = B at e ⊢
  rw [e] at h
  omega
section
variable {X : Cx}
theorem op_fdivG : OpR X (binaryOp .FloorDiv) (rI CFd fun i j => .int (i.fdiv j)) := opI fun i j _ _ _ _ _ hc q => by
  have h1 : j ≠ 0 := hc.1
  have h2 : j.natAbs.log2 < 9000 := Nat.lt_of_lt_of_le (PySem.Flt.log2_lt_of (by decide) (big_abs hc.2)) (by decide)
  exact floordiv_int h1 q (.inl (PyProof.noPylong_of_log2 h2))
theorem op_mulB : OpR X (binaryOp .Mult) (rI CMu fun i j => .int (i * j)) := opImp op_mulW fun x y H Q ⟨i, j, ex, ey, c, q⟩ =>
  ⟨i, j, ex, ey, wide_mul (big_abs c.1) (big_abs c.2) (by decide) (by decide) (by decide), q⟩
def CDp (_ j : Int) : Prop := 0 < j ∧ j < (2 ^ 250) ^ 16
theorem op_fdivP : OpR X (binaryOp .FloorDiv) (rI CDp fun i j => .int (i / j)) := opImp op_fdivW fun x y H Q ⟨i, j, ex, ey, c, q⟩ => by
  refine ⟨i, j, ex, ey, wide_div c.1 (big_abs (i := j) ⟨?_, c.2⟩) (by decide) (by decide), q⟩
  have := c.1
  have e := bigE
  generalize (2 ^ 4000 : Nat) = B at e
  rw [e]
  omega
/-- isqrt -/
def rIsqrt : List V → Hp → VK → Prop := fun vs H Q => ∃ i, vs = [.int i] ∧ 0 ≤ i ∧ i < (2 ^ 250) ^ 16 ∧ Q (.int ((Float64.isqrt i.toNat : Nat) : Int)) H
theorem cr_isqrt : CallR X (.builtin "math.isqrt") rIsqrt := by
  intro pins s σ H vs us Q I r h
  obtain ⟨i, rfl, h0, h1, q⟩ := h
  obtain ⟨u, rfl, ru⟩ := r.one
  obtain ⟨t, rfl⟩ := ru
  have hb : i.toNat.log2 < 4000 := by
    have e := bigE
    refine PySem.Flt.log2_lt_of (by decide) ?_
    generalize (2 ^ 4000 : Nat) = B at e ⊢
    rw [e] at h1
    omega
  exact PySem.call_function_meets PySem.W.MGF.kind_isqrt PySem.W.MGF.plain_isqrt PySem.W.MGF.entry_isqrt (PySem.W.MGF.args_isqrt _) (PySem.W.mg_run_isqrt i t (by omega) (by omega) (by omega)).meets ⟨.int _, H, I.tok _, ⟨_, rfl⟩, q⟩
end
theorem ty_cases {x : V} {H : Hp} {t : String} (h : tyOf x H = some t) : x = .non ∨ (∃ b, x = .bl b) ∨ (∃ i, x = .int i) ∨ (∃ s, x = .str s) ∨ (∃ a, x = .ref a ∧ (t = "list" ∨ t = "tuple" ∨ t = "dict")) := by
  cases x with
  | non => exact .inl rfl
  | bl b => exact .inr (.inl ⟨b, rfl⟩)
  | int i => exact .inr (.inr (.inl ⟨i, rfl⟩))
  | str s => exact .inr (.inr (.inr (.inl ⟨s, rfl⟩)))
  | ref a =>
    refine .inr (.inr (.inr (.inr ⟨a, rfl, ?_⟩)))
    have e : tyOf (.ref a) H = (match H a with
      | some (.lst _) => some "list"
      | some (.tup _) => some "tuple"
      | some (.dK _) => some "dict"
      | some (.dT _) => some "dict"
      | _ => none) := rfl
    rw [e] at h
    split at h
    · exact .inl (Option.some.inj h).symm
    · exact .inr (.inl (Option.some.inj h).symm)
    · exact .inr (.inr (Option.some.inj h).symm)
    · exact .inr (.inr (Option.some.inj h).symm)
    · cases h
  | byt b => cases h
  | flt b => cases h
  | ty n => cases h
theorem ty_non (H : Hp) : tyOf .non H = some "NoneType" := rfl
theorem ty_bl (b : Bool) (H : Hp) : tyOf (.bl b) H = some "bool" := rfl
theorem ty_int (i : Int) (H : Hp) : tyOf (.int i) H = some "int" := rfl
theorem ty_str (s : Str) (H : Hp) : tyOf (.str s) H = some "str" := rfl
theorem ty_tup {a : Addr} {H : Hp} {xs : List V} (h : H a = some (.tup xs)) : tyOf (.ref a) H = some "tuple" := by
  show (match H a with
      | some (.lst _) => some "list"
      | some (.tup _) => some "tuple"
      | some (.dK _) => some "dict"
      | some (.dT _) => some "dict"
      | _ => none) = _
  rw [h]
theorem ty_lst {a : Addr} {H : Hp} {xs : List V} (h : H a = some (.lst xs)) : tyOf (.ref a) H = some "list" := by
  show (match H a with
      | some (.lst _) => some "list"
      | some (.tup _) => some "tuple"
      | some (.dK _) => some "dict"
      | some (.dT _) => some "dict"
      | _ => none) = _
  rw [h]
/-! ### unpacking, texts -/
section
variable {X : Cx}
def gTupH (n : Nat) (t : TGs) : TG := fun v σ H Q => ∃ a, v = .ref a ∧ ∃ xs, H a = some (.tup xs) ∧ xs.length = n ∧ t xs σ H Q
theorem pg_tupH {es : List Expr} {t : TGs} {k n : Nat} {pos : Pos} (hc : X.calm = true) (h : PGs X es t)
    (hn : (assignEach es X.env).length = n := by rfl) (hst : (assignEach es X.env).findIdx? (·.1) = none := by rfl) : PG X (.Tuple es k pos) (gTupH n t) := by
  have g := pg_tup (k := k) (pos := pos) hc h hn hst
  exact ⟨fun pins s σ H v u Q I r q => g.run pins s σ H v u Q I r (by
    obtain ⟨a, e, xs, hx, hl, k⟩ := q
    exact ⟨a, xs, e, .inl (.inl hx), hl, k⟩)⟩
variable {K : PySem.W.Frag} {σ : L2.St} {H : Hp} {Q : VK} {te : TE} {ts : List TE}
theorem ap_cut {D : Ends} {tu tw : TS} : Evl.tCut tu tw D σ H = ∃ Mid : L2.St → Hp → Prop, tu { D with nx := Mid } σ H ∧ ∀ σ' H', Mid σ' H' → tw D σ' H' := rfl
theorem ap_gTupH {n : Nat} {t : TGs} {v : V} {QN : L2.St → Hp → Prop} : gTupH n t v σ H QN = ∃ a, v = .ref a ∧ ∃ xs, H a = some (.tup xs) ∧ xs.length = n ∧ t xs σ H QN := rfl
theorem ap_fmt : tFmt te σ H Q = te σ H fun x H1 => (∃ y : Str, x = .str y ∧ y.length ≤ sizeLine ∧ Q (.str y) H1) ∨ ∃ i : Int, x = .int i ∧ i.natAbs.log2 < 1920 ∧ Q (.str (toString i)) H1 := rfl
theorem ap_jsn {acc : Str} {QS : Str → Hp → Prop} : tJs [] acc σ H QS = QS acc H := rfl
theorem ap_jsc {acc : Str} {QS : Str → Hp → Prop} : tJs (te :: ts) acc σ H QS = te σ H fun x H1 => ∃ y : Str, x = .str y ∧ (acc ++ y).length ≤ sizeLine ∧ tJs ts (acc ++ y) σ H1 QS := rfl
theorem ap_gcd {vs : List V} : rGcd vs H Q = ∃ a b : Int, vs = [.int a, .int b] ∧ Q (.int ((Nat.gcd a.natAbs b.natAbs : Nat) : Int)) H := rfl
theorem ap_isqrt {vs : List V} : rIsqrt vs H Q = ∃ i, vs = [.int i] ∧ 0 ≤ i ∧ i < (2 ^ 250) ^ 16 ∧ Q (.int ((Float64.isqrt i.toNat : Nat) : Int)) H := rfl
end
end Pr

/-! enumerate over a tuple -/
namespace Pr
open PySem PySem.Spec PyProof.Rows L2
open Sem (wp)
theorem en_new {u : Value} {ob : Obj} {Z : Heap → Prop} (B : Begins u ob Z) :
    Meets (Builtin.«enumerate.__new__» ⟨[.type "enumerate", u], []⟩) (fun _ R z => Z z.heap ∧
      R (.ok (.ret (.ref (z.heap.push ob).objs.size))) { z with heap := (z.heap.push ob).push ⟨.type "enumerate", none, .fields #[.none, .bool false, .ref z.heap.objs.size, rawInt 0, .none, .none], #[]⟩ }) := by
  refine .of_wp fun pg wd B1 R z hz => ?_
  rcases z with ⟨hp, gs, dr, tk, out⟩
  rcases hz with ⟨hb, hz⟩
  have sub1 := sub_enumerate
  have go : ∀ {B' : Around} {E' Q' : Value → Shared → Prop}, Q' (.ref hp.objs.size) ⟨hp.push ob, gs, dr, tk, out⟩ → wpAny (model pg wd) B' (pyIter u) Q' E' ⟨hp, gs, dr, tk, out⟩ := fun y => B.iter pg wd _ _ _ _ hb y
  wp_walk using go
  refine wpAny_stack_any fun stk => wpAny_pure ?_
  split
  · rename_i c' _ _ _ _ _
    rcases hcc : c' == Value.type "enumerate" with _ | _ <;> (simp only [hcc]; wp_walk using go; exact ⟨_, rfl, hz⟩)
  · wp_walk using go; exact ⟨_, rfl, hz⟩
section
variable {pg : Program} {wd : World} {Ar : Around} {E : Value → Shared → Prop} {s : Shared}
theorem en_call {u : Value} {ob : Obj} {Z : Heap → Prop} {Q : Value → Shared → Prop} (B : Begins u ob Z) (hb : Z s.heap)
    (k : ∀ g : Heap, IsEnum g (s.heap.objs.size + 1) s.heap.objs.size 0 .none → g.get? s.heap.objs.size = some ob → g.objs.size = s.heap.objs.size + 2 → (∀ c x, s.heap.get? c = some x → g.get? c = some x) → Q (.ref (s.heap.objs.size + 1)) { s with heap := g }) :
    wpAny (model pg wd) Ar (call (.type "enumerate") [u]) Q E s := by
  have n1 : (s.heap.push ob).objs.size = s.heap.objs.size + 1 := Heap.size_push ..
  have at1 : ((s.heap.push ob).push ⟨.type "enumerate", none, .fields #[.none, .bool false, .ref s.heap.objs.size, rawInt 0, .none, .none], #[]⟩).get? (s.heap.objs.size + 1) = some ⟨.type "enumerate", none, .fields #[.none, .bool false, .ref s.heap.objs.size, rawInt 0, .none, .none], #[]⟩ := by
    rw [← n1]
    exact Heap.get?_push_size _ rfl
  refine callType_new F.called_enumerate (by decide) (F.typeCall_enumerate_1 _) (F.newCall_enumerate_1 _) (fun y => F.args_object_init_2 y _) F.entry_enumerate_new (en_new B) ⟨hb, ?_⟩
  show _ ∧ _
  rw [n1]
  refine ⟨⟨_, at1, rfl⟩, k _ at1 (Heap.get?_push_of_some _ (Heap.get?_push_size _ B.free)) ?_ fun c x ex => Heap.get?_push_of_some _ (Heap.get?_push_of_some _ ex)⟩
  rw [Heap.size_push, n1]
end
/-- the turns of enumerate over the tuple at a -/
def ItT (K : PySem.W.Frag) (a : Addr) : It where
  go := fun i H => ∃ xs x, SqT K H a xs ∧ xs[i]? = some x
  yld := fun i H v H' => ∃ t x, v = .ref t ∧ H t = none ∧ H' = upd H t (.tup [.int (i : Nat), x]) ∧ ∀ xs, SqT K H a xs → xs[i]? = some x
  stop := fun i H => ∃ xs : List V, SqT K H a xs ∧ xs.length ≤ i
theorem turn_en {pg : Program} {wd : World} {K : PySem.W.Frag} {elts : List Expr} {n : Nat} {tp : Pos} (a e it : Addr) :
    Turn pg wd K (.Tuple elts n tp) (ItT K a) [e, it] e (fun i h => (∃ y, IsEnum h e it ((i : Nat) : Int) y) ∧ h.IsTupleIter it a i ∧ e ≠ it) where
  mem := by simp
  obj := fun i h z b hb => by
    rcases z with ⟨⟨y, q1⟩, ⟨o, q2, _, q3⟩, _⟩
    rcases (show b = e ∨ b = it by simpa using hb) with rfl | rfl
    · exact ⟨_, q1, fun v c => nomatch c⟩
    · exact ⟨o, q2, fun v c => by rw [q3] at c; cases c⟩
  keep := fun i h g z k => ⟨⟨_, k e (by simp) _ z.1.choose_spec⟩, z.2.1.at fun o q => k it (by simp) o q, z.2.2⟩
  item := by
    intro X e1 e2 e3 calm i pins s σ H Ex I fps z gg
    subst e1 e2 e3
    rcases z with ⟨⟨y, q1⟩, q2, ne⟩
    rcases gg with ⟨xs, x, sq, ex⟩
    obtain ⟨us, rv, tp1, _⟩ := I.tuple sq
    obtain ⟨u, eu, ru⟩ := rv.get ex
    have la : e < s.heap.objs.size := Heap.lt_size q1
    have lb : it < s.heap.objs.size := by obtain ⟨_, q, _⟩ := q2; exact Heap.lt_size q
    have ai : a ≠ it := fun c => by
      obtain ⟨o, p1, p2, _⟩ := q2
      obtain ⟨o', r1, r2, _⟩ := tp1
      rw [c, p1] at r1
      cases r1
      rw [p2] at r2
      exact absurd r2 (by decide)
    have ae : a ≠ e := fun c => by
      obtain ⟨o', r1, r2, _⟩ := tp1
      rw [c] at r1
      have := q1.symm.trans r1
      cases this
      simp at r2
    have D := Draws.tuple (prog := X.prog) (w := X.w) (A := X.A.in1) (I.ok.hd calm) it a ai us.toArray
    have li : i < us.toArray.size := by
      have := (List.getElem?_eq_some_iff.mp eu).1
      simpa using this
    refine wpAny_pyNext_enum_itemD D q1 ⟨q2, tp1⟩ li ne (by simp [ne, ae.symm]) fun x' g tk px out st2 tup gs keepg => ?_
    have ux : x' = u := by
      have h1 : us.toArray[i]? = some u := by simpa using eu
      exact Option.some.inj (px.symm.trans h1)
    subst ux
    obtain ⟨st2, -⟩ := st2
    refine ⟨_, rfl, wpAny_letOwnedTupleGo_enum (s := { s with heap := g, toks := tk + 1 }) out fun g2 q3 sb => ?_⟩
    obtain ⟨sb1, sb⟩ := sb
    have nw : g2.get? s.heap.objs.size = some { cls := .type "tuple", data := .seq #[.int i tk, x'] } := by rw [← tup]; exact sb _ (Nat.ne_of_gt la)
    have kp : ∀ c o, c ∉ [e, it] → s.heap.get? c = some o → g2.get? c = some o := fun c o nc ec => by
      have c1 : c ≠ e := fun z => nc (by simp [z])
      have c2 : c ≠ it := fun z => nc (by simp [z])
      exact (sb c c1).trans (keepg c o c1 c2 ec)
    have wr : ObjOk X.prog X.w (upd H s.heap.objs.size (.tup [.int (i : Nat), x])) g2 s.heap.objs.size (.tup [.int (i : Nat), x]) := ⟨by show 2 ≤ sizeLine; decide, [.int i tk, x'], .cons ⟨_, rfl⟩ (.cons ru .nil), ⟨_, nw, rfl, _, rfl⟩⟩
    have I2 := I.turnedNew (t' := tk + 1) (ch := [e, it]) kp fps (Nat.le_refl _) wr
    have fr := I.hok.fresh (Nat.le_refl s.heap.objs.size)
    have q4 : IsEnum g2 e it ((i + 1 : Nat) : Int) x' := by
      rw [show ((i + 1 : Nat) : Int) = (i : Int) + 1 by omega]
      exact q3
    refine ⟨.ref s.heap.objs.size, _, I2, rfl, ⟨_, x, rfl, fr, rfl, fun ys hy => (I.tuple_inj hy sq) ▸ ex⟩, ⟨⟨_, q4⟩, st2.at fun o q => (sb it ne.symm).trans q, ne⟩, fun b hb => ?_⟩
    have lt : b < s.heap.objs.size := by
      rcases (show b = e ∨ b = it by simpa using hb) with rfl | rfl
      · exact la
      · exact lb
    rw [upd_ne (Nat.ne_of_lt lt)]
    exact (fps b hb).1
  done := by
    intro X e1 e2 e3 calm i pins s σ H Ex I fps z gg
    subst e1 e2 e3
    rcases z with ⟨⟨y, q1⟩, q2, ne⟩
    rcases gg with ⟨xs, sq, ex⟩
    obtain ⟨us, rv, tp1, _⟩ := I.tuple sq
    have ai : a ≠ it := fun c => by
      obtain ⟨o, p1, p2, _⟩ := q2
      obtain ⟨o', r1, r2, _⟩ := tp1
      rw [c, p1] at r1
      cases r1
      rw [p2] at r2
      exact absurd r2 (by decide)
    obtain ⟨f0, f1, f2, f3, f4, f5⟩ := fps it (by simp)
    have ln := rv.length
    have D : Draws X.prog X.w X.A.in1 it [it, a] 0 (fun _ _ => False) (fun _ h => h.IsTupleIter it a i ∧ h.IsTuple a us.toArray) := {
      live := fun _ _ st => let ⟨o, ho, _⟩ := st.1; ⟨o, ho⟩
      frame := fun _ _ _ st k => ⟨st.1.at fun o q => k it (by simp) o q, st.2.at fun o q => k a (by simp) o q⟩
      item := fun j _ _ _ lt => absurd lt (Nat.not_lt_zero j)
      done := fun s Q E st k => wpAny_nextOf_tuple_end (I.ok.hd calm) st.1 st.2 (by simp; omega) k }
    exact wpAny_pyNext_enum_endD D q1 ⟨q2, tp1⟩ fun g k => ⟨rfl, I.turned (t' := s.toks) (fun b o nb q => k b o nb q) f0 f1 f3 f4 f5⟩
  self := fun B i s Q Ex z k => wpAny_pyIter_enum z.1.choose_spec k
end Pr

/-! loops and comprehensions over anything that gives n things -/
namespace Pr
open PySem PySem.Spec PyProof.Rows L2
/-- while F holds, J goes through n things, as Y tells -/
structure Gives (J : It) (n : Nat) (F : Hp → Prop) (Y : Nat → V → Hp → Hp → Prop) : Prop where
  go : ∀ i H, i < n → F H → J.go i H
  yld : ∀ i H v H', i < n → F H → J.yld i H v H' → Y i v H H'
  stop : ∀ H, F H → J.stop n H
section
variable {K : PySem.W.Frag} {g : TG} {tb : TS} {D : Ends} {σ : L2.St} {H : Hp} {j k : Nat} {te : TE} {tt : TT} {vs : List Nat} {Q : VK} {J : It} {n : Nat} {F : Hp → Prop} {Y : Nat → V → Hp → Hp → Prop}
theorem loop_gen (G : Gives J n F Y) (Pv : Nat → L2.St → Hp → Prop) (h0 : Pv 0 σ H) (hF : ∀ i σ H, i ≤ n → Pv i σ H → F H)
    (hs : ∀ i v σ H H', i < n → Pv i σ H → Y i v H H' → g v σ H' fun σ2 H2 => tb { D with nx := Pv (i + 1), ct := Pv (i + 1), bk := D.nx } σ2 H2) (hd : ∀ σ H, Pv n σ H → D.nx σ H) : tLoop g tb D σ J H := by
  refine ⟨fun i m σ H => m + i = n ∧ Pv i σ H, ⟨n, rfl, h0⟩, fun i m σ H ⟨e, p⟩ => ?_⟩
  have f := hF i σ H (by omega) p
  rcases m with _ | m
  · have e' : i = n := by omega
    subst e'
    exact .inl ⟨G.stop H f, hd σ H p⟩
  · exact .inr ⟨G.go i H (by omega) f, Pv (i + 1), fun σ' H' p' => ⟨m, Nat.lt_succ_self m, by omega, p'⟩, fun v H' y => hs i v σ H H' (by omega) p (G.yld i H v H' (by omega) f y)⟩
theorem lc_gen (G : Gives J n F Y) (Pv : Addr → Nat → Hp → Prop) (h0 : ∀ A, H A = none → Pv A 0 (upd H A (.lst []))) (hF : ∀ A i H, i ≤ n → Pv A i H → F H)
    (hs : ∀ A i v H1 H', H A = none → i < n → Pv A i H1 → Y i v H1 H' → g v (wipe σ vs) H' fun σ2 H2 => wipe σ2 vs = wipe σ vs ∧ tt σ2 H2 fun b H3 =>
      if b = true then te σ2 H3 fun y H4 => ∃ acc, H4 A = some (.lst acc) ∧ acc.length < sizeLine ∧ Pv A (i + 1) (upd H4 A (.lst (acc ++ [y]))) else Pv A (i + 1) H3)
    (hd : ∀ A H', H A = none → Pv A n H' → Q (.ref A) H') : tLcIn g tt te vs σ Q J H := by
  intro A hA
  refine ⟨fun i m H' => m + i = n ∧ Pv A i H', ⟨n, rfl, h0 A hA⟩, fun i m H1 ⟨e, p⟩ => ?_⟩
  have f := hF A i H1 (by omega) p
  rcases m with _ | m
  · have e' : i = n := by omega
    subst e'
    exact .inl ⟨G.stop H1 f, hd A H1 hA p⟩
  · exact .inr ⟨G.go i H1 (by omega) f, Pv A (i + 1), fun H' p' => ⟨m, Nat.lt_succ_self m, by omega, p'⟩, fun v H' y => hs A i v H1 H' hA (by omega) p (G.yld i H1 v H' (by omega) f y)⟩
/-- a new pair of two things, told by R -/
def PY (R : Nat → V → V → Prop) : Nat → V → Hp → Hp → Prop := fun i v H H' => ∃ t x y, v = .ref t ∧ H t = none ∧ H' = upd H t (.tup [x, y]) ∧ R i x y
theorem gives_en {a : Addr} {xs : List V} : Gives (ItT K a) xs.length (fun H => H a = some (.tup xs)) (PY fun i x y => x = .int (i : Nat) ∧ xs[i]? = some y) where
  go := fun i H lt f => ⟨xs, xs[i], sqT_of f, by simp [lt]⟩
  yld := fun i H v H' lt f y => by
    obtain ⟨t, x, e1, e2, e3, e4⟩ := y
    exact ⟨t, _, x, e1, e2, e3, rfl, e4 xs (sqT_of f)⟩
  stop := fun H f => ⟨xs, sqT_of f, Nat.le_refl _⟩
theorem gives_enL {a : Addr} {xs : List V} : Gives (Ite K a) xs.length (fun H => H a = some (.lst xs)) (PY fun i x y => x = .int (i : Nat) ∧ xs[i]? = some y) where
  go := fun i H lt f => ⟨xs, xs[i], sqL_of f, by simp [lt]⟩
  yld := fun i H v H' lt f y => by
    obtain ⟨t, x, e1, e2, e3, e4⟩ := y
    exact ⟨t, _, x, e1, e2, e3, rfl, e4 xs (sqL_of f)⟩
  stop := fun H f => ⟨xs, sqL_of f, Nat.le_refl _⟩
theorem gives_zipL {a b : Addr} {xs ys : List V} (hl : xs.length = ys.length) : Gives (Itz K a b) xs.length (fun H => H a = some (.lst xs) ∧ H b = some (.lst ys)) (PY fun i x y => xs[i]? = some x ∧ ys[i]? = some y) where
  go := fun i H lt f => ⟨xs, ys, xs[i], ys[i]'(hl ▸ lt), sqL_of f.1, sqL_of f.2, by simp [lt], by simp [hl ▸ lt]⟩
  yld := fun i H v H' lt f y => by
    obtain ⟨t, x, y, e1, e2, e3, e4, e5⟩ := y
    exact ⟨t, x, y, e1, e2, e3, e4 xs (sqL_of f.1), e5 ys (sqL_of f.2)⟩
  stop := fun H f => ⟨xs, ys, sqL_of f.1, sqL_of f.2, .inl (Nat.le_refl _)⟩
theorem gives_zipT {a b : Addr} {xs ys : List V} (hl : xs.length = ys.length) : Gives (RZ.ItzT K a b) xs.length (fun H => H a = some (.tup xs) ∧ H b = some (.tup ys)) (PY fun i x y => xs[i]? = some x ∧ ys[i]? = some y) where
  go := fun i H lt f => ⟨xs, ys, xs[i], ys[i]'(hl ▸ lt), sqT_of f.1, sqT_of f.2, by simp [lt], by simp [hl ▸ lt]⟩
  yld := fun i H v H' lt f y => by
    obtain ⟨t, x, y, e1, e2, e3, e4, e5⟩ := y
    exact ⟨t, x, y, e1, e2, e3, e4 xs (sqT_of f.1), e5 ys (sqT_of f.2)⟩
  stop := fun H f => ⟨xs, ys, sqT_of f.1, sqT_of f.2, .inl (Nat.le_refl _)⟩
theorem pair_in {R : Nat → V → V → Prop} {u v i : Nat} {x : V} {H1 H' : Hp} {QN : L2.St → Hp → Prop} (y : PY R i x H1 H') (k : ∀ t a b, H1 t = none → R i a b → QN ((σ.set u (some a)).set v (some b)) (upd H1 t (.tup [a, b]))) : gTupH 2 (gCons (gName u) (gCons (gName v) gNil)) x σ H' QN := by
  obtain ⟨t, a, b, rfl, nt, rfl, r⟩ := y
  exact ⟨t, rfl, [a, b], upd_same, rfl, a, [b], rfl, b, [], rfl, rfl, k t a b nt r⟩
theorem loop_pair {R : Nat → V → V → Prop} {u v : Nat} (G : Gives J n F (PY R)) (Pv : Nat → L2.St → Hp → Prop) (h0 : Pv 0 σ H) (hF : ∀ i σ H, i ≤ n → Pv i σ H → F H)
    (hs : ∀ i a b t σ H1, i < n → Pv i σ H1 → H1 t = none → R i a b → tb { D with nx := Pv (i + 1), ct := Pv (i + 1), bk := D.nx } ((σ.set u (some a)).set v (some b)) (upd H1 t (.tup [a, b]))) (hd : ∀ σ H, Pv n σ H → D.nx σ H) :
    tLoop (gTupH 2 (gCons (gName u) (gCons (gName v) gNil))) tb D σ J H :=
  loop_gen G Pv h0 hF (fun i x σ H1 H' hi p y => pair_in y fun t a b nt r => hs i a b t σ H1 hi p nt r) hd
/-- a comprehension over pairs that gives ints -/
theorem lc_pairI {R : Nat → V → V → Prop} {u v : Nat} (G : Gives J n F (PY R)) (f : Nat → Int) (hn : n < 1000000) (hF : ∀ H', Same H H' → F H')
    (hw : ∀ x y, wipe (((wipe σ vs).set u (some x)).set v (some y)) vs = wipe σ vs)
    (he : ∀ i a b H', i < n → R i a b → Same H H' → ∀ Q' : VK, (∀ H'', Same H' H'' → Q' (.int (f i)) H'') → te (((wipe σ vs).set u (some a)).set v (some b)) H' Q')
    (hq : ∀ p H', H p = none → Same H H' → H' p = some (LI ((List.range n).map f)) → Q (.ref p) H') :
    tLcIn (gTupH 2 (gCons (gName u) (gCons (gName v) gNil))) tYes te vs σ Q J H := by
  refine lc_gen G (fun A i H' => Same H H' ∧ H' A = some (LI ((List.range i).map f))) (fun A hA => ⟨same_upd hA, upd_same⟩) (fun A i H' _ p => hF H' p.1) (fun A i x H1 H' hA hi p y => ?_) (fun A H' hA p => hq A H' hA p.1 p.2)
  refine pair_in y fun t a b nt r => ⟨hw a b, ?_⟩
  have s1 := same_upd (o := HO.tup [a, b]) nt
  refine he i a b _ hi r (p.1.trans s1) _ fun H2 s2 => ⟨_, s2 _ _ (s1 _ _ p.2), sz (by simp; omega), same_mut ((p.1.trans s1).trans s2) hA, ?_⟩
  rw [upd_same, List.range_succ, List.map_append]
  simp
theorem lc_tupI {a : Addr} {xs : List V} (f : Nat → Int) (hx : H a = some (.tup xs)) (hn : xs.length < 1000000) (hw : ∀ x, wipe ((wipe σ vs).set j (some x)) vs = wipe σ vs)
    (he : ∀ (i : Nat) x H', xs[i]? = some x → Same H H' → ∀ Q' : VK, (∀ H'', Same H' H'' → Q' (.int (f i)) H'') → te ((wipe σ vs).set j (some x)) H' Q')
    (hq : ∀ p H', H p = none → Same H H' → H' p = some (LI ((List.range xs.length).map f)) → Q (.ref p) H') :
    tLcIn (gName j) tYes te vs σ Q (Itt K a) H := by
  refine lc_gen (n := xs.length) (F := fun H' => H' a = some (.tup xs)) (Y := fun i v H H' => H' = H ∧ xs[i]? = some v) ⟨fun i H lt f => ⟨xs, xs[i], sqT_of f, by simp [lt]⟩, fun i H v H' lt f y => ⟨y.1, y.2 xs (sqT_of f)⟩, fun H f => ⟨xs, sqT_of f, Nat.le_refl _⟩⟩
    (fun A i H' => Same H H' ∧ H' A = some (LI ((List.range i).map f))) (fun A hA => ⟨same_upd hA, upd_same⟩) (fun A i H' _ p => p.1 _ _ hx) (fun A i x H1 H' hA hi p y => ?_) (fun A H' hA p => hq A H' hA p.1 p.2)
  obtain ⟨rfl, y⟩ := y
  refine ⟨hw _, he i x _ y p.1 _ fun H2 s2 => ⟨_, s2 _ _ p.2, sz (by simp; omega), same_mut (p.1.trans s2) hA, ?_⟩⟩
  rw [upd_same, List.range_succ, List.map_append]
  simp
/-- the made list, told another way -/
theorem range_map {f : Nat → Int} {ns : List Int} (h : ∀ i n, ns[i]? = some n → f i = n) : (List.range ns.length).map f = ns := by
  refine List.ext_getElem? fun i => ?_
  rw [List.getElem?_map]
  by_cases hi : i < ns.length
  · rw [List.getElem?_range hi, List.getElem?_eq_getElem hi]
    exact congrArg some (h i _ (List.getElem?_eq_getElem hi))
  · rw [List.getElem?_eq_none (by simpa using hi), List.getElem?_eq_none (by omega)]
    rfl
theorem gives_list {a : Addr} {xs : List V} : Gives (Itl K a) xs.length (fun H => H a = some (.lst xs)) (fun i v H H' => H' = H ∧ xs[i]? = some v) where
  go := fun i H lt f => ⟨xs, xs[i], sqL_of f, by simp [lt]⟩
  yld := fun i H v H' lt f y => ⟨y.1, y.2 xs (sqL_of f)⟩
  stop := fun H f => ⟨xs, sqL_of f, Nat.le_refl _⟩
theorem gives_tup {a : Addr} {xs : List V} : Gives (Itt K a) xs.length (fun H => H a = some (.tup xs)) (fun i v H H' => H' = H ∧ xs[i]? = some v) where
  go := fun i H lt f => ⟨xs, xs[i], sqT_of f, by simp [lt]⟩
  yld := fun i H v H' lt f y => ⟨y.1, y.2 xs (sqT_of f)⟩
  stop := fun H f => ⟨xs, sqT_of f, Nat.le_refl _⟩
end
section
variable {X : Cx}
def iEnT (K : PySem.W.Frag) (ta : TA) : L2.TI := fun σ H R => ta σ H fun vs H1 => ∃ a xs, vs = [.ref a] ∧ SqT K H1 a xs ∧ R (ItT K a) H1
theorem pi_enT {e : Expr} {ta : TA} {p pos tpos : Pos} {elts : List Expr} {kk : Nat} (hg : Gl X "enumerate") (hm : X.mg "enumerate" = none) (ha : PA X [e] ta) (hs : starEach [e] X.env = [(false, eval e X.env)] := by rfl) :
    PI X (.Tuple elts kk tpos) (.Call (.Name "enumerate" p) [e] [] pos) (iEnT X.K ta) := by
  constructor
  intro pins s σ H R I h
  refine Call_ (ld_blt I hg hm boot_enumerate (PyProof.Rows.callWith_type1 (thn (ha.run pos pins s σ H _ I h) fun us z ⟨ws, H1, I1, rel, q⟩ => ?_) hs rfl))
  rcases q with ⟨a, xs, ex, sq, k⟩
  subst ex
  rcases rel with _ | ⟨r, rr⟩
  cases rr
  cases r
  obtain ⟨its, -, tp, -⟩ := I1.tuple sq
  refine en_call (begins_tuple a its.toArray) tp fun g e1 e2 e3 e4 => wpAny_pyIter_enum e1 ?_
  have I2 : Inv X pins σ H1 { z with heap := g } := I1.kept (t' := z.toks) e4
  refine ⟨z.heap.objs.size + 1, [z.heap.objs.size + 1, z.heap.objs.size], _, _, H1, rfl, I2, turn_en a _ z.heap.objs.size, ⟨⟨.none, e1⟩, ⟨_, e2, rfl, rfl⟩, Nat.succ_ne_self _⟩, fun b hb => ?_, k⟩
  have le : z.heap.objs.size ≤ b := by
    rcases (show b = z.heap.objs.size + 1 ∨ b = z.heap.objs.size by simpa using hb) with rfl | rfl
    · exact Nat.le_succ _
    · exact Nat.le_refl _
  exact I1.fpOk le (I1.hok.fresh le)
theorem ap_iEnT {K : PySem.W.Frag} {ta : TA} {σ : L2.St} {H : Hp} {R : It → Hp → Prop} : iEnT K ta σ H R = ta σ H fun vs H1 => ∃ a xs, vs = [.ref a] ∧ SqT K H1 a xs ∧ R (ItT K a) H1 := rfl
theorem ap_iEnL {K : PySem.W.Frag} {ta : TA} {σ : L2.St} {H : Hp} {R : It → Hp → Prop} : iEnum K ta σ H R = ta σ H fun vs H1 => ∃ a xs, vs = [.ref a] ∧ SqL K H1 a xs ∧ R (Ite K a) H1 := rfl
theorem ap_iZipA {K : PySem.W.Frag} {ta : TA} {σ : L2.St} {H : Hp} {R : It → Hp → Prop} : RZ.iZipA K ta σ H R = ta σ H fun vs H1 => ∃ a b xs ys, vs = [.ref a, .ref b] ∧ ((SqL K H1 a xs ∧ SqL K H1 b ys ∧ R (Itz K a b) H1) ∨ (SqT K H1 a xs ∧ SqT K H1 b ys ∧ R (RZ.ItzT K a b) H1)) := rfl
theorem ap_all {K : PySem.W.Frag} {vs : List V} {H : Hp} {Q : VK} : rAll K vs H Q = ∃ (a : Addr) (bs : List Bool), vs = [V.ref a] ∧ SqL K H a (bs.map V.bl) ∧ Q (.bl (bs.all id)) H := rfl
end
section
variable {K : PySem.W.Frag} {g : TG} {D : Ends} {σ : L2.St} {H : Hp} {j : Nat} {te : TE} {vs : List Nat} {Q : VK} {tt : TT}
theorem lc_no {a : Addr} {xs : List V} (hx : H a = some (.lst xs)) (hw : ∀ x, wipe ((wipe σ vs).set j (some x)) vs = wipe σ vs)
    (ht : ∀ (i : Nat) x H', xs[i]? = some x → Same H H' → ∀ Q' : Bool → Hp → Prop, Q' false H' → tt ((wipe σ vs).set j (some x)) H' Q')
    (hq : ∀ p H', H p = none → Same H H' → H' p = some (.lst []) → Q (.ref p) H') :
    tLcIn (gName j) tt te vs σ Q (Itl K a) H := fun Dl hD => by
  refine lc_list (g := gName j) (xs := xs) (fun i H' => Same H H' ∧ H' Dl = some (.lst [])) ⟨same_upd hD, upd_same⟩ (fun i H' hi hP => sqL_of (hP.1 _ _ hx)) (fun i x H' hi hP => ?_) (fun H' hP => hq Dl H' hD hP.1 hP.2)
  obtain ⟨sm, ed⟩ := hP
  exact ⟨hw _, ht i x H' hi sm _ ⟨sm, ed⟩⟩
theorem lc_tupV {a : Addr} {xs : List V} (f : Nat → V) (hx : H a = some (.tup xs)) (hn : xs.length < 1000000) (hw : ∀ x, wipe ((wipe σ vs).set j (some x)) vs = wipe σ vs)
    (he : ∀ (i : Nat) x H', xs[i]? = some x → Same H H' → ∀ Q' : VK, (∀ H'', Same H' H'' → Q' (f i) H'') → te ((wipe σ vs).set j (some x)) H' Q')
    (hq : ∀ p H', H p = none → Same H H' → H' p = some (.lst ((List.range xs.length).map f)) → Q (.ref p) H') :
    tLcIn (gName j) tYes te vs σ Q (Itt K a) H := fun Dl hD => by
  refine lc_tup (g := gName j) (xs := xs) (fun i H' => Same H H' ∧ H' Dl = some (.lst ((List.range i).map f))) ⟨same_upd hD, ?_⟩ (fun i H' hi hP => sqT_of (hP.1 _ _ hx)) (fun i x H' hi hP => ?_) (fun H' hP => hq Dl H' hD hP.1 hP.2)
  · rw [upd_same]
    rfl
  · obtain ⟨sm, ed⟩ := hP
    have hl := (List.getElem?_eq_some_iff.mp hi).1
    refine ⟨hw _, he i x H' hi sm _ fun H'' sm' => ⟨_, sm' _ _ ed, sz (by simp; omega), same_mut (sm.trans sm') hD, ?_⟩⟩
    rw [upd_same, List.range_succ, List.map_append]
    simp
end
section
variable {X : Cx}
/-- tuple(t) of a tuple -/
def rTupT : List V → Hp → VK → Prop := fun vs H Q => ∃ p, vs = [.ref p] ∧ ∃ xs, H p = some (.tup xs) ∧ Q (.ref p) H
theorem cr_tupT : CallR X (.type "tuple") rTupT := callImp call_tupleT fun vs H Q ⟨p, e, xs, h, q⟩ => ⟨p, xs, e, sqT_of h, q⟩
theorem ap_tupT {vs : List V} {H : Hp} {Q : VK} : rTupT vs H Q = ∃ p, vs = [.ref p] ∧ ∃ xs, H p = some (.tup xs) ∧ Q (.ref p) H := rfl
end
end Pr

/-! shifts, masks, bit lengths, comb, ranges with a step above 0 -/
namespace Pr
open PySem PySem.Spec PyProof.Rows L2
section
variable {X : Cx}
def rShl : R2 := fun x y H Q => ∃ (i : Int) (k : Nat), x = .int i ∧ y = .int (k : Int) ∧ CShl i (k : Int) ∧ Q (.int (i * 2 ^ k)) H
def rShr : R2 := fun x y H Q => ∃ (i : Int) (k : Nat), x = .int i ∧ y = .int (k : Int) ∧ Q (.int (i / 2 ^ k)) H
def rMask : R2 := fun x y H Q => ∃ (i : Int) (k : Nat), x = .int i ∧ y = .int (2 ^ k - 1) ∧ Q (.int (i % 2 ^ k)) H
theorem op_shlK : OpR X (binaryOp .LShift) rShl := op_shlN
theorem op_shrK : OpR X (binaryOp .RShift) rShr := op_shrN
theorem op_maskK : OpR X (binaryOp .BitAnd) rMask := op_andM
def rComb : List V → Hp → VK → Prop := fun vs H Q => ∃ i j, vs = [.int i, .int j] ∧ 0 ≤ i ∧ 0 ≤ j ∧ i < 2 ^ 60 ∧ j ≤ 9000 ∧ Q (.int (PySem.W.mcComb i j)) H
theorem cr_comb : CallR X (.builtin "math.comb") rComb := by
  intro pins s σ H vs us Q I r h
  obtain ⟨i, j, rfl, h0, h1, h2, h3, q⟩ := h
  obtain ⟨u, w', rfl, ⟨t, rfl⟩, ⟨t', rfl⟩⟩ := vals2 r
  exact PySem.call_function_meets PySem.W.MGF.kind_comb PySem.W.MGF.plain_comb PySem.W.MGF.entry_comb (PySem.W.MGF.args_comb _ _) (PySem.W.mc_gives_comb t t' h0 h1 (by omega) (.inl h3)).meets ⟨.int _, H, I.tok _, ⟨_, rfl⟩, q⟩
end
section
variable {σ : L2.St} {H : Hp} {Q : VK} {x y : V} {R : It → Hp → Prop}
theorem ap_shl : rShl x y H Q = ∃ (i : Int) (k : Nat), x = .int i ∧ y = .int (k : Int) ∧ CShl i (k : Int) ∧ Q (.int (i * 2 ^ k)) H := rfl
theorem ap_shr : rShr x y H Q = ∃ (i : Int) (k : Nat), x = .int i ∧ y = .int (k : Int) ∧ Q (.int (i / 2 ^ k)) H := rfl
theorem ap_mask : rMask x y H Q = ∃ (i : Int) (k : Nat), x = .int i ∧ y = .int (2 ^ k - 1) ∧ Q (.int (i % 2 ^ k)) H := rfl
theorem ap_comb {vs : List V} : rComb vs H Q = ∃ i j, vs = [.int i, .int j] ∧ 0 ≤ i ∧ 0 ≤ j ∧ i < 2 ^ 60 ∧ j ≤ 9000 ∧ Q (.int (PySem.W.mcComb i j)) H := rfl
theorem ap_bits {to : TE} : tBits to σ H Q = to σ H fun x H1 => ∃ i, x = .int i ∧ Q (.int (Builtin.Int.intBits i : Nat)) H1 := rfl
theorem ap_rng3 {ta : TA} : iRng3 ta σ H R = ta σ H fun vs H1 => ∃ (i j c : Int) (n : Nat), vs = [.int i, .int j, .int c] ∧ RgC i j c n ∧ R (Itc i c n) H1 := rfl
theorem loop_rangeC {lo c : Int} {n j : Nat} {tb : TS} {D : Ends} (Pv : Nat → L2.St → Hp → Prop) (h0 : Pv 0 σ H)
    (hs : ∀ (i : Nat) σ H, i < n → Pv i σ H → tb { D with nx := Pv (i + 1), ct := Pv (i + 1), bk := D.nx } (σ.set j (some (.int (lo + i * c)))) H) (hd : ∀ σ H, Pv n σ H → D.nx σ H) :
    tLoop (gName j) tb D σ (Itc lo c n) H := for_rangeC (g := gName j) Pv h0 hs hd
end
theorem rgc_up {i j c : Int} {n : Nat} (hc : 0 < c) (hc2 : c < 1073741824) (hi : -(2 ^ 61) ≤ i) (hi2 : i < 2 ^ 61) (hj : -(2 ^ 61) ≤ j) (hj2 : j < 2 ^ 61) (hn : (n : Int) = if i < j then (j - i - 1) / c + 1 else 0) : RgC i j c n := by
  have hs : Builtin.Range.rangeSize i j c = (n : Int) := by
    unfold Builtin.Range.rangeSize
    rw [if_pos hc, hn]
  refine ⟨by omega, by omega, ?_, hs⟩
  have hle : ∀ x : Int, 0 ≤ x → x / c ≤ x := fun x h => Int.ediv_le_self c h
  have hm : ∀ x : Int, 0 ≤ x → x / c * c ≤ x := fun x _ => Int.ediv_mul_le x (by omega)
  have hle' := hle (j - i - 1)
  have hm' := hm (j - i - 1)
  unfold Builtin.Range.small
  rw [hs, hn]
  simp only [Builtin.Range.rangeFitsLong, Bool.and_eq_true, Bool.or_eq_true, decide_eq_true_eq, beq_iff_eq, show c > 0 from hc, if_true]
  split
  · generalize (j - i - 1) / c = q at *
    have e : (q + 1) * c = q * c + c := by rw [Int.add_mul, Int.one_mul]
    generalize q * c = z at *
    omega
  · omega
/-- products that go down, and lots -/
theorem fp_shift (n : Int) : ∀ k : Nat, Builtin.Math.fallingProduct n (k + 1) = n * Builtin.Math.fallingProduct (n - 1) k
  | 0 => by rw [PySem.W.mc_fp_succ, PySem.W.mc_fp_zero, PySem.W.mc_fp_zero]; omega
  | k + 1 => by
    rw [PySem.W.mc_fp_succ, fp_shift n k, PySem.W.mc_fp_succ (n - 1) k, Int.mul_assoc]
    have : n - ((k + 1 : Nat) : Int) = n - 1 - k := by omega
    rw [this]
end Pr

namespace M26
/-- boxes of the weight w in d parts up to m, by one part more -/
def cnt : Nat → Nat → Int → Int
  | 0, _, w => if w = 0 then 1 else 0
  | _ + 1, 0, w => if w = 0 then 1 else 0
  | d + 1, m + 1, w => cnt d (m + 1) w + cnt (d + 1) m (w - (d + 1))
theorem c0 (m : Nat) (w : Int) : cnt 0 m w = if w = 0 then 1 else 0 := by unfold cnt; rfl
theorem cm0 (d : Nat) (w : Int) : cnt d 0 w = if w = 0 then 1 else 0 := by
  cases d with
  | zero => exact c0 0 w
  | succ d => unfold cnt; rfl
theorem cs (d m : Nat) (w : Int) : cnt (d + 1) (m + 1) w = cnt d (m + 1) w + cnt (d + 1) m (w - (d + 1)) := by
  conv => lhs; unfold cnt
theorem ab : ∀ (n d m : Nat), d + m ≤ n →
    (∀ w : Int, cnt (d + 1) m w - cnt (d + 1) m (w - (d + 1)) = cnt d m w - cnt d m (w - (m + d + 1))) ∧
    (∀ w : Int, cnt d (m + 1) w - cnt d (m + 1) (w - (m + 1)) = cnt d m w - cnt d m (w - (m + 1 + d)))
  | 0, d, m, h => by
    obtain rfl : d = 0 := by omega
    obtain rfl : m = 0 := by omega
    constructor
    · intro w
      simp only [cm0, c0]
      omega
    · intro w
      simp only [cm0, c0]
      omega
  | n + 1, d, m, h => by
    have hA : ∀ w : Int, cnt (d + 1) m w - cnt (d + 1) m (w - (d + 1)) = cnt d m w - cnt d m (w - (m + d + 1)) := by
      intro w
      cases m with
      | zero =>
        simp only [cm0]
        omega
      | succ m =>
        have a1 := (ab n d m (by omega)).1 (w - (d + 1))
        have b1 := (ab n d m (by omega)).2 w
        have e1 := cs d m w
        have e2 := cs d m (w - (d + 1))
        have b2 := (ab n d m (by omega)).2 (w - (d + 1))
        have q2 : w - (↑(m + 1) + (d : Int) + 1) = w - (d + 1) - (m + 1) := by omega
        have q3 : w - (d + 1 : Int) - (m + d + 1) = w - (d + 1) - (m + 1 + d) := by omega
        rw [q2]
        rw [q3] at a1
        omega
    have hB : ∀ w : Int, cnt d (m + 1) w - cnt d (m + 1) (w - (m + 1)) = cnt d m w - cnt d m (w - (m + 1 + d)) := by
      intro w
      cases d with
      | zero =>
        simp only [c0]
        omega
      | succ d =>
        have b1 := (ab n d m (by omega)).2 w
        have a1 := (ab n d m (by omega)).1 w
        have e1 := cs d m w
        have e2 := cs d m (w - (m + 1))
        have a2 := (ab n d m (by omega)).1 (w - (m + 1))
        have q1 : w - ((m : Int) + 1) - (d + 1) = w - (m + 1 + (d + 1 : Nat)) := by omega
        have q2 : w - ((m : Int) + d + 1) = w - (m + 1 + d) := by omega
        rw [q1] at e2
        rw [q2] at a1
        omega
    exact ⟨hA, hB⟩
theorem ruleA (d m : Nat) (w : Int) : cnt (d + 1) m w - cnt (d + 1) m (w - (d + 1)) = cnt d m w - cnt d m (w - (m + d + 1)) := (ab _ d m (Nat.le_refl _)).1 w
theorem ruleB (d m : Nat) (w : Int) : cnt d (m + 1) w - cnt d (m + 1) (w - (m + 1)) = cnt d m w - cnt d m (w - (m + 1 + d)) := (ab _ d m (Nat.le_refl _)).2 w
/-- the other way one part more -/
theorem ruleC (d m : Nat) (w : Int) : cnt (d + 1) (m + 1) w = cnt (d + 1) m w + cnt d (m + 1) (w - (m + 1)) := by
  have e1 := cs d m w
  have b := ruleB d m w
  have a := ruleA d m w
  have q2 : w - ((m : Int) + d + 1) = w - (m + 1 + d) := by omega
  rw [q2] at a
  omega
theorem sym : ∀ (n d m : Nat) (w : Int), d + m ≤ n → cnt d m w = cnt m d w
  | n, 0, m, w, _ => by rw [c0, cm0]
  | n, d, 0, w, _ => by rw [c0, cm0]
  | 0, d + 1, m + 1, w, h => by omega
  | n + 1, d + 1, m + 1, w, h => by
    rw [cs m d w, ruleC d m w, sym n (d + 1) m w (by omega), sym n d (m + 1) _ (by omega)]
theorem swap (d m : Nat) (w : Int) : cnt d m w = cnt m d w := sym _ d m w (Nat.le_refl _)
theorem neg : ∀ (d m : Nat) (w : Int), w < 0 → cnt d m w = 0
  | 0, m, w, h => by rw [c0, if_neg (by omega)]
  | d + 1, 0, w, h => by rw [cm0, if_neg (by omega)]
  | d + 1, m + 1, w, h => by rw [cs, neg d (m + 1) w h, neg (d + 1) m _ (by omega)]; rfl
theorem pal : ∀ (d m : Nat) (w : Int), cnt d m ((d * m : Nat) - w) = cnt d m w
  | 0, m, w => by
    rw [c0, c0]
    simp
  | d + 1, 0, w => by
    rw [cm0, cm0]
    simp
  | d + 1, m + 1, w => by
    rw [cs d m (((d + 1) * (m + 1) : Nat) - w), ruleC d m w]
    have h1 := pal d (m + 1) (w - (m + 1))
    have h2 := pal (d + 1) m w
    have q1 : (((d + 1) * (m + 1) : Nat) : Int) - w = ((d * (m + 1) : Nat) : Int) - (w - (m + 1)) := by
      have : ((d + 1) * (m + 1) : Nat) = d * (m + 1) + (m + 1) := Nat.succ_mul d (m + 1)
      omega
    have q2 : (((d + 1) * (m + 1) : Nat) : Int) - w - (d + 1) = (((d + 1) * m : Nat) : Int) - w := by
      have : ((d + 1) * (m + 1) : Nat) = (d + 1) * m + (d + 1) := Nat.mul_succ (d + 1) m
      omega
    rw [q2, h2, q1, h1]
    omega
theorem high (d m : Nat) (w : Int) (h : ((d * m : Nat) : Int) < w) : cnt d m w = 0 := by
  rw [← pal d m w]
  exact neg d m _ (by omega)
theorem nonneg : ∀ (d m : Nat) (w : Int), 0 ≤ cnt d m w
  | 0, m, w => by rw [c0]; split <;> omega
  | d + 1, 0, w => by rw [cm0]; split <;> omega
  | d + 1, m + 1, w => by
    rw [cs]
    have := nonneg d (m + 1) w
    have := nonneg (d + 1) m (w - (d + 1))
    omega
/-- the row of all counts -/
def crow (d m : Nat) : List Int := (List.range (d * m + 1)).map fun w : Nat => cnt d m w
theorem crow_len (d m : Nat) : (crow d m).length = d * m + 1 := by simp [crow]
end M26
namespace M26
/-- just j parts, each up to v -/
def ex (v j : Nat) (x : Int) : Int := match v with
  | 0 => if j = 0 ∧ x = 0 then 1 else 0
  | v + 1 => cnt j v (x - j)
theorem ex_step (v j : Nat) (x : Int) : ex (v + 1) (j + 1) x = ex v (j + 1) x + ex (v + 1) j (x - (v + 1)) := by
  cases v with
  | zero =>
    show cnt (j + 1) 0 (x - (j + 1 : Nat)) = (if j + 1 = 0 ∧ x = 0 then 1 else 0) + cnt j 0 (x - ((0 : Nat) + 1) - j)
    rw [if_neg (by omega), cm0, cm0]
    have : (x - (j + 1 : Nat) = 0) ↔ (x - ((0 : Nat) + 1) - j = 0) := by omega
    simp only [this]
    omega
  | succ u =>
    show cnt (j + 1) (u + 1) (x - (j + 1 : Nat)) = cnt (j + 1) u (x - (j + 1 : Nat)) + cnt j (u + 1) (x - ((u + 1 : Nat) + 1) - j)
    have h := ruleC j u (x - (j + 1 : Nat))
    have q : x - (j + 1 : Nat) - (u + 1 : Int) = x - ((u + 1 : Nat) + 1) - j := by omega
    rw [q] at h
    exact h
theorem ex_low (v j : Nat) (x : Int) (h : x < v + 1) : ex (v + 1) j x = ex v j x := by
  cases j with
  | zero =>
    cases v with
    | zero =>
      show cnt 0 0 (x - (0 : Nat)) = if 0 = 0 ∧ x = 0 then 1 else 0
      rw [c0]
      simp
    | succ v =>
      show cnt 0 (v + 1) (x - (0 : Nat)) = cnt 0 v (x - (0 : Nat))
      rw [c0, c0]
  | succ j =>
    rw [ex_step]
    have : ex (v + 1) j (x - (v + 1)) = 0 := by
      show cnt j v (x - (v + 1) - j) = 0
      exact neg j v _ (by omega)
    omega
theorem ex_zero (v : Nat) (x : Int) : ex v 0 x = if x = 0 then 1 else 0 := by
  cases v with
  | zero =>
    show (if 0 = 0 ∧ x = 0 then (1 : Int) else 0) = _
    simp
  | succ v =>
    show cnt 0 v (x - (0 : Nat)) = _
    rw [c0]
    simp
def sumTo (f : Nat → Int) : Nat → Int
  | 0 => 0
  | n + 1 => sumTo f n + f n
theorem sum_range (f : Nat → Int) (n : Nat) : ((List.range n).map f).sum = sumTo f n := by
  induction n with
  | zero => rfl
  | succ n ih =>
    rw [List.range_succ, List.map_append, List.sum_append, ih]
    simp [sumTo]
theorem sum_ex (d m : Nat) (x : Int) : sumTo (fun j => ex m j x) (d + 1) = cnt d m x := by
  induction d with
  | zero =>
    show 0 + ex m 0 x = cnt 0 m x
    rw [ex_zero, c0]
    omega
  | succ d ih =>
    show sumTo (fun j => ex m j x) (d + 1) + ex m (d + 1) x = _
    rw [ih]
    cases m with
    | zero =>
      show cnt d 0 x + (if d + 1 = 0 ∧ x = 0 then 1 else 0) = _
      rw [if_neg (by omega), cm0, cm0]
      omega
    | succ v =>
      show cnt d (v + 1) x + cnt (d + 1) v (x - (d + 1 : Nat)) = _
      rw [cs]
      have q : x - (d + 1 : Nat) = x - (d + 1 : Int) := by omega
      rw [q]
/-- lots of d things among d + m -/
def bn : Nat → Nat → Int
  | 0, _ => 1
  | _ + 1, 0 => 1
  | k + 1, j + 1 => bn k (j + 1) + bn (k + 1) j
theorem b0 (j : Nat) : bn 0 j = 1 := by unfold bn; rfl
theorem bj0 (k : Nat) : bn k 0 = 1 := by
  cases k with
  | zero => exact b0 0
  | succ k => unfold bn; rfl
theorem bs (k j : Nat) : bn (k + 1) (j + 1) = bn k (j + 1) + bn (k + 1) j := by
  conv => lhs; unfold bn
theorem bn_step : ∀ (n k j : Nat), k + j ≤ n → bn k (j + 1) * (j + 1) = (k + 1) * bn (k + 1) j
  | 0, k, j, h => by
    obtain rfl : k = 0 := by omega
    obtain rfl : j = 0 := by omega
    rw [b0, bj0]
    rfl
  | n + 1, k, j, h => by
    cases k with
    | zero =>
      rw [b0]
      cases j with
      | zero =>
        rw [bj0]
        rfl
      | succ j =>
        have h1 := bn_step n 0 j (by omega)
        rw [b0] at h1
        rw [bs, b0]
        have e : ((0 : Nat) : Int) = 0 := rfl
        rw [e] at h1 ⊢
        grind
    | succ k =>
      cases j with
      | zero =>
        have h1 := bn_step n k 0 (by omega)
        rw [bs, bj0, bj0]
        rw [bj0] at h1
        grind
      | succ j =>
        have h1 := bn_step n k (j + 1) (by omega)
        have h2 := bn_step n (k + 1) j (by omega)
        rw [bs k (j + 1), bs (k + 1) j]
        have e1 : ((k + 1 : Nat) : Int) = k + 1 := by omega
        have e2 : ((j + 1 : Nat) : Int) = j + 1 := by omega
        simp only [e1, e2] at h1 h2 ⊢
        have h3 := bs k j
        grind
theorem bn_div (k j : Nat) : bn k (j + 1) * (j + 1) / (k + 1) = bn (k + 1) j := by
  rw [bn_step _ k j (Nat.le_refl _)]
  exact Int.mul_ediv_cancel_left _ (by omega)
theorem bn_pos : ∀ (k j : Nat), 0 ≤ bn k j
  | 0, j => by rw [b0]; omega
  | k + 1, 0 => by rw [bj0]; omega
  | k + 1, j + 1 => by
    rw [bs]
    have := bn_pos k (j + 1)
    have := bn_pos (k + 1) j
    omega
theorem sumTo_add (f g : Nat → Int) (n : Nat) : sumTo (fun i => f i + g i) n = sumTo f n + sumTo g n := by
  induction n with
  | zero => rfl
  | succ n ih =>
    show sumTo (fun i => f i + g i) n + (f n + g n) = (sumTo f n + f n) + (sumTo g n + g n)
    omega
theorem sumTo_congr {f g : Nat → Int} {n : Nat} (h : ∀ i, i < n → f i = g i) : sumTo f n = sumTo g n := by
  induction n with
  | zero => rfl
  | succ n ih =>
    show sumTo f n + f n = sumTo g n + g n
    rw [ih fun i hi => h i (by omega), h n (by omega)]
theorem sumTo_zeros (f : Nat → Int) (a : Nat) : ∀ b : Nat, (∀ i, a ≤ i → f i = 0) → sumTo f (a + b) = sumTo f a
  | 0, _ => rfl
  | b + 1, h => by
    show sumTo f (a + b) + f (a + b) = _
    rw [sumTo_zeros f a b h, h (a + b) (by omega)]
    omega
theorem sumTo_shift (g : Int → Int) (k : Nat) (h : ∀ x : Int, x < 0 → g x = 0) : ∀ n : Nat, sumTo (fun i => g (i - k)) (k + n) = sumTo (fun i => g i) n
  | 0 => by
    show sumTo (fun i => g (i - k)) k = 0
    have e : ∀ j, j ≤ k → sumTo (fun i => g (i - k)) j = 0 := fun j => by
      induction j with
      | zero => intro _; rfl
      | succ j ih =>
        intro hj
        show sumTo (fun i => g (i - k)) j + g (j - k) = 0
        rw [ih (by omega), h _ (by omega)]
        rfl
    exact e k (Nat.le_refl k)
  | n + 1 => by
    show sumTo (fun i => g (i - k)) (k + n) + g ((k + n : Nat) - k) = sumTo (fun i => g i) n + g n
    rw [sumTo_shift g k h n]
    have : ((k + n : Nat) : Int) - k = n := by omega
    rw [this]
/-- all counts together, as far as one likes -/
theorem total : ∀ (d m : Nat) (b : Nat), sumTo (fun i => cnt d m i) (d * m + 1 + b) = bn d m
  | 0, m, b => by
    rw [sumTo_zeros _ _ b fun i hi => high 0 m i (by omega), Nat.zero_mul, b0]
    show 0 + cnt 0 m (0 : Nat) = 1
    rw [c0]
    rfl
  | d + 1, 0, b => by
    rw [sumTo_zeros _ _ b fun i hi => high (d + 1) 0 i (by omega), Nat.mul_zero, bj0]
    show 0 + cnt (d + 1) 0 (0 : Nat) = 1
    rw [cm0]
    rfl
  | d + 1, m + 1, b => by
    have e : (fun i : Nat => cnt (d + 1) (m + 1) i) = fun i : Nat => cnt d (m + 1) i + (fun x : Int => cnt (d + 1) m x) (i - (d + 1 : Nat)) := by
      funext i
      rw [cs]
      have q : (i : Int) - (d + 1 : Nat) = i - (d + 1 : Int) := by omega
      rw [q]
    rw [e, sumTo_add, bs]
    have m1 : (d + 1) * (m + 1) = d * (m + 1) + (m + 1) := Nat.succ_mul d (m + 1)
    have m2 : (d + 1) * (m + 1) = (d + 1) * m + (d + 1) := Nat.mul_succ (d + 1) m
    have t1 := total d (m + 1) (m + 1 + b)
    have t2 := total (d + 1) m b
    have q1 : (d + 1) * (m + 1) + 1 + b = d * (m + 1) + 1 + (m + 1 + b) := by omega
    have q2 : (d + 1) * (m + 1) + 1 + b = (d + 1) + ((d + 1) * m + 1 + b) := by omega
    have t3 := sumTo_shift (fun x : Int => cnt (d + 1) m x) (d + 1) (fun x h => neg (d + 1) m x h) ((d + 1) * m + 1 + b)
    rw [← q2] at t3
    rw [t3, t2, q1, t1]
theorem crow_sum (d m : Nat) : (crow d m).sum = bn d m := by
  unfold crow
  rw [sum_range]
  exact total d m 0
theorem crow_rev (d m : Nat) : (crow d m).reverse = crow d m := by
  unfold crow
  apply List.ext_getElem
  · simp
  · intro i h1 h2
    have h3 : i < d * m + 1 := by simpa using h2
    rw [List.getElem_reverse, List.getElem_map, List.getElem_map, List.getElem_range, List.getElem_range]
    have q : ((List.map (fun w : Nat => cnt d m w) (List.range (d * m + 1))).length - 1 - i : Nat) = d * m - i := by simp
    rw [q, ← pal d m i]
    congr 1
    omega
theorem crow_swap (d m : Nat) : crow m d = crow d m := by
  unfold crow
  rw [Nat.mul_comm m d]
  apply List.map_congr_left
  intro i _
  exact swap m d i
end M26

namespace M26
/-! many counts in one integer -/
def V (B : Int) (c : Int → Int) : Nat → Int
  | 0 => 0
  | n + 1 => V B c n * B + c n
theorem v0 (B : Int) (c : Int → Int) : V B c 0 = 0 := rfl
theorem vs (B : Int) (c : Int → Int) (n : Nat) : V B c (n + 1) = V B c n * B + c n := rfl
theorem v_ext {B : Int} {c e : Int → Int} : ∀ {n : Nat}, (∀ i : Nat, i < n → c i = e i) → V B c n = V B e n
  | 0, _ => rfl
  | n + 1, h => by rw [vs, vs, v_ext fun i hi => h i (by omega), h n (by omega)]
theorem v_add (B : Int) (c e : Int → Int) : ∀ n : Nat, V B c n + V B e n = V B (fun x => c x + e x) n
  | 0 => rfl
  | n + 1 => by
    rw [vs, vs, vs, ← v_add B c e n, Int.add_mul]
    omega
theorem v_sub (B : Int) (c e : Int → Int) : ∀ n : Nat, V B c n - V B e n = V B (fun x => c x - e x) n
  | 0 => rfl
  | n + 1 => by
    rw [vs, vs, vs, ← v_sub B c e n, Int.sub_mul]
    omega
theorem v_zeros {B : Int} {c : Int → Int} : ∀ {n : Nat}, (∀ i : Nat, i < n → c i = 0) → V B c n = 0
  | 0, _ => rfl
  | n + 1, h => by rw [vs, v_zeros fun i hi => h i (by omega), h n (by omega), Int.zero_mul]; rfl
theorem v_shift {B : Int} {c : Int → Int} (hc : ∀ x : Int, x < 0 → c x = 0) (s : Nat) : ∀ n : Nat, V B c (n - s) = V B (fun x => c (x - s)) n
  | 0 => by rw [Nat.zero_sub]; rfl
  | n + 1 => by
    by_cases h : s ≤ n
    · have e : n + 1 - s = (n - s) + 1 := by omega
      rw [e, vs, vs, v_shift hc s n]
      have q : (n : Int) - s = ((n - s : Nat) : Int) := by omega
      rw [q]
    · have e : n + 1 - s = 0 := by omega
      rw [e, v0]
      exact (v_zeros (n := n + 1) fun i hi => hc ((i : Int) - s) (by omega)).symm
theorem v_grow {B : Int} {c : Int → Int} (n : Nat) : ∀ k : Nat, (∀ i : Nat, n ≤ i → i < n + k → c i = 0) → V B c (n + k) = V B c n * B ^ k
  | 0, _ => by rw [Int.pow_zero, Int.mul_one]; rfl
  | k + 1, h => by
    show V B c (n + k) * B + c ((n + k : Nat) : Int) = _
    rw [v_grow n k fun i h1 h2 => h i h1 (by omega), h (n + k) (by omega) (by omega), Int.pow_succ, Int.add_zero, Int.mul_assoc]
/-- each count has its room -/
def Fits (B : Int) (c : Int → Int) (n : Nat) : Prop := ∀ i : Nat, i < n → 0 ≤ c i ∧ c i < B
theorem Fits.less {B : Int} {c : Int → Int} {n k : Nat} (h : Fits B c n) (hk : k ≤ n) : Fits B c k := fun i hi => h i (by omega)
theorem v_low {B : Int} {c : Int → Int} {n : Nat} (h : Fits B c (n + 1)) : V B c (n + 1) % B = c n := by
  have := h n (by omega)
  rw [vs, Int.add_comm, Int.add_mul_emod_self_right]
  exact Int.emod_eq_of_lt this.1 this.2
theorem v_next {B : Int} {c : Int → Int} {n : Nat} (h : Fits B c (n + 1)) : V B c (n + 1) / B = V B c n := by
  have := h n (by omega)
  rw [vs, Int.add_comm, Int.add_mul_ediv_right _ _ (by omega), Int.ediv_eq_zero_of_lt this.1 this.2, Int.zero_add]
theorem v_div {B : Int} {c : Int → Int} (hB : 0 < B) : ∀ (s : Nat) {n : Nat}, Fits B c n → V B c n / B ^ s = V B c (n - s)
  | 0, n, _ => by rw [Int.pow_zero, Int.ediv_one]; rfl
  | s + 1, 0, h => by
    rw [Nat.zero_sub, v0, Int.zero_ediv]
  | s + 1, n + 1, h => by
    rw [Int.pow_succ, Int.mul_comm, ← Int.ediv_ediv_of_nonneg (Int.le_of_lt hB), v_next h, v_div hB s (h.less (by omega))]
    have e : n + 1 - (s + 1) = n - s := by omega
    rw [e]
theorem v_size {B : Int} {c : Int → Int} (hB : 0 < B) : ∀ {n : Nat}, Fits B c n → 0 ≤ V B c n ∧ V B c n < B ^ n
  | 0, _ => by rw [v0, Int.pow_zero]; omega
  | n + 1, h => by
    have h1 := v_size hB (h.less (Nat.le_succ n))
    have h2 := h n (by omega)
    rw [vs, Int.pow_succ]
    have h3 : 0 ≤ V B c n * B := Int.mul_nonneg h1.1 (Int.le_of_lt hB)
    have h4 : (V B c n + 1) * B ≤ B ^ n * B := Int.mul_le_mul_of_nonneg_right (by omega) (Int.le_of_lt hB)
    rw [Int.add_mul] at h4
    omega
/-! repeated shifts -/
/-- c, moved on by 0, k, 2 k, .. (m times) together -/
def rep (c : Int → Int) (k : Nat) : Nat → Int → Int
  | 0, _ => 0
  | m + 1, x => c x + rep c k m (x - k)
theorem rep0 (c : Int → Int) (k : Nat) (x : Int) : rep c k 0 x = 0 := rfl
theorem reps (c : Int → Int) (k m : Nat) (x : Int) : rep c k (m + 1) x = c x + rep c k m (x - k) := rfl
theorem rep1 (c : Int → Int) (k : Nat) (x : Int) : rep c k 1 x = c x := by rw [reps, rep0, Int.add_zero]
theorem rep_add (c : Int → Int) (k : Nat) : ∀ (m n : Nat) (x : Int), rep c k (m + n) x = rep c k m x + rep c k n (x - (m * k : Nat))
  | 0, n, x => by rw [rep0, Nat.zero_mul, Nat.zero_add, Int.zero_add]; simp
  | m + 1, n, x => by
    have e : m + 1 + n = (m + n) + 1 := by omega
    rw [e, reps, reps, rep_add c k m n]
    have q : x - (k : Int) - (m * k : Nat) = x - ((m + 1) * k : Nat) := by
      have : (m + 1) * k = m * k + k := Nat.succ_mul m k
      omega
    rw [q]
    omega
theorem rep_neg {c : Int → Int} (hc : ∀ x : Int, x < 0 → c x = 0) (k : Nat) : ∀ (m : Nat) (x : Int), x < 0 → rep c k m x = 0
  | 0, _, _ => rfl
  | m + 1, x, h => by rw [reps, hc x h, rep_neg hc k m _ (by omega)]; rfl
theorem rep_nonneg {c : Int → Int} (hc : ∀ x : Int, 0 ≤ c x) (k : Nat) : ∀ (m : Nat) (x : Int), 0 ≤ rep c k m x
  | 0, _ => Int.le_refl 0
  | m + 1, x => by
    rw [reps]
    have := hc x
    have := rep_nonneg hc k m (x - k)
    omega
theorem sumTo_mono {c : Int → Int} (hc : ∀ x : Int, 0 ≤ c x) (n : Nat) : ∀ k : Nat, sumTo (fun i => c i) n ≤ sumTo (fun i => c i) (n + k)
  | 0 => Int.le_refl _
  | k + 1 => by
    show _ ≤ sumTo (fun i => c i) (n + k) + c ((n + k : Nat) : Int)
    have := sumTo_mono hc n k
    have := hc ((n + k : Nat) : Int)
    omega
/-- all together are no more than all counts up to there -/
theorem rep_le {c : Int → Int} (hc : ∀ x : Int, 0 ≤ c x) (hn : ∀ x : Int, x < 0 → c x = 0) {k : Nat} (_hk : 0 < k) : ∀ (m n : Nat), rep c k m n ≤ sumTo (fun i => c i) (n + 1)
  | 0, n => by
    rw [rep0]
    have := sumTo_mono hc 0 (n + 1)
    rw [Nat.zero_add] at this
    exact this
  | m + 1, n => by
    rw [reps]
    show _ ≤ sumTo (fun i => c i) n + c n
    by_cases h : k ≤ n
    · have q : (n : Int) - k = ((n - k : Nat) : Int) := by omega
      have h1 := rep_le hc hn _hk m (n - k)
      have h2 := sumTo_mono hc (n - k + 1) (n - (n - k + 1))
      have e : n - k + 1 + (n - (n - k + 1)) = n := by omega
      rw [e] at h2
      rw [q]
      omega
    · rw [rep_neg hn k m _ (by omega)]
      have h2 := sumTo_mono hc 0 n
      rw [Nat.zero_add] at h2
      have h3 : sumTo (fun i : Nat => c i) 0 = 0 := rfl
      omega
/-- far enough it is told by its own step -/
theorem rep_step (c : Int → Int) {k : Nat} (hk : 0 < k) (hn : ∀ x : Int, x < 0 → c x = 0) (m : Nat) (x : Int) (h : x < (m * k : Nat)) : rep c k m x - rep c k m (x - k) = c x := by
  have h1 := rep_add c k m 1 x
  have h2 := reps c k m x
  rw [rep1, hn (x - (m * k : Nat)) (by omega)] at h1
  omega
/-! the steps of the program -/
theorem step_one {B : Int} {c : Int → Int} {k m n : Nat} (hB : 0 < B) (hn : ∀ x : Int, x < 0 → c x = 0) (h : Fits B (rep c k m) n) :
    V B (rep c k m) n + V B (rep c k m) n / B ^ (m * k) = V B (rep c k (m + m)) n := by
  rw [v_div hB _ h, v_shift (rep_neg hn k m), v_add]
  exact v_ext fun i _ => (rep_add c k m m i).symm
/-- from the counts of d parts to those of one part more -/
theorem rep_cnt (d h m : Nat) : ∀ (N : Nat) (x : Int), x < N → x < (m * (d + 1) : Nat) → rep (cnt d h) (d + 1) m x - rep (cnt d h) (d + 1) m (x - (h + (d + 1) : Nat)) = cnt (d + 1) h x
  | 0, x, hx, _ => by
    rw [rep_neg (neg d h) _ _ _ (by omega), rep_neg (neg d h) _ _ _ (by omega), neg _ _ _ (by omega)]
    rfl
  | N + 1, x, hx, hm => by
    have i1 := rep_cnt d h m N (x - (d + 1 : Nat)) (by omega) (by omega)
    have s1 := rep_step (cnt d h) (k := d + 1) (by omega) (neg d h) m x hm
    have s2 := rep_step (cnt d h) (k := d + 1) (by omega) (neg d h) m (x - (h + (d + 1) : Nat)) (by omega)
    have r := ruleA d h x
    have q1 : x - (d + 1 : Nat) - ((h + (d + 1) : Nat) : Int) = x - ((h + (d + 1) : Nat) : Int) - (d + 1 : Nat) := by omega
    have q2 : x - ((d + 1 : Nat) : Int) = x - ((d : Int) + 1) := by omega
    have q3 : x - ((h + (d + 1) : Nat) : Int) = x - ((h : Int) + d + 1) := by omega
    rw [q1] at i1
    rw [q2] at i1 s1
    rw [q3] at i1 s2 ⊢
    rw [q2.symm] at i1 s1
    have q4 : x - ((d + 1 : Nat) : Int) = x - ((d : Int) + 1) := by omega
    rw [q4] at i1 s1
    omega
theorem step_part {B : Int} {d h m n : Nat} (hB : 0 < B) (hm : n ≤ m * (d + 1)) (hf : Fits B (rep (cnt d h) (d + 1) m) n) :
    V B (rep (cnt d h) (d + 1) m) n - V B (rep (cnt d h) (d + 1) m) n / B ^ (h + (d + 1)) = V B (cnt (d + 1) h) n := by
  rw [v_div hB _ hf, v_shift (rep_neg (neg d h) (d + 1) m), v_sub]
  exact v_ext fun i hi => rep_cnt d h m (i + 1) i (by omega) (by omega)
/-! sizes -/
theorem bn_le : ∀ (d m k : Nat), bn d m ≤ bn (d + k) m
  | d, m, 0 => Int.le_refl _
  | d, 0, k + 1 => by rw [bj0, bj0]; omega
  | d, m + 1, k + 1 => by
    show _ ≤ bn (d + k + 1) (m + 1)
    rw [bs]
    have := bn_le d (m + 1) k
    have := bn_pos (d + k + 1) m
    omega
theorem bn_two : ∀ (d m : Nat), bn d m ≤ ((2 ^ (d + m) : Nat) : Int)
  | 0, m => by
    rw [b0]
    have := Nat.two_pow_pos (0 + m)
    omega
  | d + 1, 0 => by
    rw [bj0]
    have := Nat.two_pow_pos (d + 1 + 0)
    omega
  | d + 1, m + 1 => by
    rw [bs]
    have h1 := bn_two d (m + 1)
    have h2 := bn_two (d + 1) m
    have e1 : d + (m + 1) = d + m + 1 := by omega
    have e2 : d + 1 + m = d + m + 1 := by omega
    have e3 : d + 1 + (m + 1) = d + m + 1 + 1 := by omega
    rw [e1] at h1
    rw [e2] at h2
    rw [e3, Nat.pow_succ 2 (d + m + 1)]
    omega
theorem bn_one : ∀ (d m : Nat), 1 ≤ bn d m
  | 0, m => by rw [b0]; omega
  | d + 1, 0 => by rw [bj0]; omega
  | d + 1, m + 1 => by
    rw [bs]
    have := bn_one d (m + 1)
    have := bn_pos (d + 1) m
    omega
theorem cnt_sum_le (d m n : Nat) : sumTo (fun i => cnt d m i) n ≤ bn d m := by
  have h := sumTo_mono (c := cnt d m) (nonneg d m) n (d * m + 1)
  have t := total d m n
  have e : n + (d * m + 1) = d * m + 1 + n := by omega
  rw [e, t] at h
  exact h
theorem rep_fits {B : Int} {D d h k : Nat} (hd : d ≤ D) (hB : bn D h < B) (hk : 0 < k) (m n : Nat) : Fits B (rep (cnt d h) k m) n := fun i _ => by
  have h1 := rep_nonneg (nonneg d h) k m i
  have h2 := rep_le (nonneg d h) (neg d h) hk m i
  have h3 := cnt_sum_le d h (i + 1)
  have h4 := bn_le d h (D - d)
  have e : d + (D - d) = D := by omega
  rw [e] at h4
  omega
theorem cnt_fits {B : Int} {D d h : Nat} (hd : d ≤ D) (hB : bn D h < B) (n : Nat) : Fits B (cnt d h) n := fun i hi => by
  have h := rep_fits (k := 1) hd hB (by omega) 1 n i hi
  rw [rep1] at h
  exact h
/-! one integer cut twice -/
theorem cut_two {x : Int} {wd a b : Nat} (h : b < a) : x % 2 ^ (a * wd) / 2 ^ (b * wd) % 2 ^ wd = x / 2 ^ (b * wd) % 2 ^ wd := by
  have e : (2 : Int) ^ (a * wd) = 2 ^ (b * wd) * (2 ^ wd * 2 ^ ((a - b - 1) * wd)) := by
    rw [← Int.pow_add, ← Int.pow_add]
    congr 1
    have : a = b + (1 + (a - b - 1)) := by omega
    have e2 : a * wd = b * wd + (wd + (a - b - 1) * wd) := by
      conv => lhs; rw [this, Nat.add_mul, Nat.add_mul, Nat.one_mul]
    exact e2
  have hp : ∀ n : Nat, (0 : Int) < 2 ^ n := fun n => Int.pow_pos (by omega)
  have h1 := hp (b * wd)
  rw [e]
  have k : x % (2 ^ (b * wd) * (2 ^ wd * 2 ^ ((a - b - 1) * wd))) = x + 2 ^ (b * wd) * (2 ^ wd * -(2 ^ ((a - b - 1) * wd) * (x / (2 ^ (b * wd) * (2 ^ wd * 2 ^ ((a - b - 1) * wd)))))) := by
    rw [Int.emod_def]
    generalize x / (2 ^ (b * wd) * (2 ^ wd * 2 ^ ((a - b - 1) * wd))) = q
    rw [Int.mul_neg, Int.mul_neg, Int.mul_assoc, Int.mul_assoc]
    omega
  rw [k, Int.add_mul_ediv_left _ _ (by omega), Int.add_mul_emod_self_left]
end M26
namespace M26
theorem pow_wd (wd k : Nat) : ((2 : Int) ^ wd) ^ k = 2 ^ (k * wd) := by rw [← Int.pow_mul, Nat.mul_comm]
theorem v_abs {wd n : Nat} {c : Int → Int} (h : Fits (2 ^ wd) c n) : (V (2 ^ wd) c n).natAbs < 2 ^ (n * wd) := by
  have hB : (0 : Int) < 2 ^ wd := Int.pow_pos (by omega)
  have s := v_size hB h
  rw [pow_wd] at s
  have e : ((2 ^ (n * wd) : Nat) : Int) = (2 : Int) ^ (n * wd) := by norm_cast
  rw [← e] at s
  generalize (2 ^ (n * wd) : Nat) = z at *
  omega
end M26

namespace M26
open PySem
theorem bn_swap : ∀ (d m : Nat), bn d m = bn m d
  | 0, m => by rw [b0, bj0]
  | d + 1, 0 => by rw [b0, bj0]
  | d + 1, m + 1 => by
    rw [bs, bs, bn_swap d (m + 1), bn_swap (d + 1) m]
    omega
theorem bn_more (d m : Nat) : ((d + 1 : Nat) + m : Int) * bn d m = (d + 1) * bn (d + 1) m := by
  cases m with
  | zero =>
    rw [bj0, bj0]
    omega
  | succ j =>
    have h := bn_step _ d j (Nat.le_refl _)
    rw [bs]
    have e1 : ((d + 1 : Nat) : Int) = d + 1 := by omega
    have e2 : ((j + 1 : Nat) : Int) = j + 1 := by omega
    rw [e1, e2, Int.mul_add, ← h]
    grind
theorem fp_bn : ∀ (d m : Nat), Builtin.Math.fallingProduct ((d + m : Nat) : Int) d = bn d m * Builtin.Math.fallingProduct d d
  | 0, m => by rw [PySem.W.mc_fp_zero, PySem.W.mc_fp_zero, b0]; rfl
  | d + 1, m => by
    have q1 : ((d + 1 + m : Nat) : Int) - 1 = ((d + m : Nat) : Int) := by omega
    have q2 : ((d + 1 : Nat) : Int) - 1 = (d : Int) := by omega
    rw [Pr.fp_shift, Pr.fp_shift, q1, q2, fp_bn d m]
    have h := bn_more d m
    have q3 : ((d + 1 + m : Nat) : Int) = ((d + 1 : Nat) + m : Int) := by omega
    have q4 : ((d + 1 : Nat) : Int) = d + 1 := by omega
    rw [q3, ← Int.mul_assoc, h, q4]
    grind
theorem comb_half {d m : Nat} (h : (min ((d : Nat) : Int) (((d + m : Nat) : Int) - d)) = d) : PySem.W.mcComb ((d + m : Nat) : Int) d = bn d m := by
  rw [PySem.W.mcComb_at (by omega) (by omega) h, Int.toNat_natCast, fp_bn d m]
  have := PySem.W.mc_fp_pos (n := d) d (Int.le_refl _)
  exact Int.mul_ediv_cancel _ (by omega)
theorem comb_bn (d m : Nat) : PySem.W.mcComb ((d + m : Nat) : Int) d = bn d m := by
  by_cases h : d ≤ m
  · exact comb_half (by omega)
  · rw [PySem.W.mcComb_at (m := m) (by omega) (by omega) (by omega), Int.toNat_natCast, Nat.add_comm d m, fp_bn m d, bn_swap m d]
    have := PySem.W.mc_fp_pos (n := m) m (Int.le_refl _)
    exact Int.mul_ediv_cancel _ (by omega)
theorem bits_lt (x : Int) (h : 0 ≤ x) : x < 2 ^ Builtin.Int.intBits x := by
  have b := PyProof.Rows.natAbs_lt_pow_bits x
  have e : ((2 ^ Builtin.Int.intBits x : Nat) : Int) = (2 : Int) ^ Builtin.Int.intBits x := PySem.W.kbt_cast _
  rw [← e]
  omega
theorem bits_bn (d m : Nat) : Builtin.Int.intBits (bn d m) ≤ d + m + 1 := by
  apply PyProof.Rows.intBits_le
  have h := bn_two d m
  have h2 := bn_pos d m
  have h3 := Nat.two_pow_pos (d + m)
  rw [Nat.pow_succ]
  generalize (2 ^ (d + m) : Nat) = z at *
  omega
end M26

namespace My
open PySem PySem.Spec PyProof.Rows L2 Pr
def topS (i : Nat) : Stmt := PySem.Challenge.pw_sourceforms_k26_whole_counts_of_boxes.main.body.getD i (.Pass ⟨0, 0, 0, 0⟩)
abbrev s_is_integer : Stmt := topS 5
abbrev n_is_integer : List Str := ["value"]
abbrev p_is_integer : List Str := ["value"]
theorem st_is_integer {v0 : V} : L2.start n_is_integer [v0] = [some v0] := rfl
theorem sc_is_integer : FnScope n_is_integer p_is_integer (defScope s_is_integer) := ⟨rfl, rfl, rfl, by decide +kernel, rfl, by decide +kernel, by decide +kernel⟩
abbrev s_is_within : Stmt := topS 7
abbrev n_is_within : List Str := ["value", "low", "high"]
abbrev p_is_within : List Str := ["value", "low", "high"]
theorem st_is_within {v0 : V} {v1 : V} {v2 : V} : L2.start n_is_within [v0, v1, v2] = [some v0, some v1, some v2] := rfl
theorem sc_is_within : FnScope n_is_within p_is_within (defScope s_is_within) := ⟨rfl, rfl, rfl, by decide +kernel, rfl, by decide +kernel, by decide +kernel⟩
abbrev s_need_number : Stmt := topS 8
abbrev n_need_number : List Str := ["value", "low", "high"]
abbrev p_need_number : List Str := ["value", "low", "high"]
theorem st_need_number {v0 : V} {v1 : V} {v2 : V} : L2.start n_need_number [v0, v1, v2] = [some v0, some v1, some v2] := rfl
theorem sc_need_number : FnScope n_need_number p_need_number (defScope s_need_number) := ⟨rfl, rfl, rfl, by decide +kernel, rfl, by decide +kernel, by decide +kernel⟩
abbrev s_packed_counts : Stmt := topS 13
abbrev n_packed_counts : List Str := ["parts", "most", "top", "many", "high", "width", "total", "reach", "part", "longer", "step"]
abbrev p_packed_counts : List Str := ["parts", "most", "top"]
theorem st_packed_counts {v0 : V} {v1 : V} {v2 : V} : L2.start n_packed_counts [v0, v1, v2] = [some v0, some v1, some v2, none, none, none, none, none, none, none, none] := rfl
theorem sc_packed_counts : FnScope n_packed_counts p_packed_counts (defScope s_packed_counts) := ⟨rfl, rfl, rfl, by decide +kernel, rfl, by decide +kernel, by decide +kernel⟩
abbrev s_lowest_bits : Stmt := topS 14
abbrev n_lowest_bits : List Str := ["number", "width"]
abbrev p_lowest_bits : List Str := ["number", "width"]
theorem st_lowest_bits {v0 : V} {v1 : V} : L2.start n_lowest_bits [v0, v1] = [some v0, some v1] := rfl
theorem sc_lowest_bits : FnScope n_lowest_bits p_lowest_bits (defScope s_lowest_bits) := ⟨rfl, rfl, rfl, by decide +kernel, rfl, by decide +kernel, by decide +kernel⟩
abbrev s_counts_up_to : Stmt := topS 15
abbrev n_counts_up_to : List Str := ["parts", "most", "top", "total", "width", "found", "begin", "piece", "place"]
abbrev p_counts_up_to : List Str := ["parts", "most", "top"]
theorem st_counts_up_to {v0 : V} {v1 : V} {v2 : V} : L2.start n_counts_up_to [v0, v1, v2] = [some v0, some v1, some v2, none, none, none, none, none, none] := rfl
theorem sc_counts_up_to : FnScope n_counts_up_to p_counts_up_to (defScope s_counts_up_to) := ⟨rfl, rfl, rfl, by decide +kernel, rfl, by decide +kernel, by decide +kernel⟩
abbrev s_box_count : Stmt := topS 16
abbrev n_box_count : List Str := ["weight", "parts", "most", "left", "total", "width"]
abbrev p_box_count : List Str := ["weight", "parts", "most"]
theorem st_box_count {v0 : V} {v1 : V} {v2 : V} : L2.start n_box_count [v0, v1, v2] = [some v0, some v1, some v2, none, none, none] := rfl
theorem sc_box_count : FnScope n_box_count p_box_count (defScope s_box_count) := ⟨rfl, rfl, rfl, by decide +kernel, rfl, by decide +kernel, by decide +kernel⟩
abbrev s_box_row : Stmt := topS 17
abbrev n_box_row : List Str := ["parts", "most", "whole", "half", "weight"]
abbrev p_box_row : List Str := ["parts", "most"]
theorem st_box_row {v0 : V} {v1 : V} : L2.start n_box_row [v0, v1] = [some v0, some v1, none, none, none] := rfl
theorem sc_box_row : FnScope n_box_row p_box_row (defScope s_box_row) := ⟨rfl, rfl, rfl, by decide +kernel, rfl, by decide +kernel, by decide +kernel⟩
abbrev s_law_dice : Stmt := topS 19
abbrev n_law_dice : List Str := ["_law_script", "_law_spot", "_law_cell", "_law_left"]
abbrev p_law_dice : List Str := ["_law_script", "_law_spot"]
theorem st_law_dice {v0 : V} {v1 : V} : L2.start n_law_dice [v0, v1] = [some v0, some v1, none, none] := rfl
theorem sc_law_dice : FnScope n_law_dice p_law_dice (defScope s_law_dice) := ⟨rfl, rfl, rfl, by decide +kernel, rfl, by decide +kernel, by decide +kernel⟩
abbrev s_law_roll : Stmt := topS 20
abbrev n_law_roll : List Str := ["_law_dice_here", "_law_total", "_law_found", "_law_one", "_law_two"]
abbrev p_law_roll : List Str := ["_law_dice_here", "_law_total"]
theorem st_law_roll {v0 : V} {v1 : V} : L2.start n_law_roll [v0, v1] = [some v0, some v1, none, none, none] := rfl
theorem sc_law_roll : FnScope n_law_roll p_law_roll (defScope s_law_roll) := ⟨rfl, rfl, rfl, by decide +kernel, rfl, by decide +kernel, by decide +kernel⟩
abbrev s_law_pick : Stmt := topS 21
abbrev n_law_pick : List Str := ["_law_dice_here", "_law_items"]
abbrev p_law_pick : List Str := ["_law_dice_here", "_law_items"]
theorem st_law_pick {v0 : V} {v1 : V} : L2.start n_law_pick [v0, v1] = [some v0, some v1] := rfl
theorem sc_law_pick : FnScope n_law_pick p_law_pick (defScope s_law_pick) := ⟨rfl, rfl, rfl, by decide +kernel, rfl, by decide +kernel, by decide +kernel⟩
abbrev s_law_choose : Stmt := topS 22
abbrev n_law_choose : List Str := ["_law_many", "_law_few", "_law_found", "_law_at"]
abbrev p_law_choose : List Str := ["_law_many", "_law_few"]
theorem st_law_choose {v0 : V} {v1 : V} : L2.start n_law_choose [v0, v1] = [some v0, some v1, none, none] := rfl
theorem sc_law_choose : FnScope n_law_choose p_law_choose (defScope s_law_choose) := ⟨rfl, rfl, rfl, by decide +kernel, rfl, by decide +kernel, by decide +kernel⟩
abbrev s_law_rows_of : Stmt := topS 23
abbrev n_law_rows_of : List Str := ["_law_parts", "_law_most", "_law_lots", "_law_value", "_law_many", "_law_row", "_law_less", "_law_weight"]
abbrev p_law_rows_of : List Str := ["_law_parts", "_law_most"]
theorem st_law_rows_of {v0 : V} {v1 : V} : L2.start n_law_rows_of [v0, v1] = [some v0, some v1, none, none, none, none, none, none] := rfl
theorem sc_law_rows_of : FnScope n_law_rows_of p_law_rows_of (defScope s_law_rows_of) := ⟨rfl, rfl, rfl, by decide +kernel, rfl, by decide +kernel, by decide +kernel⟩
abbrev s_law_right : Stmt := topS 24
abbrev n_law_right : List Str := ["_law_dice_here", "_law_parts", "_law_most", "_law_due", "_law_told", "_law_weight", "_law_less"]
abbrev p_law_right : List Str := ["_law_dice_here"]
theorem st_law_right {v0 : V} : L2.start n_law_right [v0] = [some v0, none, none, none, none, none, none] := rfl
theorem sc_law_right : FnScope n_law_right p_law_right (defScope s_law_right) := ⟨rfl, rfl, rfl, by decide +kernel, rfl, by decide +kernel, by decide +kernel⟩
abbrev s_law_great_right : Stmt := topS 25
abbrev n_law_great_right : List Str := ["_law_dice_here", "_law_parts", "_law_most", "_law_weight", "_law_told", "_law_less"]
abbrev p_law_great_right : List Str := ["_law_dice_here"]
theorem st_law_great_right {v0 : V} : L2.start n_law_great_right [v0] = [some v0, none, none, none, none, none] := rfl
theorem sc_law_great_right : FnScope n_law_great_right p_law_great_right (defScope s_law_great_right) := ⟨rfl, rfl, rfl, by decide +kernel, rfl, by decide +kernel, by decide +kernel⟩
abbrev s_law : Stmt := topS 26
abbrev n_law : List Str := ["_law_script", "_law_spot", "_law_dice_here", "_law_told"]
abbrev p_law : List Str := ["_law_script"]
theorem st_law {v0 : V} : L2.start n_law [v0] = [some v0, none, none, none] := rfl
theorem sc_law : FnScope n_law p_law (defScope s_law) := ⟨rfl, rfl, rfl, by decide +kernel, rfl, by decide +kernel, by decide +kernel⟩
structure Tx (K : PySem.W.Frag) (mg : Str → Option Value) where
  f_is_integer : Addr
  d_is_integer : FuncData
  F_is_integer : Fun K "is_integer" "is_integer" s_is_integer f_is_integer d_is_integer
  b_is_integer : Binds K d_is_integer p_is_integer []
  m_is_integer : mg "is_integer" = some (.ref f_is_integer)
  f_is_within : Addr
  d_is_within : FuncData
  F_is_within : Fun K "is_within" "is_within" s_is_within f_is_within d_is_within
  b_is_within : Binds K d_is_within p_is_within []
  m_is_within : mg "is_within" = some (.ref f_is_within)
  f_need_number : Addr
  d_need_number : FuncData
  F_need_number : Fun K "need_number" "need_number" s_need_number f_need_number d_need_number
  b_need_number : Binds K d_need_number p_need_number []
  m_need_number : mg "need_number" = some (.ref f_need_number)
  f_packed_counts : Addr
  d_packed_counts : FuncData
  F_packed_counts : Fun K "packed_counts" "packed_counts" s_packed_counts f_packed_counts d_packed_counts
  b_packed_counts : Binds K d_packed_counts p_packed_counts []
  m_packed_counts : mg "packed_counts" = some (.ref f_packed_counts)
  f_lowest_bits : Addr
  d_lowest_bits : FuncData
  F_lowest_bits : Fun K "lowest_bits" "lowest_bits" s_lowest_bits f_lowest_bits d_lowest_bits
  b_lowest_bits : Binds K d_lowest_bits p_lowest_bits []
  m_lowest_bits : mg "lowest_bits" = some (.ref f_lowest_bits)
  f_counts_up_to : Addr
  d_counts_up_to : FuncData
  F_counts_up_to : Fun K "counts_up_to" "counts_up_to" s_counts_up_to f_counts_up_to d_counts_up_to
  b_counts_up_to : Binds K d_counts_up_to p_counts_up_to []
  m_counts_up_to : mg "counts_up_to" = some (.ref f_counts_up_to)
  f_box_count : Addr
  d_box_count : FuncData
  F_box_count : Fun K "box_count" "box_count" s_box_count f_box_count d_box_count
  b_box_count : Binds K d_box_count p_box_count []
  m_box_count : mg "box_count" = some (.ref f_box_count)
  f_box_row : Addr
  d_box_row : FuncData
  F_box_row : Fun K "box_row" "box_row" s_box_row f_box_row d_box_row
  b_box_row : Binds K d_box_row p_box_row []
  m_box_row : mg "box_row" = some (.ref f_box_row)
  f_law_dice : Addr
  d_law_dice : FuncData
  F_law_dice : Fun K "_law_dice" "_law_dice" s_law_dice f_law_dice d_law_dice
  b_law_dice : Binds K d_law_dice p_law_dice []
  m_law_dice : mg "_law_dice" = some (.ref f_law_dice)
  f_law_roll : Addr
  d_law_roll : FuncData
  F_law_roll : Fun K "_law_roll" "_law_roll" s_law_roll f_law_roll d_law_roll
  b_law_roll : Binds K d_law_roll p_law_roll []
  m_law_roll : mg "_law_roll" = some (.ref f_law_roll)
  f_law_pick : Addr
  d_law_pick : FuncData
  F_law_pick : Fun K "_law_pick" "_law_pick" s_law_pick f_law_pick d_law_pick
  b_law_pick : Binds K d_law_pick p_law_pick []
  m_law_pick : mg "_law_pick" = some (.ref f_law_pick)
  f_law_choose : Addr
  d_law_choose : FuncData
  F_law_choose : Fun K "_law_choose" "_law_choose" s_law_choose f_law_choose d_law_choose
  b_law_choose : Binds K d_law_choose p_law_choose []
  m_law_choose : mg "_law_choose" = some (.ref f_law_choose)
  f_law_rows_of : Addr
  d_law_rows_of : FuncData
  F_law_rows_of : Fun K "_law_rows_of" "_law_rows_of" s_law_rows_of f_law_rows_of d_law_rows_of
  b_law_rows_of : Binds K d_law_rows_of p_law_rows_of []
  m_law_rows_of : mg "_law_rows_of" = some (.ref f_law_rows_of)
  f_law_right : Addr
  d_law_right : FuncData
  F_law_right : Fun K "_law_right" "_law_right" s_law_right f_law_right d_law_right
  b_law_right : Binds K d_law_right p_law_right []
  m_law_right : mg "_law_right" = some (.ref f_law_right)
  f_law_great_right : Addr
  d_law_great_right : FuncData
  F_law_great_right : Fun K "_law_great_right" "_law_great_right" s_law_great_right f_law_great_right d_law_great_right
  b_law_great_right : Binds K d_law_great_right p_law_great_right []
  m_law_great_right : mg "_law_great_right" = some (.ref f_law_great_right)
  f_law : Addr
  d_law : FuncData
  F_law : Fun K "law" "law" s_law f_law d_law
  b_law : Binds K d_law p_law []
  m_law : mg "law" = some (.ref f_law)
  z_abs : mg "abs" = none
  z_bool : mg "bool" = none
  z_int : mg "int" = none
  z_isinstance : mg "isinstance" = none
  z_len : mg "len" = none
  z_max : mg "max" = none
  z_min : mg "min" = none
  z_range : mg "range" = none
  z_sum : mg "sum" = none
  z_tuple : mg "tuple" = none
  i_comb : mg "comb" = some (.builtin "math.comb")
  t_TOO_LONG : Tok
  c_TOO_LONG : mg "TOO_LONG" = some (.int 1000000000000000000000000000000000000000000000000000000000000 t_TOO_LONG)
  t_MAX_PARTS : Tok
  c_MAX_PARTS : mg "MAX_PARTS" = some (.int 40 t_MAX_PARTS)
  t_MAX_WEIGHT : Tok
  c_MAX_WEIGHT : mg "MAX_WEIGHT" = some (.int 1600 t_MAX_WEIGHT)
  t_PIECE : Tok
  c_PIECE : mg "PIECE" = some (.int 32 t_PIECE)
end My

namespace My
open PySem PySem.Spec PyProof.Rows L2 Pr M26
section
variable {P : Program} {w : World} {K : PySem.W.Frag} {mg : Str → Option Value} {base : Heap}
def sp_is_integer : Sp := fun vs H Q _ => ∃ (i : Int), vs = [.int i] ∧ -1000000 < i ∧ i < 1000000 ∧ Q (.bl true) H
theorem ok_is_integer (T : Tx K mg) : FnOk P w K mg base CX0 1 T.f_is_integer T.d_is_integer p_is_integer sp_is_integer := by
  refine T.F_is_integer.ok sc_is_integer (fun vs H Q E h => ?_) (fun cdv A outer s H vs Q E hr h => ?_)
  · obtain ⟨i, rfl, _⟩ := h
    rfl
  · obtain ⟨i, rfl, h1, h2, q⟩ := h
    refine ⟨_, (pss_cons (ps_if (PW.pt (pw_or (pt_not (pt_val (pe_callB cr_isiS (by rfl) T.z_isinstance (by decide +kernel) (pa_cons (pv 0) (pa_cons (pe_bltn (v := .ty "int") (by rfl) T.z_int (by decide +kernel) rfl) pa_nil))))) (pw_or1 (pt_val (pe_callB cr_isiS (by rfl) T.z_isinstance (by decide +kernel) (pa_cons (pv 0) (pa_cons (pe_bltn (v := .ty "bool") (by rfl) T.z_bool (by decide +kernel) rfl) pa_nil))))))) (pss_one (ps_ret pe_bl)) pss_nil)
      (pss_one (ps_ret (pe_chain op_lt op_lt (pe_un un_neg (pe_glob (v := .int 1000000000000000000000000000000000000000000000000000000000000) (by rfl) T.c_TOO_LONG ⟨_, rfl⟩)) (pv 0) (pe_glob (v := .int 1000000000000000000000000000000000000000000000000000000000000) (by rfl) T.c_TOO_LONG ⟨_, rfl⟩))))), ?_⟩
    rw [st_is_integer]
    have k1 : kitB "int" "int" = some true := by decide +kernel
    have k2 : kitB "int" "bool" = some false := by decide +kernel
    simp only [ap_seq, ap_next, ap_asg, ap_gName, ap_ret, ap_retN, ap_drop, ap_ifS, ap_break, ap_cont, ap_par, ap_aug, ap_ip, ap_gSub, ap_gTup, ap_gNil, ap_gCons, ap_var, ap_c, ap_op, ap_un, ap_if, ap_test, ap_B, ap_and, ap_or, ap_not, ap_andV, ap_orV, ap_notV, ap_nil, ap_cons, ap_tup, ap_lst, ap_cb, ap_bm, ap_call, ap_chain, ap_rI, ap_rI0, ap_rU, ap_rEq, ap_rNe, ap_revT, ap_sl, ap_part, ap_noPart, ap_ixLI, ap_ixTI, ap_ixLV, ap_ixTV, ap_len, ap_setLI, ap_setLV, ap_appI, ap_appV, ap_tupL, ap_listS, ap_sumLI, ap_sumTI, ap_repLI, ap_intI, ap_intB, ap_eqTI, ap_neTI, ap_eqLI, ap_neLI, ap_isi, ap_for, ap_rng1, ap_rng2, ap_iList, ap_iTup, ap_lc, ap_yes, ap_cut, ap_gTupH, ap_fmt, ap_jsn, ap_jsc, ap_gcd, ap_isqrt, ap_ixL, tyV_l, wipe_nil, wipe_cons, upd_same, ap_shl, ap_shr, ap_mask, ap_comb, ap_bits, ap_rng3, List.set_cons_zero, List.set_cons_succ, List.getElem?_cons_zero, List.getElem?_cons_succ, List.cons_append, List.nil_append, List.append_nil, Option.some.injEq, V.int.injEq, V.ref.injEq, V.bl.injEq, V.str.injEq, V.ty.injEq, Bool.not_true, Bool.not_false, HO.lst.injEq, HO.tup.injEq, reduceCtorEq, Int.reduceToNat, Int.reduceLT, Int.reduceLE, Nat.reduceAdd, Int.cast_ofNat_Int, gi_c0, gi_c1, gi_c2, gi_c3, Int.natCast_inj, map_int_inj, map_nil_iff, List.cons.injEq, exists_eq_left, exists_eq_left', exists_eq, exists_eq', exists_and_left, exists_and_right, exists_const, and_assoc, and_true, true_and, and_false, false_and, or_false, false_or, or_true, true_or, ite_true, ite_false, if_true, if_false, Bool.false_eq_true, own_cons, own_nil, le1, le2, le3, le4, me_cons, me_nil, List.length_map, List.length_cons, List.length_nil, ne_eq, not_false_eq_true, not_true_eq_false, decide_eq_true_eq, tyOf, k1, k2, Bool.not_true, Bool.not_false]
    rw [if_pos (by omega)]
    rw [decide_eq_true (by omega)]
    exact q
def sp_is_within : Sp := fun vs H Q _ => ∃ (i lo hi : Int), vs = [.int i, .int lo, .int hi] ∧ lo ≤ i ∧ i ≤ hi ∧ -1000000 < i ∧ i < 1000000 ∧ Q (.bl true) H
theorem ok_is_within (T : Tx K mg) : FnOk P w K mg base CX0 2 T.f_is_within T.d_is_within p_is_within sp_is_within := by
  refine T.F_is_within.ok sc_is_within (fun vs H Q E h => ?_) (fun cdv A outer s H vs Q E hr h => ?_)
  · obtain ⟨i, lo, hi, rfl, _⟩ := h
    rfl
  · obtain ⟨i, lo, hi, rfl, h1, h2, h3, h4, q⟩ := h
    refine ⟨_, (pss_one (ps_ret (pe_and (pe_call (ok_is_integer T) (hr.mono (by decide)) (by rfl) T.m_is_integer T.F_is_integer.kp T.b_is_integer .nil pass0 (pa_cons (pv 0) pa_nil)) (pe_one (pe_chain op_le op_le (pv 1) (pv 0) (pv 2)))))), ?_⟩
    rw [st_is_within]
    simp only [ap_seq, ap_next, ap_asg, ap_gName, ap_ret, ap_retN, ap_drop, ap_ifS, ap_break, ap_cont, ap_par, ap_aug, ap_ip, ap_gSub, ap_gTup, ap_gNil, ap_gCons, ap_var, ap_c, ap_op, ap_un, ap_if, ap_test, ap_B, ap_and, ap_or, ap_not, ap_andV, ap_orV, ap_notV, ap_nil, ap_cons, ap_tup, ap_lst, ap_cb, ap_bm, ap_call, ap_chain, ap_rI, ap_rI0, ap_rU, ap_rEq, ap_rNe, ap_revT, ap_sl, ap_part, ap_noPart, ap_ixLI, ap_ixTI, ap_ixLV, ap_ixTV, ap_len, ap_setLI, ap_setLV, ap_appI, ap_appV, ap_tupL, ap_listS, ap_sumLI, ap_sumTI, ap_repLI, ap_intI, ap_intB, ap_eqTI, ap_neTI, ap_eqLI, ap_neLI, ap_isi, ap_for, ap_rng1, ap_rng2, ap_iList, ap_iTup, ap_lc, ap_yes, ap_cut, ap_gTupH, ap_fmt, ap_jsn, ap_jsc, ap_gcd, ap_isqrt, ap_ixL, tyV_l, wipe_nil, wipe_cons, upd_same, ap_shl, ap_shr, ap_mask, ap_comb, ap_bits, ap_rng3, List.set_cons_zero, List.set_cons_succ, List.getElem?_cons_zero, List.getElem?_cons_succ, List.cons_append, List.nil_append, List.append_nil, Option.some.injEq, V.int.injEq, V.ref.injEq, V.bl.injEq, V.str.injEq, V.ty.injEq, Bool.not_true, Bool.not_false, HO.lst.injEq, HO.tup.injEq, reduceCtorEq, Int.reduceToNat, Int.reduceLT, Int.reduceLE, Nat.reduceAdd, Int.cast_ofNat_Int, gi_c0, gi_c1, gi_c2, gi_c3, Int.natCast_inj, map_int_inj, map_nil_iff, List.cons.injEq, exists_eq_left, exists_eq_left', exists_eq, exists_eq', exists_and_left, exists_and_right, exists_const, and_assoc, and_true, true_and, and_false, false_and, or_false, false_or, or_true, true_or, ite_true, ite_false, if_true, if_false, Bool.false_eq_true, own_cons, own_nil, le1, le2, le3, le4, me_cons, me_nil, List.length_map, List.length_cons, List.length_nil, ne_eq, not_false_eq_true, not_true_eq_false, decide_eq_true_eq, sp_is_integer]
    refine ⟨h3, h4, ?_⟩
    rw [if_pos h1, decide_eq_true h2]
    exact q
def sp_need_number : Sp := fun vs H Q _ => ∃ (i lo hi : Int), vs = [.int i, .int lo, .int hi] ∧ lo ≤ i ∧ i ≤ hi ∧ -1000000 < i ∧ i < 1000000 ∧ Q .non H
theorem ok_need_number (T : Tx K mg) : FnOk P w K mg base CX0 3 T.f_need_number T.d_need_number p_need_number sp_need_number := by
  refine T.F_need_number.ok sc_need_number (fun vs H Q E h => ?_) (fun cdv A outer s H vs Q E hr h => ?_)
  · obtain ⟨i, lo, hi, rfl, _⟩ := h
    rfl
  · obtain ⟨i, lo, hi, rfl, h1, h2, h3, h4, q⟩ := h
    refine ⟨_, (pss_one (ps_if (pt_not (pt_val (pe_call (ok_is_within T) (hr.mono (by decide)) (by rfl) T.m_is_within T.F_is_within.kp T.b_is_within .nil pass0 (pa_cons (pv 0) (pa_cons (pv 1) (pa_cons (pv 2) pa_nil)))))) (pss_one ps_never) pss_nil)), ?_⟩
    rw [st_need_number]
    simp only [ap_seq, ap_next, ap_asg, ap_gName, ap_ret, ap_retN, ap_drop, ap_ifS, ap_break, ap_cont, ap_par, ap_aug, ap_ip, ap_gSub, ap_gTup, ap_gNil, ap_gCons, ap_var, ap_c, ap_op, ap_un, ap_if, ap_test, ap_B, ap_and, ap_or, ap_not, ap_andV, ap_orV, ap_notV, ap_nil, ap_cons, ap_tup, ap_lst, ap_cb, ap_bm, ap_call, ap_chain, ap_rI, ap_rI0, ap_rU, ap_rEq, ap_rNe, ap_revT, ap_sl, ap_part, ap_noPart, ap_ixLI, ap_ixTI, ap_ixLV, ap_ixTV, ap_len, ap_setLI, ap_setLV, ap_appI, ap_appV, ap_tupL, ap_listS, ap_sumLI, ap_sumTI, ap_repLI, ap_intI, ap_intB, ap_eqTI, ap_neTI, ap_eqLI, ap_neLI, ap_isi, ap_for, ap_rng1, ap_rng2, ap_iList, ap_iTup, ap_lc, ap_yes, ap_cut, ap_gTupH, ap_fmt, ap_jsn, ap_jsc, ap_gcd, ap_isqrt, ap_ixL, tyV_l, wipe_nil, wipe_cons, upd_same, ap_shl, ap_shr, ap_mask, ap_comb, ap_bits, ap_rng3, List.set_cons_zero, List.set_cons_succ, List.getElem?_cons_zero, List.getElem?_cons_succ, List.cons_append, List.nil_append, List.append_nil, Option.some.injEq, V.int.injEq, V.ref.injEq, V.bl.injEq, V.str.injEq, V.ty.injEq, Bool.not_true, Bool.not_false, HO.lst.injEq, HO.tup.injEq, reduceCtorEq, Int.reduceToNat, Int.reduceLT, Int.reduceLE, Nat.reduceAdd, Int.cast_ofNat_Int, gi_c0, gi_c1, gi_c2, gi_c3, Int.natCast_inj, map_int_inj, map_nil_iff, List.cons.injEq, exists_eq_left, exists_eq_left', exists_eq, exists_eq', exists_and_left, exists_and_right, exists_const, and_assoc, and_true, true_and, and_false, false_and, or_false, false_or, or_true, true_or, ite_true, ite_false, if_true, if_false, Bool.false_eq_true, own_cons, own_nil, le1, le2, le3, le4, me_cons, me_nil, List.length_map, List.length_cons, List.length_nil, ne_eq, not_false_eq_true, not_true_eq_false, decide_eq_true_eq, sp_is_within, Bool.not_true]
    exact ⟨h1, h2, h3, h4, q⟩
theorem gi_crow {d m : Nat} {x : Int} (h0 : 0 ≤ x) (h1 : x < ((d * m + 1 : Nat) : Int)) : gi (crow d m) x = cnt d m x := by
  unfold gi crow
  rw [List.getD_eq_getElem?_getD, List.getElem?_map, List.getElem?_range (by omega)]
  show cnt d m (x.toNat : Int) = _
  rw [Int.toNat_of_nonneg h0]
theorem gi_upto {n : Nat} {f : Nat → Int} {x : Int} (h0 : 0 ≤ x) (h1 : x < n) : gi ((List.range n).map f) x = f x.toNat := by
  unfold gi
  rw [List.getD_eq_getElem?_getD, List.getElem?_map, List.getElem?_range (by omega)]
  rfl

theorem while_a {α : Type} {c : TT} {tb : TS} {D : Ends} {σ : L2.St} {H : Hp} (W : α → L2.St → Hp → Prop) (t : α → Bool) (μ : α → Nat) (a0 : α) (h0 : W a0 σ H)
    (hc : ∀ a σ H, W a σ H → ∀ Q : Bool → Hp → Prop, Q (t a) H → c σ H Q)
    (hs : ∀ a σ H, W a σ H → t a = true → tb { D with nx := fun σ' H' => ∃ a', μ a' < μ a ∧ W a' σ' H', ct := fun σ' H' => ∃ a', μ a' < μ a ∧ W a' σ' H', bk := D.nx } σ H)
    (hd : ∀ a σ H, W a σ H → t a = false → D.nx σ H) : tWhile c tb D σ H := by
  refine ⟨fun m σ H => ∃ a, μ a = m ∧ W a σ H, ⟨_, a0, rfl, h0⟩, ?_⟩
  rintro m σ H ⟨a, rfl, hw⟩
  refine hc a σ H hw _ ?_
  cases e : t a with
  | true => exact ⟨fun σ' H' => ∃ a', μ a' < μ a ∧ W a' σ' H', fun σ' H' ⟨a', h1, h2⟩ => ⟨_, h1, a', rfl, h2⟩, hs a σ H hw e⟩
  | false => exact hd a σ H hw e
theorem ap_revL' {K : PySem.W.Frag} {te : TE} {σ : L2.St} {H : Hp} {Q : VK} : tRevL K te σ H Q = te σ H fun x H1 => ∃ a xs, x = .ref a ∧ SqL K H1 a xs ∧ ∀ p, H1 p = none → Q (.ref p) (upd H1 p (.lst xs.reverse)) := rfl
def sp_packed_counts : Sp := fun vs H Q _ => ∃ (d m top : Nat), vs = [.int d, .int m, .int top] ∧ d ≤ 40 ∧ m ≤ 40 ∧ top ≤ d * m ∧
  ∀ H' p wd, Same H H' → H p = none → H' p = some (.tup [.int (V (2 ^ wd) (cnt d m) (top + 1)), .int (wd : Nat)]) → wd ≤ 81 → (∀ n, Fits (2 ^ wd) (cnt d m) n) → Q (.ref p) H'
theorem ok_packed_counts (T : Tx K mg) : FnOk P w K mg base CX0 1 T.f_packed_counts T.d_packed_counts p_packed_counts sp_packed_counts := by
  refine T.F_packed_counts.ok sc_packed_counts (fun vs H Q E h => ?_) (fun cdv A outer s H vs Q E hr h => ?_)
  · obtain ⟨d, m, top, rfl, _⟩ := h
    rfl
  · obtain ⟨d, m, top, rfl, hd, hm, ht, q⟩ := h
    refine ⟨_, (pss_cons (ps_par (i := 3) (j := 4) (by rfl) sc_packed_counts.nd rfl rfl (by decide) rfl rfl (pa_cons (pe_callB (call_min2 rfl) (by rfl) T.z_min (by decide +kernel) (pa_cons (pv 0) (pa_cons (pv 1) pa_nil))) (pa_cons (pe_callB (call_max2 rfl) (by rfl) T.z_max (by decide +kernel) (pa_cons (pv 0) (pa_cons (pv 1) pa_nil))) pa_nil)) (by rfl))
      (pss_cons (ps_set (i := 5) sc_packed_counts.nd rfl (Or.inl rfl) (pe_bits (pe_callBfun cr_comb (by rfl) T.i_comb (pa_cons (pe_op op_add (pv 3) (pv 4)) (pa_cons (pv 3) pa_nil)))))
      (pss_cons (ps_asg (pe_tup (pa_cons pe_int (pa_cons pe_int pa_nil))) (pg_tupH (n := 2) (by rfl) (pgs_cons (pg_name (i := 6) sc_packed_counts.nd rfl (by first | exact .inl rfl | exact .inr rfl)) (pgs_cons (pg_name (i := 7) sc_packed_counts.nd rfl (by first | exact .inl rfl | exact .inr rfl)) pgs_nil))))
      (pss_cons (ps_for PassesOwn.never rfl (pi_range2 (by rfl) T.z_range (pa_cons pe_int (pa_cons (pe_op op_add (pv 3) pe_int) pa_nil))) (pg_name (i := 8) sc_packed_counts.nd rfl (by first | exact .inl rfl | exact .inr rfl))
      (pss_cons (ps_set (i := 9) sc_packed_counts.nd rfl (Or.inl rfl) (pe_callB (call_min2 rfl) (by rfl) T.z_min (by decide +kernel) (pa_cons (pv 2) (pa_cons (pe_op op_mul (pv 8) (pv 4)) pa_nil))))
      (pss_cons (ps_set (i := 6) sc_packed_counts.nd rfl (Or.inl rfl) (pe_op op_shlK (pv 6) (pe_op op_mul (pe_op op_sub (pv 9) (pv 7)) (pv 5))))
      (pss_cons (ps_set (i := 7) sc_packed_counts.nd rfl (Or.inl rfl) (pv 9))
      (pss_cons (ps_set (i := 10) sc_packed_counts.nd rfl (Or.inl rfl) (pv 8))
      (pss_cons (ps_while PassesOwn.never (pt_cmpR op_le (pv 10) (pv 7) (nomark _))
      (pss_cons (ps_set (i := 6) sc_packed_counts.nd rfl (Or.inl rfl) (pe_op op_add (pv 6) (pe_op op_shrK (pv 6) (pe_op op_mul (pv 10) (pv 5)))))
      (pss_one (ps_set (i := 10) sc_packed_counts.nd rfl (Or.inl rfl) (pe_op op_mul pe_int (pv 10))))))
      (pss_one (ps_set (i := 6) sc_packed_counts.nd rfl (Or.inl rfl) (pe_op op_sub (pv 6) (pe_op op_shrK (pv 6) (pe_op op_mul (pe_op op_add (pv 4) (pv 8)) (pv 5))))))))))))
      (pss_one (ps_ret (pe_tup (pa_cons (pv 6) (pa_cons (pv 5) pa_nil))))))))), ?_⟩
    rw [st_packed_counts]
    obtain ⟨a, b, ea, eb, ha, hb, hab, eab⟩ : ∃ a b : Nat, (if (m : Int) < d then (m : Int) else d) = a ∧ (if (m : Int) > d then (m : Int) else d) = b ∧ a ≤ 40 ∧ b ≤ 40 ∧ cnt a b = cnt d m ∧ a * b = d * m := by
      by_cases c : (m : Int) < d
      · exact ⟨m, d, if_pos c, by rw [if_neg (by omega)], hm, hd, by funext x; exact swap m d x, Nat.mul_comm m d⟩
      · refine ⟨d, m, if_neg c, ?_, hd, hm, rfl, rfl⟩
        split <;> omega
    simp only [ap_seq, ap_next, ap_asg, ap_gName, ap_ret, ap_retN, ap_drop, ap_ifS, ap_break, ap_cont, ap_par, ap_aug, ap_ip, ap_gSub, ap_gTup, ap_gNil, ap_gCons, ap_var, ap_c, ap_op, ap_un, ap_if, ap_test, ap_B, ap_and, ap_or, ap_not, ap_andV, ap_orV, ap_notV, ap_nil, ap_cons, ap_tup, ap_lst, ap_cb, ap_bm, ap_call, ap_chain, ap_rI, ap_rI0, ap_rU, ap_rEq, ap_rNe, ap_revT, ap_sl, ap_part, ap_noPart, ap_ixLI, ap_ixTI, ap_ixLV, ap_ixTV, ap_len, ap_setLI, ap_setLV, ap_appI, ap_appV, ap_tupL, ap_listS, ap_sumLI, ap_sumTI, ap_repLI, ap_intI, ap_intB, ap_eqTI, ap_neTI, ap_eqLI, ap_neLI, ap_isi, ap_for, ap_rng1, ap_rng2, ap_iList, ap_iTup, ap_lc, ap_yes, ap_cut, ap_gTupH, ap_fmt, ap_jsn, ap_jsc, ap_gcd, ap_isqrt, ap_ixL, tyV_l, wipe_nil, wipe_cons, upd_same, ap_shl, ap_shr, ap_mask, ap_comb, ap_bits, ap_rng3, List.set_cons_zero, List.set_cons_succ, List.getElem?_cons_zero, List.getElem?_cons_succ, List.cons_append, List.nil_append, List.append_nil, Option.some.injEq, V.int.injEq, V.ref.injEq, V.bl.injEq, V.str.injEq, V.ty.injEq, Bool.not_true, Bool.not_false, HO.lst.injEq, HO.tup.injEq, reduceCtorEq, Int.reduceToNat, Int.reduceLT, Int.reduceLE, Nat.reduceAdd, Int.cast_ofNat_Int, gi_c0, gi_c1, gi_c2, gi_c3, Int.natCast_inj, map_int_inj, map_nil_iff, List.cons.injEq, exists_eq_left, exists_eq_left', exists_eq, exists_eq', exists_and_left, exists_and_right, exists_const, and_assoc, and_true, true_and, and_false, false_and, or_false, false_or, or_true, true_or, ite_true, ite_false, if_true, if_false, Bool.false_eq_true, own_cons, own_nil, le1, le2, le3, le4, me_cons, me_nil, List.length_map, List.length_cons, List.length_nil, ne_eq, not_false_eq_true, not_true_eq_false, decide_eq_true_eq, CMul]
    simp only [ea, eb]
    have ecomb : PySem.W.mcComb ((a : Int) + b) a = bn a b := by
      rw [← comb_bn a b]
      rfl
    have bw := bits_bn a b
    have bl := bits_lt (bn a b) (bn_pos a b)
    rw [ecomb]
    generalize Builtin.Int.intBits (bn a b) = wd at bw bl ⊢
    have hB : (0 : Int) < 2 ^ wd := Int.pow_pos (by omega)
    refine ⟨by omega, by omega, by omega, by omega, by decide, fun l nl => ?_⟩
    refine ⟨by omega, by omega, by omega, by omega, ?_⟩
    refine loop_range (fun i σ' H' => H' = upd H l (.tup [.int 1, .int 0]) ∧ ∃ (r : Nat) (y8 y9 y10 : Option V), σ' = [some (.int d), some (.int m), some (.int top), some (.int a), some (.int b), some (.int wd), some (.int (V (2 ^ wd) (cnt i b) (r + 1))), some (.int r), y8, y9, y10] ∧ r = min top (i * b))
      ⟨rfl, 0, none, none, none, ?_, by omega⟩ (fun i σ' H' hi hP => ?_) (fun σ' H' hP => ?_)
    · rw [vs, v0, c0, if_pos (show ((0 : Nat) : Int) = 0 from rfl), Int.zero_mul]
      rfl
    · obtain ⟨e1, r, y8, y9, y10, e, er⟩ := hP
      subst e1 e
      simp only [ap_seq, ap_next, ap_asg, ap_gName, ap_ret, ap_retN, ap_drop, ap_ifS, ap_break, ap_cont, ap_par, ap_aug, ap_ip, ap_gSub, ap_gTup, ap_gNil, ap_gCons, ap_var, ap_c, ap_op, ap_un, ap_if, ap_test, ap_B, ap_and, ap_or, ap_not, ap_andV, ap_orV, ap_notV, ap_nil, ap_cons, ap_tup, ap_lst, ap_cb, ap_bm, ap_call, ap_chain, ap_rI, ap_rI0, ap_rU, ap_rEq, ap_rNe, ap_revT, ap_sl, ap_part, ap_noPart, ap_ixLI, ap_ixTI, ap_ixLV, ap_ixTV, ap_len, ap_setLI, ap_setLV, ap_appI, ap_appV, ap_tupL, ap_listS, ap_sumLI, ap_sumTI, ap_repLI, ap_intI, ap_intB, ap_eqTI, ap_neTI, ap_eqLI, ap_neLI, ap_isi, ap_for, ap_rng1, ap_rng2, ap_iList, ap_iTup, ap_lc, ap_yes, ap_cut, ap_gTupH, ap_fmt, ap_jsn, ap_jsc, ap_gcd, ap_isqrt, ap_ixL, tyV_l, wipe_nil, wipe_cons, upd_same, ap_shl, ap_shr, ap_mask, ap_comb, ap_bits, ap_rng3, List.set_cons_zero, List.set_cons_succ, List.getElem?_cons_zero, List.getElem?_cons_succ, List.cons_append, List.nil_append, List.append_nil, Option.some.injEq, V.int.injEq, V.ref.injEq, V.bl.injEq, V.str.injEq, V.ty.injEq, Bool.not_true, Bool.not_false, HO.lst.injEq, HO.tup.injEq, reduceCtorEq, Int.reduceToNat, Int.reduceLT, Int.reduceLE, Nat.reduceAdd, Int.cast_ofNat_Int, gi_c0, gi_c1, gi_c2, gi_c3, Int.natCast_inj, map_int_inj, map_nil_iff, List.cons.injEq, exists_eq_left, exists_eq_left', exists_eq, exists_eq', exists_and_left, exists_and_right, exists_const, and_assoc, and_true, true_and, and_false, false_and, or_false, false_or, or_true, true_or, ite_true, ite_false, if_true, if_false, Bool.false_eq_true, own_cons, own_nil, le1, le2, le3, le4, me_cons, me_nil, List.length_map, List.length_cons, List.length_nil, ne_eq, not_false_eq_true, not_true_eq_false, decide_eq_true_eq, CMul]
      obtain ⟨L, eL⟩ : ∃ L : Nat, L = min top ((i + 1) * b) := ⟨_, rfl⟩
      have hia : i < a := by omega
      have tdm : top ≤ 1600 := Nat.le_trans ht (Nat.mul_le_mul hd hm)
      have mb : ((1 : Int) + i) * b = (((i + 1) * b : Nat) : Int) := by
        rw [Int.natCast_mul]
        congr 1
        omega
      have sb : (i + 1) * b = i * b + b := Nat.succ_mul i b
      have eI : (if ((1 : Int) + i) * b < (top : Int) then ((1 : Int) + i) * b else (top : Int)) = (L : Int) := by
        rw [mb]
        split <;> omega
      simp only [eI]
      have hrL : r ≤ L := by omega
      have e1 : ((L : Int) - r) * wd = (((L - r) * wd : Nat) : Int) := by
        rw [Int.natCast_mul]
        congr 1
        omega
      have F1 : ∀ n, Fits (2 ^ wd) (cnt i b) n := fun n => cnt_fits (D := a) (by omega) bl n
      have F2 : ∀ M n, Fits (2 ^ wd) (rep (cnt i b) (i + 1) M) n := fun M n => rep_fits (D := a) (by omega) bl (by omega) M n
      refine ⟨.inl (by omega), .inl (by omega), (L - r) * wd, e1, shl_ok (v_abs (F1 (r + 1))) ?_, ?_⟩
      · have h1 : (r + 1) * wd ≤ 1601 * 81 := Nat.mul_le_mul (by omega) (by omega)
        have h2 : (L - r) * wd ≤ 1600 * 81 := Nat.mul_le_mul (by omega) (by omega)
        omega
      have g1 : V (2 ^ wd) (cnt i b) (r + 1) * 2 ^ ((L - r) * wd) = V (2 ^ wd) (rep (cnt i b) (i + 1) 1) (L + 1) := by
        rw [← pow_wd, ← v_grow (r + 1) (L - r) fun x h1 h2 => high i b x (by omega)]
        have : r + 1 + (L - r) = L + 1 := by omega
        rw [this]
        exact v_ext fun x _ => (rep1 _ _ _).symm
      rw [g1]
      refine while_a (fun (M : Nat) σ' H' => H' = upd H l (.tup [.int 1, .int 0]) ∧ 1 ≤ M ∧ σ' = [some (.int d), some (.int m), some (.int top), some (.int a), some (.int b), some (.int wd), some (.int (V (2 ^ wd) (rep (cnt i b) (i + 1) M) (L + 1))), some (.int L), some (.int (1 + i)), some (.int L), some (.int (M * (i + 1) : Nat))])
        (fun M => decide (M * (i + 1) ≤ L)) (fun M => L + 1 - M * (i + 1)) 1 ⟨rfl, Nat.le_refl 1, ?_⟩ (fun M σ' H' hP Q1 hQ => ?_) (fun M σ' H' hP ht => ?_) (fun M σ' H' hP ht => ?_)
      · have : ((1 * (i + 1) : Nat) : Int) = 1 + i := by omega
        rw [this]
      · obtain ⟨e1, h1, e⟩ := hP
        subst e1 e
        simp only [ap_seq, ap_next, ap_asg, ap_gName, ap_ret, ap_retN, ap_drop, ap_ifS, ap_break, ap_cont, ap_par, ap_aug, ap_ip, ap_gSub, ap_gTup, ap_gNil, ap_gCons, ap_var, ap_c, ap_op, ap_un, ap_if, ap_test, ap_B, ap_and, ap_or, ap_not, ap_andV, ap_orV, ap_notV, ap_nil, ap_cons, ap_tup, ap_lst, ap_cb, ap_bm, ap_call, ap_chain, ap_rI, ap_rI0, ap_rU, ap_rEq, ap_rNe, ap_revT, ap_sl, ap_part, ap_noPart, ap_ixLI, ap_ixTI, ap_ixLV, ap_ixTV, ap_len, ap_setLI, ap_setLV, ap_appI, ap_appV, ap_tupL, ap_listS, ap_sumLI, ap_sumTI, ap_repLI, ap_intI, ap_intB, ap_eqTI, ap_neTI, ap_eqLI, ap_neLI, ap_isi, ap_for, ap_rng1, ap_rng2, ap_iList, ap_iTup, ap_lc, ap_yes, ap_cut, ap_gTupH, ap_fmt, ap_jsn, ap_jsc, ap_gcd, ap_isqrt, ap_ixL, tyV_l, wipe_nil, wipe_cons, upd_same, ap_shl, ap_shr, ap_mask, ap_comb, ap_bits, ap_rng3, List.set_cons_zero, List.set_cons_succ, List.getElem?_cons_zero, List.getElem?_cons_succ, List.cons_append, List.nil_append, List.append_nil, Option.some.injEq, V.int.injEq, V.ref.injEq, V.bl.injEq, V.str.injEq, V.ty.injEq, Bool.not_true, Bool.not_false, HO.lst.injEq, HO.tup.injEq, reduceCtorEq, Int.reduceToNat, Int.reduceLT, Int.reduceLE, Nat.reduceAdd, Int.cast_ofNat_Int, gi_c0, gi_c1, gi_c2, gi_c3, Int.natCast_inj, map_int_inj, map_nil_iff, List.cons.injEq, exists_eq_left, exists_eq_left', exists_eq, exists_eq', exists_and_left, exists_and_right, exists_const, and_assoc, and_true, true_and, and_false, false_and, or_false, false_or, or_true, true_or, ite_true, ite_false, if_true, if_false, Bool.false_eq_true, own_cons, own_nil, le1, le2, le3, le4, me_cons, me_nil, List.length_map, List.length_cons, List.length_nil, ne_eq, not_false_eq_true, not_true_eq_false, decide_eq_true_eq]
        have : decide (((M * (i + 1) : Nat) : Int) ≤ (L : Int)) = decide (M * (i + 1) ≤ L) := by
          apply decide_eq_decide.mpr
          omega
        rw [this]
        exact hQ
      · obtain ⟨e1, h1, e⟩ := hP
        subst e1 e
        have hML : M * (i + 1) ≤ L := of_decide_eq_true ht
        have hpos : 1 ≤ M * (i + 1) := Nat.mul_le_mul h1 (by omega : 1 ≤ i + 1)
        have s2 : (M + M) * (i + 1) = M * (i + 1) + M * (i + 1) := Nat.add_mul M M (i + 1)
        simp only [ap_seq, ap_next, ap_asg, ap_gName, ap_ret, ap_retN, ap_drop, ap_ifS, ap_break, ap_cont, ap_par, ap_aug, ap_ip, ap_gSub, ap_gTup, ap_gNil, ap_gCons, ap_var, ap_c, ap_op, ap_un, ap_if, ap_test, ap_B, ap_and, ap_or, ap_not, ap_andV, ap_orV, ap_notV, ap_nil, ap_cons, ap_tup, ap_lst, ap_cb, ap_bm, ap_call, ap_chain, ap_rI, ap_rI0, ap_rU, ap_rEq, ap_rNe, ap_revT, ap_sl, ap_part, ap_noPart, ap_ixLI, ap_ixTI, ap_ixLV, ap_ixTV, ap_len, ap_setLI, ap_setLV, ap_appI, ap_appV, ap_tupL, ap_listS, ap_sumLI, ap_sumTI, ap_repLI, ap_intI, ap_intB, ap_eqTI, ap_neTI, ap_eqLI, ap_neLI, ap_isi, ap_for, ap_rng1, ap_rng2, ap_iList, ap_iTup, ap_lc, ap_yes, ap_cut, ap_gTupH, ap_fmt, ap_jsn, ap_jsc, ap_gcd, ap_isqrt, ap_ixL, tyV_l, wipe_nil, wipe_cons, upd_same, ap_shl, ap_shr, ap_mask, ap_comb, ap_bits, ap_rng3, List.set_cons_zero, List.set_cons_succ, List.getElem?_cons_zero, List.getElem?_cons_succ, List.cons_append, List.nil_append, List.append_nil, Option.some.injEq, V.int.injEq, V.ref.injEq, V.bl.injEq, V.str.injEq, V.ty.injEq, Bool.not_true, Bool.not_false, HO.lst.injEq, HO.tup.injEq, reduceCtorEq, Int.reduceToNat, Int.reduceLT, Int.reduceLE, Nat.reduceAdd, Int.cast_ofNat_Int, gi_c0, gi_c1, gi_c2, gi_c3, Int.natCast_inj, map_int_inj, map_nil_iff, List.cons.injEq, exists_eq_left, exists_eq_left', exists_eq, exists_eq', exists_and_left, exists_and_right, exists_const, and_assoc, and_true, true_and, and_false, false_and, or_false, false_or, or_true, true_or, ite_true, ite_false, if_true, if_false, Bool.false_eq_true, own_cons, own_nil, le1, le2, le3, le4, me_cons, me_nil, List.length_map, List.length_cons, List.length_nil, ne_eq, not_false_eq_true, not_true_eq_false, decide_eq_true_eq, CMul]
        refine ⟨.inl (by omega), M * (i + 1) * wd, by rw [← Int.natCast_mul], .inl (by omega), M + M, ?_, by omega, ?_, ?_⟩
        · show L + 1 - (M + M) * (i + 1) < L + 1 - M * (i + 1)
          omega
        · rw [← pow_wd]
          exact step_one hB (neg i b) (F2 M (L + 1))
        · omega
      · obtain ⟨e1, h1, e⟩ := hP
        subst e1 e
        have hML : ¬ M * (i + 1) ≤ L := of_decide_eq_false ht
        simp only [ap_seq, ap_next, ap_asg, ap_gName, ap_ret, ap_retN, ap_drop, ap_ifS, ap_break, ap_cont, ap_par, ap_aug, ap_ip, ap_gSub, ap_gTup, ap_gNil, ap_gCons, ap_var, ap_c, ap_op, ap_un, ap_if, ap_test, ap_B, ap_and, ap_or, ap_not, ap_andV, ap_orV, ap_notV, ap_nil, ap_cons, ap_tup, ap_lst, ap_cb, ap_bm, ap_call, ap_chain, ap_rI, ap_rI0, ap_rU, ap_rEq, ap_rNe, ap_revT, ap_sl, ap_part, ap_noPart, ap_ixLI, ap_ixTI, ap_ixLV, ap_ixTV, ap_len, ap_setLI, ap_setLV, ap_appI, ap_appV, ap_tupL, ap_listS, ap_sumLI, ap_sumTI, ap_repLI, ap_intI, ap_intB, ap_eqTI, ap_neTI, ap_eqLI, ap_neLI, ap_isi, ap_for, ap_rng1, ap_rng2, ap_iList, ap_iTup, ap_lc, ap_yes, ap_cut, ap_gTupH, ap_fmt, ap_jsn, ap_jsc, ap_gcd, ap_isqrt, ap_ixL, tyV_l, wipe_nil, wipe_cons, upd_same, ap_shl, ap_shr, ap_mask, ap_comb, ap_bits, ap_rng3, List.set_cons_zero, List.set_cons_succ, List.getElem?_cons_zero, List.getElem?_cons_succ, List.cons_append, List.nil_append, List.append_nil, Option.some.injEq, V.int.injEq, V.ref.injEq, V.bl.injEq, V.str.injEq, V.ty.injEq, Bool.not_true, Bool.not_false, HO.lst.injEq, HO.tup.injEq, reduceCtorEq, Int.reduceToNat, Int.reduceLT, Int.reduceLE, Nat.reduceAdd, Int.cast_ofNat_Int, gi_c0, gi_c1, gi_c2, gi_c3, Int.natCast_inj, map_int_inj, map_nil_iff, List.cons.injEq, exists_eq_left, exists_eq_left', exists_eq, exists_eq', exists_and_left, exists_and_right, exists_const, and_assoc, and_true, true_and, and_false, false_and, or_false, false_or, or_true, true_or, ite_true, ite_false, if_true, if_false, Bool.false_eq_true, own_cons, own_nil, le1, le2, le3, le4, me_cons, me_nil, List.length_map, List.length_cons, List.length_nil, ne_eq, not_false_eq_true, not_true_eq_false, decide_eq_true_eq, CMul]
        refine ⟨.inl (by omega), (b + (i + 1)) * wd, ?_, L, ?_, rfl, eL⟩
        · rw [Int.natCast_mul]
          congr 1
          omega
        · rw [← pow_wd]
          exact step_part hB (by omega) (F2 M (L + 1))
    · obtain ⟨e1, r, y8, y9, y10, e, er⟩ := hP
      subst e1 e
      simp only [ap_seq, ap_next, ap_asg, ap_gName, ap_ret, ap_retN, ap_drop, ap_ifS, ap_break, ap_cont, ap_par, ap_aug, ap_ip, ap_gSub, ap_gTup, ap_gNil, ap_gCons, ap_var, ap_c, ap_op, ap_un, ap_if, ap_test, ap_B, ap_and, ap_or, ap_not, ap_andV, ap_orV, ap_notV, ap_nil, ap_cons, ap_tup, ap_lst, ap_cb, ap_bm, ap_call, ap_chain, ap_rI, ap_rI0, ap_rU, ap_rEq, ap_rNe, ap_revT, ap_sl, ap_part, ap_noPart, ap_ixLI, ap_ixTI, ap_ixLV, ap_ixTV, ap_len, ap_setLI, ap_setLV, ap_appI, ap_appV, ap_tupL, ap_listS, ap_sumLI, ap_sumTI, ap_repLI, ap_intI, ap_intB, ap_eqTI, ap_neTI, ap_eqLI, ap_neLI, ap_isi, ap_for, ap_rng1, ap_rng2, ap_iList, ap_iTup, ap_lc, ap_yes, ap_cut, ap_gTupH, ap_fmt, ap_jsn, ap_jsc, ap_gcd, ap_isqrt, ap_ixL, tyV_l, wipe_nil, wipe_cons, upd_same, ap_shl, ap_shr, ap_mask, ap_comb, ap_bits, ap_rng3, List.set_cons_zero, List.set_cons_succ, List.getElem?_cons_zero, List.getElem?_cons_succ, List.cons_append, List.nil_append, List.append_nil, Option.some.injEq, V.int.injEq, V.ref.injEq, V.bl.injEq, V.str.injEq, V.ty.injEq, Bool.not_true, Bool.not_false, HO.lst.injEq, HO.tup.injEq, reduceCtorEq, Int.reduceToNat, Int.reduceLT, Int.reduceLE, Nat.reduceAdd, Int.cast_ofNat_Int, gi_c0, gi_c1, gi_c2, gi_c3, Int.natCast_inj, map_int_inj, map_nil_iff, List.cons.injEq, exists_eq_left, exists_eq_left', exists_eq, exists_eq', exists_and_left, exists_and_right, exists_const, and_assoc, and_true, true_and, and_false, false_and, or_false, false_or, or_true, true_or, ite_true, ite_false, if_true, if_false, Bool.false_eq_true, own_cons, own_nil, le1, le2, le3, le4, me_cons, me_nil, List.length_map, List.length_cons, List.length_nil, ne_eq, not_false_eq_true, not_true_eq_false, decide_eq_true_eq]
      have en : ((a : Int) + 1 - 1).toNat = a := by omega
      rw [en] at er ⊢
      have er2 : r = top := by omega
      rw [er2]
      refine ⟨by decide, fun p np => ?_⟩
      have sm : Same H (upd H l (.tup [.int 1, .int 0])) := same_upd nl
      refine q _ p wd (sm.trans (same_upd np)) (sm.free np) ?_ (by omega) fun n => ?_
      · rw [upd_same, hab]
      · rw [← hab]
        exact cnt_fits (D := a) (Nat.le_refl a) bl n

def sp_lowest_bits : Sp := fun vs H Q _ => ∃ (i : Int) (k : Nat), vs = [.int i, .int k] ∧ k ≤ 100000 ∧ Q (.int (i % 2 ^ k)) H
theorem ok_lowest_bits (T : Tx K mg) : FnOk P w K mg base CX0 1 T.f_lowest_bits T.d_lowest_bits p_lowest_bits sp_lowest_bits := by
  refine T.F_lowest_bits.ok sc_lowest_bits (fun vs H Q E h => ?_) (fun cdv A outer s H vs Q E hr h => ?_)
  · obtain ⟨i, k, rfl, _⟩ := h
    rfl
  · obtain ⟨i, k, rfl, hk, q⟩ := h
    refine ⟨_, (pss_one (ps_ret (pe_op op_maskK (pv 0) (pe_op op_sub (pe_op op_shlK pe_int (pv 1)) pe_int)))), ?_⟩
    rw [st_lowest_bits]
    simp only [ap_seq, ap_next, ap_asg, ap_gName, ap_ret, ap_retN, ap_drop, ap_ifS, ap_break, ap_cont, ap_par, ap_aug, ap_ip, ap_gSub, ap_gTup, ap_gNil, ap_gCons, ap_var, ap_c, ap_op, ap_un, ap_if, ap_test, ap_B, ap_and, ap_or, ap_not, ap_andV, ap_orV, ap_notV, ap_nil, ap_cons, ap_tup, ap_lst, ap_cb, ap_bm, ap_call, ap_chain, ap_rI, ap_rI0, ap_rU, ap_rEq, ap_rNe, ap_revT, ap_sl, ap_part, ap_noPart, ap_ixLI, ap_ixTI, ap_ixLV, ap_ixTV, ap_len, ap_setLI, ap_setLV, ap_appI, ap_appV, ap_tupL, ap_listS, ap_sumLI, ap_sumTI, ap_repLI, ap_intI, ap_intB, ap_eqTI, ap_neTI, ap_eqLI, ap_neLI, ap_isi, ap_for, ap_rng1, ap_rng2, ap_iList, ap_iTup, ap_lc, ap_yes, ap_cut, ap_gTupH, ap_fmt, ap_jsn, ap_jsc, ap_gcd, ap_isqrt, ap_ixL, tyV_l, wipe_nil, wipe_cons, upd_same, ap_shl, ap_shr, ap_mask, ap_comb, ap_bits, ap_rng3, List.set_cons_zero, List.set_cons_succ, List.getElem?_cons_zero, List.getElem?_cons_succ, List.cons_append, List.nil_append, List.append_nil, Option.some.injEq, V.int.injEq, V.ref.injEq, V.bl.injEq, V.str.injEq, V.ty.injEq, Bool.not_true, Bool.not_false, HO.lst.injEq, HO.tup.injEq, reduceCtorEq, Int.reduceToNat, Int.reduceLT, Int.reduceLE, Nat.reduceAdd, Int.cast_ofNat_Int, gi_c0, gi_c1, gi_c2, gi_c3, Int.natCast_inj, map_int_inj, map_nil_iff, List.cons.injEq, exists_eq_left, exists_eq_left', exists_eq, exists_eq', exists_and_left, exists_and_right, exists_const, and_assoc, and_true, true_and, and_false, false_and, or_false, false_or, or_true, true_or, ite_true, ite_false, if_true, if_false, Bool.false_eq_true, own_cons, own_nil, le1, le2, le3, le4, me_cons, me_nil, List.length_map, List.length_cons, List.length_nil, ne_eq, not_false_eq_true, not_true_eq_false, decide_eq_true_eq]
    refine ⟨shl_ok (n := 1) (by decide) (by omega), k, by rw [Int.one_mul], q⟩
/-- counts up to the top, from the top down -/
def down (d m top : Nat) (n : Nat) : List Int := (List.range n).map fun j : Nat => cnt d m ((top : Int) - j)
theorem down_next (d m top n : Nat) : down d m top n ++ [cnt d m ((top : Int) - n)] = down d m top (n + 1) := by
  unfold down
  rw [List.range_succ, List.map_append]
  rfl
theorem down_rev (d m top : Nat) : (down d m top (top + 1)).reverse = (List.range (top + 1)).map fun w : Nat => cnt d m w := by
  unfold down
  apply List.ext_getElem
  · simp
  · intro i h1 h2
    have h3 : i < top + 1 := by simpa using h2
    rw [List.getElem_reverse, List.getElem_map, List.getElem_map, List.getElem_range, List.getElem_range]
    congr 1
    rw [List.length_map, List.length_range]
    omega
theorem one_count {d m top wd x y : Nat} (hf : ∀ n, Fits (2 ^ wd) (cnt d m) n) (hx : x + y ≤ top) (hy : y < 32) :
    V (2 ^ wd) (cnt d m) (top + 1) / 2 ^ (x * wd) % 2 ^ (32 * wd) / 2 ^ (y * wd) % 2 ^ wd = cnt d m ((top : Int) - (x + y : Nat)) := by
  have hB : (0 : Int) < 2 ^ wd := Int.pow_pos (by omega)
  rw [cut_two hy, ← pow_wd, ← pow_wd, v_div hB x (hf _), v_div hB y (hf _)]
  have e : top + 1 - x - y = (top - (x + y)) + 1 := by omega
  rw [e, v_low (hf _)]
  congr 1
  omega
def sp_counts_up_to : Sp := fun vs H Q _ => ∃ (d m top : Nat), vs = [.int d, .int m, .int top] ∧ d ≤ 40 ∧ m ≤ 40 ∧ top ≤ d * m ∧
  ∀ H' p, Same H H' → H p = none → H' p = some (LI ((List.range (top + 1)).map fun w : Nat => cnt d m w)) → Q (.ref p) H'
theorem ok_counts_up_to (T : Tx K mg) : FnOk P w K mg base CX0 2 T.f_counts_up_to T.d_counts_up_to p_counts_up_to sp_counts_up_to := by
  refine T.F_counts_up_to.ok sc_counts_up_to (fun vs H Q E h => ?_) (fun cdv A outer s H vs Q E hr h => ?_)
  · obtain ⟨d, m, top, rfl, _⟩ := h
    rfl
  · obtain ⟨d, m, top, rfl, hd, hm, ht, q⟩ := h
    have tdm : top ≤ 1600 := Nat.le_trans ht (Nat.mul_le_mul hd hm)
    refine ⟨_, (pss_cons (ps_asg (pe_call (ok_packed_counts T) (hr.mono (by decide)) (by rfl) T.m_packed_counts T.F_packed_counts.kp T.b_packed_counts .nil pass0 (pa_cons (pv 0) (pa_cons (pv 1) (pa_cons (pv 2) pa_nil)))) (pg_tupH (n := 2) (by rfl) (pgs_cons (pg_name (i := 3) sc_counts_up_to.nd rfl (by first | exact .inl rfl | exact .inr rfl)) (pgs_cons (pg_name (i := 4) sc_counts_up_to.nd rfl (by first | exact .inl rfl | exact .inr rfl)) pgs_nil))))
      (pss_cons (ps_set (i := 5) sc_counts_up_to.nd rfl (Or.inl rfl) (pe_lst pa_nil))
      (pss_cons (ps_for PassesOwn.never rfl (pi_range3 (by rfl) T.z_range (pa_cons pe_int (pa_cons (pe_op op_add (pv 2) pe_int) (pa_cons (pe_glob (v := .int 32) (by rfl) T.c_PIECE ⟨_, rfl⟩) pa_nil)))) (pg_name (i := 6) sc_counts_up_to.nd rfl (by first | exact .inl rfl | exact .inr rfl))
      (pss_cons (ps_set (i := 7) sc_counts_up_to.nd rfl (Or.inl rfl) (pe_call (ok_lowest_bits T) (hr.mono (by decide)) (by rfl) T.m_lowest_bits T.F_lowest_bits.kp T.b_lowest_bits .nil pass0 (pa_cons (pe_op op_shrK (pv 3) (pe_op op_mul (pv 6) (pv 4))) (pa_cons (pe_op op_mul (pe_glob (v := .int 32) (by rfl) T.c_PIECE ⟨_, rfl⟩) (pv 4)) pa_nil))))
      (pss_one (ps_for PassesOwn.never rfl (pi_range1 (by rfl) T.z_range (pa_cons (pe_callB (call_min2 rfl) (by rfl) T.z_min (by decide +kernel) (pa_cons (pe_glob (v := .int 32) (by rfl) T.c_PIECE ⟨_, rfl⟩) (pa_cons (pe_op op_sub (pe_op op_add (pv 2) pe_int) (pv 6)) pa_nil))) pa_nil)) (pg_name (i := 8) sc_counts_up_to.nd rfl (by first | exact .inl rfl | exact .inr rfl))
      (pss_one (ps_expr (pe_bm PySem.F.plainAttrs_list PySem.F.slot_list_append PySem.F.type_list_append mt_appI (pv 5) (pa_cons (pe_call (ok_lowest_bits T) (hr.mono (by decide)) (by rfl) T.m_lowest_bits T.F_lowest_bits.kp T.b_lowest_bits .nil pass0 (pa_cons (pe_op op_shrK (pv 7) (pe_op op_mul (pv 8) (pv 4))) (pa_cons (pv 4) pa_nil))) pa_nil))))))))
      (pss_one (ps_ret (pe_revL (pv 5))))))), ?_⟩
    rw [st_counts_up_to]
    simp only [ap_seq, ap_next, ap_asg, ap_gName, ap_ret, ap_retN, ap_drop, ap_ifS, ap_break, ap_cont, ap_par, ap_aug, ap_ip, ap_gSub, ap_gTup, ap_gNil, ap_gCons, ap_var, ap_c, ap_op, ap_un, ap_if, ap_test, ap_B, ap_and, ap_or, ap_not, ap_andV, ap_orV, ap_notV, ap_nil, ap_cons, ap_tup, ap_lst, ap_cb, ap_bm, ap_call, ap_chain, ap_rI, ap_rI0, ap_rU, ap_rEq, ap_rNe, ap_revT, ap_sl, ap_part, ap_noPart, ap_ixLI, ap_ixTI, ap_ixLV, ap_ixTV, ap_len, ap_setLI, ap_setLV, ap_appI, ap_appV, ap_tupL, ap_listS, ap_sumLI, ap_sumTI, ap_repLI, ap_intI, ap_intB, ap_eqTI, ap_neTI, ap_eqLI, ap_neLI, ap_isi, ap_for, ap_rng1, ap_rng2, ap_iList, ap_iTup, ap_lc, ap_yes, ap_cut, ap_gTupH, ap_fmt, ap_jsn, ap_jsc, ap_gcd, ap_isqrt, ap_ixL, tyV_l, wipe_nil, wipe_cons, upd_same, ap_shl, ap_shr, ap_mask, ap_comb, ap_bits, ap_rng3, List.set_cons_zero, List.set_cons_succ, List.getElem?_cons_zero, List.getElem?_cons_succ, List.cons_append, List.nil_append, List.append_nil, Option.some.injEq, V.int.injEq, V.ref.injEq, V.bl.injEq, V.str.injEq, V.ty.injEq, Bool.not_true, Bool.not_false, HO.lst.injEq, HO.tup.injEq, reduceCtorEq, Int.reduceToNat, Int.reduceLT, Int.reduceLE, Nat.reduceAdd, Int.cast_ofNat_Int, gi_c0, gi_c1, gi_c2, gi_c3, Int.natCast_inj, map_int_inj, map_nil_iff, List.cons.injEq, exists_eq_left, exists_eq_left', exists_eq, exists_eq', exists_and_left, exists_and_right, exists_const, and_assoc, and_true, true_and, and_false, false_and, or_false, false_or, or_true, true_or, ite_true, ite_false, if_true, if_false, Bool.false_eq_true, own_cons, own_nil, le1, le2, le3, le4, me_cons, me_nil, List.length_map, List.length_cons, List.length_nil, ne_eq, not_false_eq_true, not_true_eq_false, decide_eq_true_eq, sp_packed_counts]
    refine ⟨hd, hm, ht, fun H1 p wd s1 np e1 hwd hf => ?_⟩
    simp only [ap_seq, ap_next, ap_asg, ap_gName, ap_ret, ap_retN, ap_drop, ap_ifS, ap_break, ap_cont, ap_par, ap_aug, ap_ip, ap_gSub, ap_gTup, ap_gNil, ap_gCons, ap_var, ap_c, ap_op, ap_un, ap_if, ap_test, ap_B, ap_and, ap_or, ap_not, ap_andV, ap_orV, ap_notV, ap_nil, ap_cons, ap_tup, ap_lst, ap_cb, ap_bm, ap_call, ap_chain, ap_rI, ap_rI0, ap_rU, ap_rEq, ap_rNe, ap_revT, ap_sl, ap_part, ap_noPart, ap_ixLI, ap_ixTI, ap_ixLV, ap_ixTV, ap_len, ap_setLI, ap_setLV, ap_appI, ap_appV, ap_tupL, ap_listS, ap_sumLI, ap_sumTI, ap_repLI, ap_intI, ap_intB, ap_eqTI, ap_neTI, ap_eqLI, ap_neLI, ap_isi, ap_for, ap_rng1, ap_rng2, ap_iList, ap_iTup, ap_lc, ap_yes, ap_cut, ap_gTupH, ap_fmt, ap_jsn, ap_jsc, ap_gcd, ap_isqrt, ap_ixL, tyV_l, wipe_nil, wipe_cons, upd_same, ap_shl, ap_shr, ap_mask, ap_comb, ap_bits, ap_rng3, List.set_cons_zero, List.set_cons_succ, List.getElem?_cons_zero, List.getElem?_cons_succ, List.cons_append, List.nil_append, List.append_nil, Option.some.injEq, V.int.injEq, V.ref.injEq, V.bl.injEq, V.str.injEq, V.ty.injEq, Bool.not_true, Bool.not_false, HO.lst.injEq, HO.tup.injEq, reduceCtorEq, Int.reduceToNat, Int.reduceLT, Int.reduceLE, Nat.reduceAdd, Int.cast_ofNat_Int, gi_c0, gi_c1, gi_c2, gi_c3, Int.natCast_inj, map_int_inj, map_nil_iff, List.cons.injEq, exists_eq_left, exists_eq_left', exists_eq, exists_eq', exists_and_left, exists_and_right, exists_const, and_assoc, and_true, true_and, and_false, false_and, or_false, false_or, or_true, true_or, ite_true, ite_false, if_true, if_false, Bool.false_eq_true, own_cons, own_nil, le1, le2, le3, le4, me_cons, me_nil, List.length_map, List.length_cons, List.length_nil, ne_eq, not_false_eq_true, not_true_eq_false, decide_eq_true_eq, e1]
    refine ⟨by decide, fun l nl => ?_⟩
    refine ⟨(top / 32 + 1), rgc_up (by omega) (by omega) (by omega) (by omega) (by omega) (by omega) ?_, ?_⟩
    · rw [if_pos (by omega)]
      omega
    have n1 : H l = none := s1.free nl
    refine loop_rangeC (fun i σ' H' => Same H1 H' ∧ ∃ (z : Nat) (y6 y7 y8 : Option V), σ' = [some (.int d), some (.int m), some (.int top), some (.int (V (2 ^ wd) (cnt d m) (top + 1))), some (.int wd), some (.ref l), y6, y7, y8] ∧ z = min (i * 32) (top + 1) ∧ H' l = some (LI (down d m top z)))
      ⟨same_upd nl, 0, none, none, none, rfl, by omega, upd_same⟩ (fun i σ' H' hi hP => ?_) (fun σ' H' hP => ?_)
    · obtain ⟨sm, z, y6, y7, y8, e, ez, el⟩ := hP
      subst e
      have hi2 : i * 32 ≤ top := by omega
      have ez2 : z = i * 32 := by omega
      have ib : (0 : Int) + i * 32 = ((i * 32 : Nat) : Int) := by omega
      simp only [ib]
      simp only [ap_seq, ap_next, ap_asg, ap_gName, ap_ret, ap_retN, ap_drop, ap_ifS, ap_break, ap_cont, ap_par, ap_aug, ap_ip, ap_gSub, ap_gTup, ap_gNil, ap_gCons, ap_var, ap_c, ap_op, ap_un, ap_if, ap_test, ap_B, ap_and, ap_or, ap_not, ap_andV, ap_orV, ap_notV, ap_nil, ap_cons, ap_tup, ap_lst, ap_cb, ap_bm, ap_call, ap_chain, ap_rI, ap_rI0, ap_rU, ap_rEq, ap_rNe, ap_revT, ap_sl, ap_part, ap_noPart, ap_ixLI, ap_ixTI, ap_ixLV, ap_ixTV, ap_len, ap_setLI, ap_setLV, ap_appI, ap_appV, ap_tupL, ap_listS, ap_sumLI, ap_sumTI, ap_repLI, ap_intI, ap_intB, ap_eqTI, ap_neTI, ap_eqLI, ap_neLI, ap_isi, ap_for, ap_rng1, ap_rng2, ap_iList, ap_iTup, ap_lc, ap_yes, ap_cut, ap_gTupH, ap_fmt, ap_jsn, ap_jsc, ap_gcd, ap_isqrt, ap_ixL, tyV_l, wipe_nil, wipe_cons, upd_same, ap_shl, ap_shr, ap_mask, ap_comb, ap_bits, ap_rng3, List.set_cons_zero, List.set_cons_succ, List.getElem?_cons_zero, List.getElem?_cons_succ, List.cons_append, List.nil_append, List.append_nil, Option.some.injEq, V.int.injEq, V.ref.injEq, V.bl.injEq, V.str.injEq, V.ty.injEq, Bool.not_true, Bool.not_false, HO.lst.injEq, HO.tup.injEq, reduceCtorEq, Int.reduceToNat, Int.reduceLT, Int.reduceLE, Nat.reduceAdd, Int.cast_ofNat_Int, gi_c0, gi_c1, gi_c2, gi_c3, Int.natCast_inj, map_int_inj, map_nil_iff, List.cons.injEq, exists_eq_left, exists_eq_left', exists_eq, exists_eq', exists_and_left, exists_and_right, exists_const, and_assoc, and_true, true_and, and_false, false_and, or_false, false_or, or_true, true_or, ite_true, ite_false, if_true, if_false, Bool.false_eq_true, own_cons, own_nil, le1, le2, le3, le4, me_cons, me_nil, List.length_map, List.length_cons, List.length_nil, ne_eq, not_false_eq_true, not_true_eq_false, decide_eq_true_eq, sp_lowest_bits, CMul]
      have b1 : i * 32 * wd ≤ 1600 * 81 := Nat.mul_le_mul (by omega) (by omega)
      refine ⟨.inl (by omega), i * 32 * wd, by rw [← Int.natCast_mul], .inl (by omega), 32 * wd, by rw [Int.natCast_mul]; rfl, by omega, ?_⟩
      have emin : (if (top : Int) + 1 - ((i * 32 : Nat) : Int) < 32 then (top : Int) + 1 - ((i * 32 : Nat) : Int) else 32) = ((min 32 (top + 1 - i * 32) : Nat) : Int) := by
        split <;> omega
      rw [emin]
      refine ⟨by omega, by omega, ?_⟩
      obtain ⟨N, eN⟩ : ∃ N : Nat, N = min 32 (top + 1 - i * 32) := ⟨_, rfl⟩
      rw [← eN, Int.toNat_natCast]
      refine loop_range (fun j σ' H' => Same H1 H' ∧ (∃ y8 : Option V, σ' = [some (.int d), some (.int m), some (.int top), some (.int (V (2 ^ wd) (cnt d m) (top + 1))), some (.int wd), some (.ref l), some (.int (i * 32 : Nat)), some (.int (V (2 ^ wd) (cnt d m) (top + 1) / 2 ^ (i * 32 * wd) % 2 ^ (32 * wd))), y8]) ∧ H' l = some (LI (down d m top (i * 32 + j))))
        ⟨sm, ⟨_, rfl⟩, by rw [el, ez2]; rfl⟩ (fun j σ' H'' hj hP => ?_) (fun σ' H'' hP => ?_)
      · obtain ⟨sm2, ⟨y8', e⟩, el2⟩ := hP
        subst e
        have b2 : j * wd ≤ 32 * 81 := Nat.mul_le_mul (by omega) (by omega)
        have jb : (0 : Int) + j = (j : Int) := Int.zero_add _
        have dl : (down d m top (i * 32 + j)).length = i * 32 + j := by simp [down]
        simp only [jb]
        simp only [ap_seq, ap_next, ap_asg, ap_gName, ap_ret, ap_retN, ap_drop, ap_ifS, ap_break, ap_cont, ap_par, ap_aug, ap_ip, ap_gSub, ap_gTup, ap_gNil, ap_gCons, ap_var, ap_c, ap_op, ap_un, ap_if, ap_test, ap_B, ap_and, ap_or, ap_not, ap_andV, ap_orV, ap_notV, ap_nil, ap_cons, ap_tup, ap_lst, ap_cb, ap_bm, ap_call, ap_chain, ap_rI, ap_rI0, ap_rU, ap_rEq, ap_rNe, ap_revT, ap_sl, ap_part, ap_noPart, ap_ixLI, ap_ixTI, ap_ixLV, ap_ixTV, ap_len, ap_setLI, ap_setLV, ap_appI, ap_appV, ap_tupL, ap_listS, ap_sumLI, ap_sumTI, ap_repLI, ap_intI, ap_intB, ap_eqTI, ap_neTI, ap_eqLI, ap_neLI, ap_isi, ap_for, ap_rng1, ap_rng2, ap_iList, ap_iTup, ap_lc, ap_yes, ap_cut, ap_gTupH, ap_fmt, ap_jsn, ap_jsc, ap_gcd, ap_isqrt, ap_ixL, tyV_l, wipe_nil, wipe_cons, upd_same, ap_shl, ap_shr, ap_mask, ap_comb, ap_bits, ap_rng3, List.set_cons_zero, List.set_cons_succ, List.getElem?_cons_zero, List.getElem?_cons_succ, List.cons_append, List.nil_append, List.append_nil, Option.some.injEq, V.int.injEq, V.ref.injEq, V.bl.injEq, V.str.injEq, V.ty.injEq, Bool.not_true, Bool.not_false, HO.lst.injEq, HO.tup.injEq, reduceCtorEq, Int.reduceToNat, Int.reduceLT, Int.reduceLE, Nat.reduceAdd, Int.cast_ofNat_Int, gi_c0, gi_c1, gi_c2, gi_c3, Int.natCast_inj, map_int_inj, map_nil_iff, List.cons.injEq, exists_eq_left, exists_eq_left', exists_eq, exists_eq', exists_and_left, exists_and_right, exists_const, and_assoc, and_true, true_and, and_false, false_and, or_false, false_or, or_true, true_or, ite_true, ite_false, if_true, if_false, Bool.false_eq_true, own_cons, own_nil, le1, le2, le3, le4, me_cons, me_nil, List.length_map, List.length_cons, List.length_nil, ne_eq, not_false_eq_true, not_true_eq_false, decide_eq_true_eq, CMul, el2]
        have sz1 : i * 32 + j < sizeLine := by
          rw [sizeLine_eq]
          omega
        refine ⟨.inl (by omega), j * wd, by rw [← Int.natCast_mul], ?_⟩
        refine ⟨_, wd, rfl, by omega, _, rfl, _, el2, by omega, same_mut sm2 nl, ?_⟩
        rw [one_count (x := i * 32) (y := j) hf (by omega) (by omega)]
        exact down_next d m top (i * 32 + j)
      · obtain ⟨sm2, ⟨y8', e⟩, el2⟩ := hP
        subst e
        refine ⟨sm2, ⟨_, _, _, rfl⟩, ?_⟩
        have : min ((i + 1) * 32) (top + 1) = i * 32 + N := by omega
        rw [this]
        exact el2
    · obtain ⟨sm, z, y6, y7, y8, e, ez, el⟩ := hP
      subst e
      have ez3 : z = top + 1 := by omega
      rw [ez3] at el
      refine ⟨.ref l, rfl, l, _, rfl, sqL_of el, fun p np2 => ?_⟩
      rw [← List.map_reverse, down_rev]
      exact q _ p ((s1.trans sm).trans (same_upd np2)) ((s1.trans sm).free np2) upd_same

def sp_box_count : Sp := fun vs H Q _ => ∃ (x : Int) (d m : Nat), vs = [.int x, .int d, .int m] ∧ d ≤ 40 ∧ m ≤ 40 ∧ 0 ≤ x ∧ x ≤ 1600 ∧
  ∀ H', Same H H' → Q (.int (cnt d m x)) H'
theorem ok_box_count (T : Tx K mg) : FnOk P w K mg base CX0 4 T.f_box_count T.d_box_count p_box_count sp_box_count := by
  refine T.F_box_count.ok sc_box_count (fun vs H Q E h => ?_) (fun cdv A outer s H vs Q E hr h => ?_)
  · obtain ⟨x, d, m, rfl, _⟩ := h
    rfl
  · obtain ⟨x, d, m, rfl, hd, hm, h0, h1, q⟩ := h
    have hdm : d * m ≤ 1600 := Nat.mul_le_mul hd hm
    have edm : (d : Int) * (m : Int) = ((d * m : Nat) : Int) := by rw [Int.natCast_mul]
    refine ⟨_, (pss_cons (ps_expr (pe_call (ok_need_number T) (hr.mono (by decide)) (by rfl) T.m_need_number T.F_need_number.kp T.b_need_number .nil pass0 (pa_cons (pv 0) (pa_cons pe_int (pa_cons (pe_glob (v := .int 1600) (by rfl) T.c_MAX_WEIGHT ⟨_, rfl⟩) pa_nil)))))
      (pss_cons (ps_expr (pe_call (ok_need_number T) (hr.mono (by decide)) (by rfl) T.m_need_number T.F_need_number.kp T.b_need_number .nil pass0 (pa_cons (pv 1) (pa_cons pe_int (pa_cons (pe_glob (v := .int 40) (by rfl) T.c_MAX_PARTS ⟨_, rfl⟩) pa_nil)))))
      (pss_cons (ps_expr (pe_call (ok_need_number T) (hr.mono (by decide)) (by rfl) T.m_need_number T.F_need_number.kp T.b_need_number .nil pass0 (pa_cons (pv 2) (pa_cons pe_int (pa_cons (pe_glob (v := .int 40) (by rfl) T.c_MAX_PARTS ⟨_, rfl⟩) pa_nil)))))
      (pss_cons (ps_set (i := 3) sc_box_count.nd rfl (Or.inl rfl) (pe_op op_sub (pe_op op_mul (pv 1) (pv 2)) (pv 0)))
      (pss_cons (ps_if (pt_cmpR op_lt (pv 3) pe_int (nomark _)) (pss_one (ps_ret pe_int)) pss_nil)
      (pss_cons (ps_asg (pe_call (ok_packed_counts T) (hr.mono (by decide)) (by rfl) T.m_packed_counts T.F_packed_counts.kp T.b_packed_counts .nil pass0 (pa_cons (pv 1) (pa_cons (pv 2) (pa_cons (pe_callB (call_min2 rfl) (by rfl) T.z_min (by decide +kernel) (pa_cons (pv 0) (pa_cons (pv 3) pa_nil))) pa_nil)))) (pg_tupH (n := 2) (by rfl) (pgs_cons (pg_name (i := 4) sc_box_count.nd rfl (by first | exact .inl rfl | exact .inr rfl)) (pgs_cons (pg_name (i := 5) sc_box_count.nd rfl (by first | exact .inl rfl | exact .inr rfl)) pgs_nil))))
      (pss_one (ps_ret (pe_call (ok_lowest_bits T) (hr.mono (by decide)) (by rfl) T.m_lowest_bits T.F_lowest_bits.kp T.b_lowest_bits .nil pass0 (pa_cons (pv 4) (pa_cons (pv 5) pa_nil))))))))))), ?_⟩
    rw [st_box_count]
    simp only [ap_seq, ap_next, ap_asg, ap_gName, ap_ret, ap_retN, ap_drop, ap_ifS, ap_break, ap_cont, ap_par, ap_aug, ap_ip, ap_gSub, ap_gTup, ap_gNil, ap_gCons, ap_var, ap_c, ap_op, ap_un, ap_if, ap_test, ap_B, ap_and, ap_or, ap_not, ap_andV, ap_orV, ap_notV, ap_nil, ap_cons, ap_tup, ap_lst, ap_cb, ap_bm, ap_call, ap_chain, ap_rI, ap_rI0, ap_rU, ap_rEq, ap_rNe, ap_revT, ap_sl, ap_part, ap_noPart, ap_ixLI, ap_ixTI, ap_ixLV, ap_ixTV, ap_len, ap_setLI, ap_setLV, ap_appI, ap_appV, ap_tupL, ap_listS, ap_sumLI, ap_sumTI, ap_repLI, ap_intI, ap_intB, ap_eqTI, ap_neTI, ap_eqLI, ap_neLI, ap_isi, ap_for, ap_rng1, ap_rng2, ap_iList, ap_iTup, ap_lc, ap_yes, ap_cut, ap_gTupH, ap_fmt, ap_jsn, ap_jsc, ap_gcd, ap_isqrt, ap_ixL, tyV_l, wipe_nil, wipe_cons, upd_same, ap_shl, ap_shr, ap_mask, ap_comb, ap_bits, ap_rng3, List.set_cons_zero, List.set_cons_succ, List.getElem?_cons_zero, List.getElem?_cons_succ, List.cons_append, List.nil_append, List.append_nil, Option.some.injEq, V.int.injEq, V.ref.injEq, V.bl.injEq, V.str.injEq, V.ty.injEq, Bool.not_true, Bool.not_false, HO.lst.injEq, HO.tup.injEq, reduceCtorEq, Int.reduceToNat, Int.reduceLT, Int.reduceLE, Nat.reduceAdd, Int.cast_ofNat_Int, gi_c0, gi_c1, gi_c2, gi_c3, Int.natCast_inj, map_int_inj, map_nil_iff, List.cons.injEq, exists_eq_left, exists_eq_left', exists_eq, exists_eq', exists_and_left, exists_and_right, exists_const, and_assoc, and_true, true_and, and_false, false_and, or_false, false_or, or_true, true_or, ite_true, ite_false, if_true, if_false, Bool.false_eq_true, own_cons, own_nil, le1, le2, le3, le4, me_cons, me_nil, List.length_map, List.length_cons, List.length_nil, ne_eq, not_false_eq_true, not_true_eq_false, decide_eq_true_eq, sp_need_number, CMul]
    refine ⟨by omega, by omega, by omega, by omega, by omega, by omega, by omega, by omega, by omega, by omega, by omega, by omega, .inl (by omega), ?_⟩
    rw [edm]
    by_cases c : ((d * m : Nat) : Int) - x < 0
    · rw [if_pos c]
      rw [← high d m x (by omega)]
      exact q H (Same.refl H)
    · rw [if_neg c]
      simp only [ap_seq, ap_next, ap_asg, ap_gName, ap_ret, ap_retN, ap_drop, ap_ifS, ap_break, ap_cont, ap_par, ap_aug, ap_ip, ap_gSub, ap_gTup, ap_gNil, ap_gCons, ap_var, ap_c, ap_op, ap_un, ap_if, ap_test, ap_B, ap_and, ap_or, ap_not, ap_andV, ap_orV, ap_notV, ap_nil, ap_cons, ap_tup, ap_lst, ap_cb, ap_bm, ap_call, ap_chain, ap_rI, ap_rI0, ap_rU, ap_rEq, ap_rNe, ap_revT, ap_sl, ap_part, ap_noPart, ap_ixLI, ap_ixTI, ap_ixLV, ap_ixTV, ap_len, ap_setLI, ap_setLV, ap_appI, ap_appV, ap_tupL, ap_listS, ap_sumLI, ap_sumTI, ap_repLI, ap_intI, ap_intB, ap_eqTI, ap_neTI, ap_eqLI, ap_neLI, ap_isi, ap_for, ap_rng1, ap_rng2, ap_iList, ap_iTup, ap_lc, ap_yes, ap_cut, ap_gTupH, ap_fmt, ap_jsn, ap_jsc, ap_gcd, ap_isqrt, ap_ixL, tyV_l, wipe_nil, wipe_cons, upd_same, ap_shl, ap_shr, ap_mask, ap_comb, ap_bits, ap_rng3, List.set_cons_zero, List.set_cons_succ, List.getElem?_cons_zero, List.getElem?_cons_succ, List.cons_append, List.nil_append, List.append_nil, Option.some.injEq, V.int.injEq, V.ref.injEq, V.bl.injEq, V.str.injEq, V.ty.injEq, Bool.not_true, Bool.not_false, HO.lst.injEq, HO.tup.injEq, reduceCtorEq, Int.reduceToNat, Int.reduceLT, Int.reduceLE, Nat.reduceAdd, Int.cast_ofNat_Int, gi_c0, gi_c1, gi_c2, gi_c3, Int.natCast_inj, map_int_inj, map_nil_iff, List.cons.injEq, exists_eq_left, exists_eq_left', exists_eq, exists_eq', exists_and_left, exists_and_right, exists_const, and_assoc, and_true, true_and, and_false, false_and, or_false, false_or, or_true, true_or, ite_true, ite_false, if_true, if_false, Bool.false_eq_true, own_cons, own_nil, le1, le2, le3, le4, me_cons, me_nil, List.length_map, List.length_cons, List.length_nil, ne_eq, not_false_eq_true, not_true_eq_false, decide_eq_true_eq, sp_packed_counts]
      obtain ⟨t, et⟩ : ∃ t : Nat, (if ((d * m : Nat) : Int) - x < x then ((d * m : Nat) : Int) - x else x) = t := ⟨(if ((d * m : Nat) : Int) - x < x then ((d * m : Nat) : Int) - x else x).toNat, by split <;> omega⟩
      have ht : t ≤ d * m := by
        by_cases c2 : ((d * m : Nat) : Int) - x < x
        · rw [if_pos c2] at et
          omega
        · rw [if_neg c2] at et
          omega
      have hv : cnt d m t = cnt d m x := by
        by_cases c2 : ((d * m : Nat) : Int) - x < x
        · rw [if_pos c2] at et
          rw [← et, pal]
        · rw [if_neg c2] at et
          rw [et]
      refine ⟨t, et, hd, hm, ht, fun H2 p wd s2 np e2 hwd hf => ?_⟩
      refine ⟨_, e2, rfl, _, _, rfl, _, _, rfl, rfl, ?_⟩
      refine ⟨_, wd, rfl, by omega, ?_⟩
      rw [v_low (hf _), hv]
      exact q H2 s2
def sp_box_row : Sp := fun vs H Q _ => ∃ (d m : Nat), vs = [.int d, .int m] ∧ d ≤ 40 ∧ m ≤ 40 ∧
  ∀ H' p, Same H H' → H p = none → H' p = some (TI (crow d m)) → Q (.ref p) H'
theorem ok_box_row (T : Tx K mg) : FnOk P w K mg base CX0 4 T.f_box_row T.d_box_row p_box_row sp_box_row := by
  refine T.F_box_row.ok sc_box_row (fun vs H Q E h => ?_) (fun cdv A outer s H vs Q E hr h => ?_)
  · obtain ⟨d, m, rfl, _⟩ := h
    rfl
  · obtain ⟨d, m, rfl, hd, hm, q⟩ := h
    have hdm : d * m ≤ 1600 := Nat.mul_le_mul hd hm
    have edm : (d : Int) * (m : Int) = ((d * m : Nat) : Int) := by rw [Int.natCast_mul]
    refine ⟨_, (pss_cons (ps_expr (pe_call (ok_need_number T) (hr.mono (by decide)) (by rfl) T.m_need_number T.F_need_number.kp T.b_need_number .nil pass0 (pa_cons (pv 0) (pa_cons pe_int (pa_cons (pe_glob (v := .int 40) (by rfl) T.c_MAX_PARTS ⟨_, rfl⟩) pa_nil)))))
      (pss_cons (ps_expr (pe_call (ok_need_number T) (hr.mono (by decide)) (by rfl) T.m_need_number T.F_need_number.kp T.b_need_number .nil pass0 (pa_cons (pv 1) (pa_cons pe_int (pa_cons (pe_glob (v := .int 40) (by rfl) T.c_MAX_PARTS ⟨_, rfl⟩) pa_nil)))))
      (pss_cons (ps_set (i := 2) sc_box_row.nd rfl (Or.inr rfl) (pe_op op_mul (pv 0) (pv 1)))
      (pss_cons (ps_set (i := 3) sc_box_row.nd rfl (Or.inr rfl) (pe_call (ok_counts_up_to T) (hr.mono (by decide)) (by rfl) T.m_counts_up_to T.F_counts_up_to.kp T.b_counts_up_to .nil pass0 (pa_cons (pv 0) (pa_cons (pv 1) (pa_cons (pe_op op_fdiv (pv 2) pe_int) pa_nil)))))
      (pss_one (ps_ret (pe_callTy cr_tupL (by rfl) T.z_tuple (by decide +kernel) (pa_cons (pe_lc (own := [("weight", 4)]) (g := gName 4) (tt := tYes) rfl sc_box_row.nd (pi_range1 (by rfl) T.z_range (pa_cons (pe_op op_add (pv 2) pe_int) pa_nil)) (blkOk_by (N := n_box_row) (sc := defScope s_box_row) (by decide +kernel)) (fun _ _ _ _ _ => (pg_name (i := 4) sc_box_row.nd rfl (by first | exact .inl rfl | exact .inr rfl))) (fun _ _ _ _ _ => pts_nil) (fun _ _ _ _ _ => (pe_ix ix_LI (pv 3) (pe_callB (call_min2 rfl) (by rfl) T.z_min (by decide +kernel) (pa_cons (pv 4) (pa_cons (pe_op op_sub (pv 2) (pv 4)) pa_nil))) (fun _ _ => rfl)))) pa_nil)))))))), ?_⟩
    rw [st_box_row]
    simp only [ap_seq, ap_next, ap_asg, ap_gName, ap_ret, ap_retN, ap_drop, ap_ifS, ap_break, ap_cont, ap_par, ap_aug, ap_ip, ap_gSub, ap_gTup, ap_gNil, ap_gCons, ap_var, ap_c, ap_op, ap_un, ap_if, ap_test, ap_B, ap_and, ap_or, ap_not, ap_andV, ap_orV, ap_notV, ap_nil, ap_cons, ap_tup, ap_lst, ap_cb, ap_bm, ap_call, ap_chain, ap_rI, ap_rI0, ap_rU, ap_rEq, ap_rNe, ap_revT, ap_sl, ap_part, ap_noPart, ap_ixLI, ap_ixTI, ap_ixLV, ap_ixTV, ap_len, ap_setLI, ap_setLV, ap_appI, ap_appV, ap_tupL, ap_listS, ap_sumLI, ap_sumTI, ap_repLI, ap_intI, ap_intB, ap_eqTI, ap_neTI, ap_eqLI, ap_neLI, ap_isi, ap_for, ap_rng1, ap_rng2, ap_iList, ap_iTup, ap_lc, ap_yes, ap_cut, ap_gTupH, ap_fmt, ap_jsn, ap_jsc, ap_gcd, ap_isqrt, ap_ixL, tyV_l, wipe_nil, wipe_cons, upd_same, ap_shl, ap_shr, ap_mask, ap_comb, ap_bits, ap_rng3, List.set_cons_zero, List.set_cons_succ, List.getElem?_cons_zero, List.getElem?_cons_succ, List.cons_append, List.nil_append, List.append_nil, Option.some.injEq, V.int.injEq, V.ref.injEq, V.bl.injEq, V.str.injEq, V.ty.injEq, Bool.not_true, Bool.not_false, HO.lst.injEq, HO.tup.injEq, reduceCtorEq, Int.reduceToNat, Int.reduceLT, Int.reduceLE, Nat.reduceAdd, Int.cast_ofNat_Int, gi_c0, gi_c1, gi_c2, gi_c3, Int.natCast_inj, map_int_inj, map_nil_iff, List.cons.injEq, exists_eq_left, exists_eq_left', exists_eq, exists_eq', exists_and_left, exists_and_right, exists_const, and_assoc, and_true, true_and, and_false, false_and, or_false, false_or, or_true, true_or, ite_true, ite_false, if_true, if_false, Bool.false_eq_true, own_cons, own_nil, le1, le2, le3, le4, me_cons, me_nil, List.length_map, List.length_cons, List.length_nil, ne_eq, not_false_eq_true, not_true_eq_false, decide_eq_true_eq, sp_need_number, sp_counts_up_to, CMul, CDiv]
    rw [edm]
    refine ⟨by omega, by omega, by omega, by omega, by omega, by omega, by omega, by omega, .inl (by omega), d * m / 2, by omega, hd, hm, by omega, fun H2 p s2 np e2 => ?_⟩
    refine ⟨by omega, by omega, ?_⟩
    have en : (((d * m : Nat) : Int) + 1).toNat = d * m + 1 := by omega
    rw [en]
    refine lc_rangeI (fun i => cnt d m i) (by omega) (fun x => rfl) (fun i H' hi sm Q' hQ => ?_) (fun a H' na sm ea => ?_)
    · have e3 := sm _ _ e2
      have hl : ((List.range (d * m / 2 + 1)).map fun w : Nat => cnt d m w).length = d * m / 2 + 1 := by simp
      simp only [ap_seq, ap_next, ap_asg, ap_gName, ap_ret, ap_retN, ap_drop, ap_ifS, ap_break, ap_cont, ap_par, ap_aug, ap_ip, ap_gSub, ap_gTup, ap_gNil, ap_gCons, ap_var, ap_c, ap_op, ap_un, ap_if, ap_test, ap_B, ap_and, ap_or, ap_not, ap_andV, ap_orV, ap_notV, ap_nil, ap_cons, ap_tup, ap_lst, ap_cb, ap_bm, ap_call, ap_chain, ap_rI, ap_rI0, ap_rU, ap_rEq, ap_rNe, ap_revT, ap_sl, ap_part, ap_noPart, ap_ixLI, ap_ixTI, ap_ixLV, ap_ixTV, ap_len, ap_setLI, ap_setLV, ap_appI, ap_appV, ap_tupL, ap_listS, ap_sumLI, ap_sumTI, ap_repLI, ap_intI, ap_intB, ap_eqTI, ap_neTI, ap_eqLI, ap_neLI, ap_isi, ap_for, ap_rng1, ap_rng2, ap_iList, ap_iTup, ap_lc, ap_yes, ap_cut, ap_gTupH, ap_fmt, ap_jsn, ap_jsc, ap_gcd, ap_isqrt, ap_ixL, tyV_l, wipe_nil, wipe_cons, upd_same, ap_shl, ap_shr, ap_mask, ap_comb, ap_bits, ap_rng3, List.set_cons_zero, List.set_cons_succ, List.getElem?_cons_zero, List.getElem?_cons_succ, List.cons_append, List.nil_append, List.append_nil, Option.some.injEq, V.int.injEq, V.ref.injEq, V.bl.injEq, V.str.injEq, V.ty.injEq, Bool.not_true, Bool.not_false, HO.lst.injEq, HO.tup.injEq, reduceCtorEq, Int.reduceToNat, Int.reduceLT, Int.reduceLE, Nat.reduceAdd, Int.cast_ofNat_Int, gi_c0, gi_c1, gi_c2, gi_c3, Int.natCast_inj, map_int_inj, map_nil_iff, List.cons.injEq, exists_eq_left, exists_eq_left', exists_eq, exists_eq', exists_and_left, exists_and_right, exists_const, and_assoc, and_true, true_and, and_false, false_and, or_false, false_or, or_true, true_or, ite_true, ite_false, if_true, if_false, Bool.false_eq_true, own_cons, own_nil, le1, le2, le3, le4, me_cons, me_nil, List.length_map, List.length_cons, List.length_nil, ne_eq, not_false_eq_true, not_true_eq_false, decide_eq_true_eq, e3, hl]
      obtain ⟨t, et⟩ : ∃ t : Nat, (if ((d * m : Nat) : Int) - (0 + i) < 0 + i then ((d * m : Nat) : Int) - (0 + i) else 0 + i) = t := ⟨(if ((d * m : Nat) : Int) - (0 + i) < 0 + i then ((d * m : Nat) : Int) - (0 + i) else 0 + i).toNat, by split <;> omega⟩
      have key : t ≤ d * m / 2 ∧ cnt d m t = cnt d m i := by
        by_cases c2 : ((d * m : Nat) : Int) - (0 + i) < 0 + i
        · rw [if_pos c2] at et
          refine ⟨by omega, ?_⟩
          have : (t : Int) = ((d * m : Nat) : Int) - i := by omega
          rw [this, pal]
        · rw [if_neg c2] at et
          refine ⟨by omega, ?_⟩
          have : (t : Int) = i := by omega
          rw [this]
      rw [et]
      refine ⟨by omega, by omega, ?_⟩
      rw [gi_upto (by omega) (by omega), Int.toNat_natCast, key.2]
      exact hQ H' (Same.refl H')
    · simp only [ap_seq, ap_next, ap_asg, ap_gName, ap_ret, ap_retN, ap_drop, ap_ifS, ap_break, ap_cont, ap_par, ap_aug, ap_ip, ap_gSub, ap_gTup, ap_gNil, ap_gCons, ap_var, ap_c, ap_op, ap_un, ap_if, ap_test, ap_B, ap_and, ap_or, ap_not, ap_andV, ap_orV, ap_notV, ap_nil, ap_cons, ap_tup, ap_lst, ap_cb, ap_bm, ap_call, ap_chain, ap_rI, ap_rI0, ap_rU, ap_rEq, ap_rNe, ap_revT, ap_sl, ap_part, ap_noPart, ap_ixLI, ap_ixTI, ap_ixLV, ap_ixTV, ap_len, ap_setLI, ap_setLV, ap_appI, ap_appV, ap_tupL, ap_listS, ap_sumLI, ap_sumTI, ap_repLI, ap_intI, ap_intB, ap_eqTI, ap_neTI, ap_eqLI, ap_neLI, ap_isi, ap_for, ap_rng1, ap_rng2, ap_iList, ap_iTup, ap_lc, ap_yes, ap_cut, ap_gTupH, ap_fmt, ap_jsn, ap_jsc, ap_gcd, ap_isqrt, ap_ixL, tyV_l, wipe_nil, wipe_cons, upd_same, ap_shl, ap_shr, ap_mask, ap_comb, ap_bits, ap_rng3, List.set_cons_zero, List.set_cons_succ, List.getElem?_cons_zero, List.getElem?_cons_succ, List.cons_append, List.nil_append, List.append_nil, Option.some.injEq, V.int.injEq, V.ref.injEq, V.bl.injEq, V.str.injEq, V.ty.injEq, Bool.not_true, Bool.not_false, HO.lst.injEq, HO.tup.injEq, reduceCtorEq, Int.reduceToNat, Int.reduceLT, Int.reduceLE, Nat.reduceAdd, Int.cast_ofNat_Int, gi_c0, gi_c1, gi_c2, gi_c3, Int.natCast_inj, map_int_inj, map_nil_iff, List.cons.injEq, exists_eq_left, exists_eq_left', exists_eq, exists_eq', exists_and_left, exists_and_right, exists_const, and_assoc, and_true, true_and, and_false, false_and, or_false, false_or, or_true, true_or, ite_true, ite_false, if_true, if_false, Bool.false_eq_true, own_cons, own_nil, le1, le2, le3, le4, me_cons, me_nil, List.length_map, List.length_cons, List.length_nil, ne_eq, not_false_eq_true, not_true_eq_false, decide_eq_true_eq, ea]
      intro l nl
      exact q _ l ((s2.trans sm).trans (same_upd nl)) ((s2.trans sm).free nl) upd_same
end
end My

namespace My
open PySem PySem.Spec PyProof.Rows L2 Pr M26
section
variable {P : Program} {w : World} {K : PySem.W.Frag} {mg : Str → Option Value} {base : Heap}
/-! ### the law's own defs -/
/-- a lot of dice at d -/
def Dc (H : Hp) (d : Addr) : Prop := ∃ l m c : Int, H d = some (LI [l, m, c])
/-- all but d stands -/
def Exc (d : Addr) (H H' : Hp) : Prop := ∀ q o, q ≠ d → H q = some o → H' q = some o
theorem Exc.refl {d : Addr} {H : Hp} : Exc d H H := fun _ _ _ h => h
theorem Exc.trans {d : Addr} {H H1 H2 : Hp} (a : Exc d H H1) (b : Exc d H1 H2) : Exc d H H2 := fun q o n h => b q o n (a q o n h)
theorem Exc.same {d : Addr} {H H1 : Hp} (a : Same H H1) : Exc d H H1 := fun q o _ h => a q o h
theorem Exc.upd {d : Addr} {H : Hp} {o : HO} : Exc d H (upd H d o) := fun q o n h => by
  rw [upd_ne n]
  exact h
theorem Dc.same {d : Addr} {H H' : Hp} (a : Same H H') (h : Dc H d) : Dc H' d := by
  obtain ⟨l, m, c, h⟩ := h
  exact ⟨l, m, c, a _ _ h⟩
def sp_law_dice (K : PySem.W.Frag) : Sp := fun vs H Q _ => ∃ (a : Addr) (ns : List Int) (i : Nat), vs = [.ref a, .int i] ∧ SqL K H a (ns.map V.int) ∧ i < 64 ∧
  ∀ H' p, Same H H' → H p = none → Dc H' p → Q (.ref p) H'
theorem ok_law_dice (T : Tx K mg) : FnOk P w K mg base CX0 1 T.f_law_dice T.d_law_dice p_law_dice (sp_law_dice K) := by
  refine T.F_law_dice.ok sc_law_dice (fun vs H Q E h => ?_) (fun cdv A outer s H vs Q E hr h => ?_)
  · obtain ⟨a, ns, i, rfl, _⟩ := h
    rfl
  · obtain ⟨a, ns, i, rfl, hS, hi, q⟩ := h
    refine ⟨_, (pss_cons (ps_set (i := 2) sc_law_dice.nd rfl (Or.inl rfl) (pe_ifExp (pt_cmpR op_lt (pv 1) (pe_callB call_len_seq (by rfl) T.z_len PySem.boot_len (pa_cons (pv 0) pa_nil)) (nomark _)) (pe_callTy cr_intI (by rfl) T.z_int (by decide +kernel) (pa_cons (pe_ix ix_list (pv 0) (pv 1) (fun _ _ => rfl)) pa_nil)) (pe_op op_add (pe_op op_mul pe_int (pv 1)) pe_int)))
      (pss_cons (ps_set (i := 3) sc_law_dice.nd rfl (Or.inl rfl) (pe_op op_mod (pe_callB (call_max2 rfl) (by rfl) T.z_max (by decide +kernel) (pa_cons pe_int (pa_cons (pe_op op_sub (pe_callB call_abs (by rfl) T.z_abs (by decide +kernel) (pa_cons (pv 2) pa_nil)) (pe_op op_pow pe_int pe_int)) pa_nil))) (pe_op op_mulW (pe_op op_pow pe_int pe_int) (pe_op op_pow pe_int pe_int))))
      (pss_one (ps_ret (pe_lst (pa_cons (pv 3) (pa_cons (pe_op op_add (pe_op op_add (pe_op op_add (pe_op op_mul (pe_op op_mod (pe_callB call_abs (by rfl) T.z_abs (by decide +kernel) (pa_cons (pv 2) pa_nil)) pe_int) pe_int) (pe_op op_mul pe_int (pv 1))) (pe_op op_mul pe_int (pe_callTy cr_intB (by rfl) T.z_int (by decide +kernel) (pa_cons (pe_cmpR op_lt (pv 2) pe_int (nomark _)) pa_nil)))) pe_int) (pa_cons pe_int pa_nil)))))))), ?_⟩
    rw [st_law_dice]
    simp only [ap_seq, ap_next, ap_asg, ap_gName, ap_ret, ap_retN, ap_drop, ap_ifS, ap_break, ap_cont, ap_par, ap_aug, ap_ip, ap_gSub, ap_gTup, ap_gNil, ap_gCons, ap_var, ap_c, ap_op, ap_un, ap_if, ap_test, ap_B, ap_and, ap_or, ap_not, ap_andV, ap_orV, ap_notV, ap_nil, ap_cons, ap_tup, ap_lst, ap_cb, ap_bm, ap_call, ap_chain, ap_rI, ap_rI0, ap_rU, ap_rEq, ap_rNe, ap_revT, ap_sl, ap_part, ap_noPart, ap_ixLI, ap_ixTI, ap_ixLV, ap_ixTV, ap_len, ap_setLI, ap_setLV, ap_appI, ap_appV, ap_tupL, ap_listS, ap_sumLI, ap_sumTI, ap_repLI, ap_intI, ap_intB, ap_eqTI, ap_neTI, ap_eqLI, ap_neLI, ap_isi, ap_for, ap_rng1, ap_rng2, ap_iList, ap_iTup, ap_lc, ap_yes, ap_cut, ap_gTupH, ap_fmt, ap_jsn, ap_jsc, ap_gcd, ap_isqrt, ap_ixL, tyV_l, wipe_nil, wipe_cons, upd_same, ap_shl, ap_shr, ap_mask, ap_comb, ap_bits, ap_rng3, List.set_cons_zero, List.set_cons_succ, List.getElem?_cons_zero, List.getElem?_cons_succ, List.cons_append, List.nil_append, List.append_nil, Option.some.injEq, V.int.injEq, V.ref.injEq, V.bl.injEq, V.str.injEq, V.ty.injEq, Bool.not_true, Bool.not_false, HO.lst.injEq, HO.tup.injEq, reduceCtorEq, Int.reduceToNat, Int.reduceLT, Int.reduceLE, Nat.reduceAdd, Int.cast_ofNat_Int, gi_c0, gi_c1, gi_c2, gi_c3, Int.natCast_inj, map_int_inj, map_nil_iff, List.cons.injEq, exists_eq_left, exists_eq_left', exists_eq, exists_eq', exists_and_left, exists_and_right, exists_const, and_assoc, and_true, true_and, and_false, false_and, or_false, false_or, or_true, true_or, ite_true, ite_false, if_true, if_false, Bool.false_eq_true, own_cons, own_nil, le1, le2, le3, le4, me_cons, me_nil, List.length_map, List.length_cons, List.length_nil, ne_eq, not_false_eq_true, not_true_eq_false, decide_eq_true_eq]
    refine ⟨_, .inl hS, ?_⟩
    have hl : (ns.map V.int).length = ns.length := List.length_map ..
    have c1 : CPow 10 16 := ⟨by decide, by decide, by decide⟩
    have c2 : CPow 10 60 := ⟨by decide, by decide, by decide⟩
    have c3 : CMulW ((10 : Int) ^ 60) ((10 : Int) ^ 60) := by
      show ((10 : Int) ^ 60).natAbs.log2 + ((10 : Int) ^ 60).natAbs.log2 < 1000000
      decide +kernel
    have c4 : (0 : Int) < 10 ^ 60 * 10 ^ 60 := by decide +kernel
    by_cases c : (i : Int) < ((ns.map V.int).length : Int)
    · rw [if_pos c]
      refine ⟨_, hS, _, at_gi (by omega) (by omega), _, rfl, c1, c2, c2, c3, c4, .inr (by omega), .inl (by omega), .inl (by omega), by decide, fun p np => ?_⟩
      exact q _ p (same_upd np) np ⟨_, _, _, upd_same⟩
    · rw [if_neg c]
      refine ⟨.inl (by omega), c1, c2, c2, c3, c4, .inr (by omega), .inl (by omega), .inl (by omega), by decide, fun p np => ?_⟩
      exact q _ p (same_upd np) np ⟨_, _, _, upd_same⟩
def sp_law_roll : Sp := fun vs H Q _ => ∃ (d : Addr) (t : Int), vs = [.ref d, .int t] ∧ Dc H d ∧ 0 < t ∧ t < 1073741824 ∧
  ∀ H' r, Exc d H H' → Dc H' d → 0 ≤ r → r < t → Q (.int r) H'
theorem ok_law_roll (T : Tx K mg) : FnOk P w K mg base CX0 1 T.f_law_roll T.d_law_roll p_law_roll sp_law_roll := by
  refine T.F_law_roll.ok sc_law_roll (fun vs H Q E h => ?_) (fun cdv A outer s H vs Q E hr h => ?_)
  · obtain ⟨d, t, rfl, _⟩ := h
    rfl
  · obtain ⟨d, t, rfl, ⟨l, m, c, hD⟩, h0, h1, q⟩ := h
    refine ⟨_, (pss_cons (ps_if (pt_cmpR op_gt (pe_ix ix_LI (pv 0) pe_int (fun _ _ => rfl)) pe_int (nomark _)) (pss_cons (ps_set (i := 2) sc_law_roll.nd rfl (Or.inl rfl) (pe_op op_mod (pe_callTy cr_intI (by rfl) T.z_int (by decide +kernel) (pa_cons (pe_ix ix_LI (pv 0) pe_int (fun _ _ => rfl)) pa_nil)) (pv 1)))
      (pss_cons (ps_asg (pe_op op_fdiv (pe_ix ix_LI (pv 0) pe_int (fun _ _ => rfl)) (pv 1)) (pg_sub (pv 0) pe_int set_LI))
      (pss_one (ps_ret (pv 2))))) pss_nil)
      (pss_cons (ps_asg (pe_op op_add (pe_ix ix_LI (pv 0) pe_int (fun _ _ => rfl)) pe_int) (pg_sub (pv 0) pe_int set_LI))
      (pss_cons (ps_set (i := 3) sc_law_roll.nd rfl (Or.inl rfl) (pe_op op_mod (pe_callTy cr_intI (by rfl) T.z_int (by decide +kernel) (pa_cons (pe_op op_add (pe_ix ix_LI (pv 0) pe_int (fun _ _ => rfl)) (pe_op op_mul pe_int (pe_ix ix_LI (pv 0) pe_int (fun _ _ => rfl)))) pa_nil)) pe_int))
      (pss_cons (ps_set (i := 4) sc_law_roll.nd rfl (Or.inl rfl) (pe_op op_add (pe_op op_mul (pe_op op_mod (pe_callTy cr_intI (by rfl) T.z_int (by decide +kernel) (pa_cons (pe_op op_add (pe_op op_mul (pv 3) (pv 3)) (pe_op op_mul pe_int (pe_ix ix_LI (pv 0) pe_int (fun _ _ => rfl)))) pa_nil)) pe_int) pe_int) (pv 3)))
      (pss_one (ps_ret (pe_op op_mod (pe_callTy cr_intI (by rfl) T.z_int (by decide +kernel) (pa_cons (pe_op op_fdiv (pv 4) pe_int) pa_nil)) (pv 1)))))))), ?_⟩
    rw [st_law_roll]
    simp only [ap_seq, ap_next, ap_asg, ap_gName, ap_ret, ap_retN, ap_drop, ap_ifS, ap_break, ap_cont, ap_par, ap_aug, ap_ip, ap_gSub, ap_gTup, ap_gNil, ap_gCons, ap_var, ap_c, ap_op, ap_un, ap_if, ap_test, ap_B, ap_and, ap_or, ap_not, ap_andV, ap_orV, ap_notV, ap_nil, ap_cons, ap_tup, ap_lst, ap_cb, ap_bm, ap_call, ap_chain, ap_rI, ap_rI0, ap_rU, ap_rEq, ap_rNe, ap_revT, ap_sl, ap_part, ap_noPart, ap_ixLI, ap_ixTI, ap_ixLV, ap_ixTV, ap_len, ap_setLI, ap_setLV, ap_appI, ap_appV, ap_tupL, ap_listS, ap_sumLI, ap_sumTI, ap_repLI, ap_intI, ap_intB, ap_eqTI, ap_neTI, ap_eqLI, ap_neLI, ap_isi, ap_for, ap_rng1, ap_rng2, ap_iList, ap_iTup, ap_lc, ap_yes, ap_cut, ap_gTupH, ap_fmt, ap_jsn, ap_jsc, ap_gcd, ap_isqrt, ap_ixL, tyV_l, wipe_nil, wipe_cons, upd_same, ap_shl, ap_shr, ap_mask, ap_comb, ap_bits, ap_rng3, List.set_cons_zero, List.set_cons_succ, List.getElem?_cons_zero, List.getElem?_cons_succ, List.cons_append, List.nil_append, List.append_nil, Option.some.injEq, V.int.injEq, V.ref.injEq, V.bl.injEq, V.str.injEq, V.ty.injEq, Bool.not_true, Bool.not_false, HO.lst.injEq, HO.tup.injEq, reduceCtorEq, Int.reduceToNat, Int.reduceLT, Int.reduceLE, Nat.reduceAdd, Int.cast_ofNat_Int, gi_c0, gi_c1, gi_c2, gi_c3, Int.natCast_inj, map_int_inj, map_nil_iff, List.cons.injEq, exists_eq_left, exists_eq_left', exists_eq, exists_eq', exists_and_left, exists_and_right, exists_const, and_assoc, and_true, true_and, and_false, false_and, or_false, false_or, or_true, true_or, ite_true, ite_false, if_true, if_false, Bool.false_eq_true, own_cons, own_nil, le1, le2, le3, le4, me_cons, me_nil, List.length_map, List.length_cons, List.length_nil, ne_eq, not_false_eq_true, not_true_eq_false, decide_eq_true_eq, hD]
    by_cases c1 : 0 < l
    · rw [if_pos c1]
      exact ⟨h0, ⟨h0, h1⟩, q _ _ Exc.upd ⟨_, _, _, upd_same⟩ (Int.emod_nonneg _ (by omega)) (Int.emod_lt_of_pos _ h0)⟩
    · rw [if_neg c1]
      have r1 : ∀ x : Int, CMul (x % 2305843009213691579) (x % 2305843009213691579) := fun x => .inl (by omega)
      exact ⟨.inl (by omega), r1 _, .inl (by omega), .inr (by omega), ⟨by decide, by decide⟩, h0, q _ _ Exc.upd ⟨_, _, _, upd_same⟩ (Int.emod_nonneg _ (by omega)) (Int.emod_lt_of_pos _ h0)⟩
/-- one of the ints of a list -/
def sp_law_pick : Sp := fun vs H Q _ => ∃ (d a : Addr) (ns : List Int), vs = [.ref d, .ref a] ∧ Dc H d ∧ H a = some (LI ns) ∧ a ≠ d ∧ 0 < ns.length ∧ ns.length < 1000 ∧
  ∀ H' (i : Nat), Exc d H H' → Dc H' d → i < ns.length → Q (.int (ns.getD i 0)) H'
theorem ok_law_pick (T : Tx K mg) : FnOk P w K mg base CX0 2 T.f_law_pick T.d_law_pick p_law_pick sp_law_pick := by
  refine T.F_law_pick.ok sc_law_pick (fun vs H Q E h => ?_) (fun cdv A outer s H vs Q E hr h => ?_)
  · obtain ⟨d, a, ns, rfl, _⟩ := h
    rfl
  · obtain ⟨d, a, ns, rfl, hD, ha, nad, h0, h1, q⟩ := h
    refine ⟨_, (pss_one (ps_ret (pe_ix ix_LI (pv 1) (pe_call (ok_law_roll T) (hr.mono (by decide)) (by rfl) T.m_law_roll T.F_law_roll.kp T.b_law_roll .nil pass0 (pa_cons (pv 0) (pa_cons (pe_callB cr_len (by rfl) T.z_len PySem.boot_len (pa_cons (pv 1) pa_nil)) pa_nil))) (fun _ _ => rfl)))), ?_⟩
    rw [st_law_pick]
    simp only [ap_seq, ap_next, ap_asg, ap_gName, ap_ret, ap_retN, ap_drop, ap_ifS, ap_break, ap_cont, ap_par, ap_aug, ap_ip, ap_gSub, ap_gTup, ap_gNil, ap_gCons, ap_var, ap_c, ap_op, ap_un, ap_if, ap_test, ap_B, ap_and, ap_or, ap_not, ap_andV, ap_orV, ap_notV, ap_nil, ap_cons, ap_tup, ap_lst, ap_cb, ap_bm, ap_call, ap_chain, ap_rI, ap_rI0, ap_rU, ap_rEq, ap_rNe, ap_revT, ap_sl, ap_part, ap_noPart, ap_ixLI, ap_ixTI, ap_ixLV, ap_ixTV, ap_len, ap_setLI, ap_setLV, ap_appI, ap_appV, ap_tupL, ap_listS, ap_sumLI, ap_sumTI, ap_repLI, ap_intI, ap_intB, ap_eqTI, ap_neTI, ap_eqLI, ap_neLI, ap_isi, ap_for, ap_rng1, ap_rng2, ap_iList, ap_iTup, ap_lc, ap_yes, ap_cut, ap_gTupH, ap_fmt, ap_jsn, ap_jsc, ap_gcd, ap_isqrt, ap_ixL, tyV_l, wipe_nil, wipe_cons, upd_same, ap_shl, ap_shr, ap_mask, ap_comb, ap_bits, ap_rng3, List.set_cons_zero, List.set_cons_succ, List.getElem?_cons_zero, List.getElem?_cons_succ, List.cons_append, List.nil_append, List.append_nil, Option.some.injEq, V.int.injEq, V.ref.injEq, V.bl.injEq, V.str.injEq, V.ty.injEq, Bool.not_true, Bool.not_false, HO.lst.injEq, HO.tup.injEq, reduceCtorEq, Int.reduceToNat, Int.reduceLT, Int.reduceLE, Nat.reduceAdd, Int.cast_ofNat_Int, gi_c0, gi_c1, gi_c2, gi_c3, Int.natCast_inj, map_int_inj, map_nil_iff, List.cons.injEq, exists_eq_left, exists_eq_left', exists_eq, exists_eq', exists_and_left, exists_and_right, exists_const, and_assoc, and_true, true_and, and_false, false_and, or_false, false_or, or_true, true_or, ite_true, ite_false, if_true, if_false, Bool.false_eq_true, own_cons, own_nil, le1, le2, le3, le4, me_cons, me_nil, List.length_map, List.length_cons, List.length_nil, ne_eq, not_false_eq_true, not_true_eq_false, decide_eq_true_eq, sp_law_roll, ha]
    refine ⟨hD, by omega, by omega, fun H2 r ex dc r0 r1 => ?_⟩
    have ha2 := ex _ _ nad ha
    simp only [ap_seq, ap_next, ap_asg, ap_gName, ap_ret, ap_retN, ap_drop, ap_ifS, ap_break, ap_cont, ap_par, ap_aug, ap_ip, ap_gSub, ap_gTup, ap_gNil, ap_gCons, ap_var, ap_c, ap_op, ap_un, ap_if, ap_test, ap_B, ap_and, ap_or, ap_not, ap_andV, ap_orV, ap_notV, ap_nil, ap_cons, ap_tup, ap_lst, ap_cb, ap_bm, ap_call, ap_chain, ap_rI, ap_rI0, ap_rU, ap_rEq, ap_rNe, ap_revT, ap_sl, ap_part, ap_noPart, ap_ixLI, ap_ixTI, ap_ixLV, ap_ixTV, ap_len, ap_setLI, ap_setLV, ap_appI, ap_appV, ap_tupL, ap_listS, ap_sumLI, ap_sumTI, ap_repLI, ap_intI, ap_intB, ap_eqTI, ap_neTI, ap_eqLI, ap_neLI, ap_isi, ap_for, ap_rng1, ap_rng2, ap_iList, ap_iTup, ap_lc, ap_yes, ap_cut, ap_gTupH, ap_fmt, ap_jsn, ap_jsc, ap_gcd, ap_isqrt, ap_ixL, tyV_l, wipe_nil, wipe_cons, upd_same, ap_shl, ap_shr, ap_mask, ap_comb, ap_bits, ap_rng3, List.set_cons_zero, List.set_cons_succ, List.getElem?_cons_zero, List.getElem?_cons_succ, List.cons_append, List.nil_append, List.append_nil, Option.some.injEq, V.int.injEq, V.ref.injEq, V.bl.injEq, V.str.injEq, V.ty.injEq, Bool.not_true, Bool.not_false, HO.lst.injEq, HO.tup.injEq, reduceCtorEq, Int.reduceToNat, Int.reduceLT, Int.reduceLE, Nat.reduceAdd, Int.cast_ofNat_Int, gi_c0, gi_c1, gi_c2, gi_c3, Int.natCast_inj, map_int_inj, map_nil_iff, List.cons.injEq, exists_eq_left, exists_eq_left', exists_eq, exists_eq', exists_and_left, exists_and_right, exists_const, and_assoc, and_true, true_and, and_false, false_and, or_false, false_or, or_true, true_or, ite_true, ite_false, if_true, if_false, Bool.false_eq_true, own_cons, own_nil, le1, le2, le3, le4, me_cons, me_nil, List.length_map, List.length_cons, List.length_nil, ne_eq, not_false_eq_true, not_true_eq_false, decide_eq_true_eq, ha2]
    refine ⟨r0, r1, ?_⟩
    have e : gi ns r = ns.getD r.toNat 0 := rfl
    rw [e]
    exact q H2 r.toNat ex dc (by omega)
end
end My

namespace My
open PySem PySem.Spec PyProof.Rows L2 Pr M26
section
variable {P : Program} {w : World} {K : PySem.W.Frag} {mg : Str → Option Value} {base : Heap}
def sp_law_choose : Sp := fun vs H Q _ => ∃ (d m : Nat), vs = [.int (d + m : Nat), .int d] ∧ d ≤ 100 ∧ m ≤ 100 ∧ Q (.int (bn d m)) H
theorem ok_law_choose (T : Tx K mg) : FnOk P w K mg base CX0 1 T.f_law_choose T.d_law_choose p_law_choose sp_law_choose := by
  refine T.F_law_choose.ok sc_law_choose (fun vs H Q E h => ?_) (fun cdv A outer s H vs Q E hr h => ?_)
  · obtain ⟨d, m, rfl, _⟩ := h
    rfl
  · obtain ⟨d, m, rfl, hd, hm, q⟩ := h
    refine ⟨_, (pss_cons (ps_set (i := 2) sc_law_choose.nd rfl (Or.inl rfl) pe_int)
      (pss_cons (ps_for PassesOwn.never rfl (pi_range1 (by rfl) T.z_range (pa_cons (pv 1) pa_nil)) (pg_name (i := 3) sc_law_choose.nd rfl (by first | exact .inl rfl | exact .inr rfl))
      (pss_one (ps_set (i := 2) sc_law_choose.nd rfl (Or.inl rfl) (pe_op op_fdiv (pe_op op_mul (pv 2) (pe_op op_sub (pv 0) (pv 3))) (pe_op op_add (pv 3) pe_int)))))
      (pss_one (ps_ret (pv 2))))), ?_⟩
    rw [st_law_choose]
    simp only [ap_seq, ap_next, ap_asg, ap_gName, ap_ret, ap_retN, ap_drop, ap_ifS, ap_break, ap_cont, ap_par, ap_aug, ap_ip, ap_gSub, ap_gTup, ap_gNil, ap_gCons, ap_var, ap_c, ap_op, ap_un, ap_if, ap_test, ap_B, ap_and, ap_or, ap_not, ap_andV, ap_orV, ap_notV, ap_nil, ap_cons, ap_tup, ap_lst, ap_cb, ap_bm, ap_call, ap_chain, ap_rI, ap_rI0, ap_rU, ap_rEq, ap_rNe, ap_revT, ap_sl, ap_part, ap_noPart, ap_ixLI, ap_ixTI, ap_ixLV, ap_ixTV, ap_len, ap_setLI, ap_setLV, ap_appI, ap_appV, ap_tupL, ap_listS, ap_sumLI, ap_sumTI, ap_repLI, ap_intI, ap_intB, ap_eqTI, ap_neTI, ap_eqLI, ap_neLI, ap_isi, ap_for, ap_rng1, ap_rng2, ap_iList, ap_iTup, ap_lc, ap_yes, ap_cut, ap_gTupH, ap_fmt, ap_jsn, ap_jsc, ap_gcd, ap_isqrt, ap_ixL, tyV_l, wipe_nil, wipe_cons, upd_same, ap_shl, ap_shr, ap_mask, ap_comb, ap_bits, ap_rng3, List.set_cons_zero, List.set_cons_succ, List.getElem?_cons_zero, List.getElem?_cons_succ, List.cons_append, List.nil_append, List.append_nil, Option.some.injEq, V.int.injEq, V.ref.injEq, V.bl.injEq, V.str.injEq, V.ty.injEq, Bool.not_true, Bool.not_false, HO.lst.injEq, HO.tup.injEq, reduceCtorEq, Int.reduceToNat, Int.reduceLT, Int.reduceLE, Nat.reduceAdd, Int.cast_ofNat_Int, gi_c0, gi_c1, gi_c2, gi_c3, Int.natCast_inj, map_int_inj, map_nil_iff, List.cons.injEq, exists_eq_left, exists_eq_left', exists_eq, exists_eq', exists_and_left, exists_and_right, exists_const, and_assoc, and_true, true_and, and_false, false_and, or_false, false_or, or_true, true_or, ite_true, ite_false, if_true, if_false, Bool.false_eq_true, own_cons, own_nil, le1, le2, le3, le4, me_cons, me_nil, List.length_map, List.length_cons, List.length_nil, ne_eq, not_false_eq_true, not_true_eq_false, decide_eq_true_eq, CMul, CDiv]
    refine ⟨by omega, by omega, ?_⟩
    refine loop_range (fun i σ' H' => ∃ y3, σ' = [some (.int (d + m : Nat)), some (.int d), some (.int (bn i (m + (d - i)))), y3] ∧ H' = H) ⟨none, by rw [b0], rfl⟩ (fun i σ' H' hi hP => ?_) (fun σ' H' hP => ?_)
    · obtain ⟨y3, e, e2⟩ := hP
      subst e e2
      simp only [ap_seq, ap_next, ap_asg, ap_gName, ap_ret, ap_retN, ap_drop, ap_ifS, ap_break, ap_cont, ap_par, ap_aug, ap_ip, ap_gSub, ap_gTup, ap_gNil, ap_gCons, ap_var, ap_c, ap_op, ap_un, ap_if, ap_test, ap_B, ap_and, ap_or, ap_not, ap_andV, ap_orV, ap_notV, ap_nil, ap_cons, ap_tup, ap_lst, ap_cb, ap_bm, ap_call, ap_chain, ap_rI, ap_rI0, ap_rU, ap_rEq, ap_rNe, ap_revT, ap_sl, ap_part, ap_noPart, ap_ixLI, ap_ixTI, ap_ixLV, ap_ixTV, ap_len, ap_setLI, ap_setLV, ap_appI, ap_appV, ap_tupL, ap_listS, ap_sumLI, ap_sumTI, ap_repLI, ap_intI, ap_intB, ap_eqTI, ap_neTI, ap_eqLI, ap_neLI, ap_isi, ap_for, ap_rng1, ap_rng2, ap_iList, ap_iTup, ap_lc, ap_yes, ap_cut, ap_gTupH, ap_fmt, ap_jsn, ap_jsc, ap_gcd, ap_isqrt, ap_ixL, tyV_l, wipe_nil, wipe_cons, upd_same, ap_shl, ap_shr, ap_mask, ap_comb, ap_bits, ap_rng3, List.set_cons_zero, List.set_cons_succ, List.getElem?_cons_zero, List.getElem?_cons_succ, List.cons_append, List.nil_append, List.append_nil, Option.some.injEq, V.int.injEq, V.ref.injEq, V.bl.injEq, V.str.injEq, V.ty.injEq, Bool.not_true, Bool.not_false, HO.lst.injEq, HO.tup.injEq, reduceCtorEq, Int.reduceToNat, Int.reduceLT, Int.reduceLE, Nat.reduceAdd, Int.cast_ofNat_Int, gi_c0, gi_c1, gi_c2, gi_c3, Int.natCast_inj, map_int_inj, map_nil_iff, List.cons.injEq, exists_eq_left, exists_eq_left', exists_eq, exists_eq', exists_and_left, exists_and_right, exists_const, and_assoc, and_true, true_and, and_false, false_and, or_false, false_or, or_true, true_or, ite_true, ite_false, if_true, if_false, Bool.false_eq_true, own_cons, own_nil, le1, le2, le3, le4, me_cons, me_nil, List.length_map, List.length_cons, List.length_nil, ne_eq, not_false_eq_true, not_true_eq_false, decide_eq_true_eq, CMul, CDiv]
      have h1 : m + (d - i) = m + (d - (i + 1)) + 1 := by omega
      have h2 : ((d + m : Nat) : Int) - (0 + i) = ((m + (d - (i + 1)) : Nat) : Int) + 1 := by omega
      have h3 : (0 : Int) + (i : Int) + 1 = i + 1 := by omega
      refine ⟨.inr (by omega), by omega, by omega, ?_⟩
      rw [h2, h3, h1, bn_div]
    · obtain ⟨y3, e, e2⟩ := hP
      subst e e2
      simp only [ap_seq, ap_next, ap_asg, ap_gName, ap_ret, ap_retN, ap_drop, ap_ifS, ap_break, ap_cont, ap_par, ap_aug, ap_ip, ap_gSub, ap_gTup, ap_gNil, ap_gCons, ap_var, ap_c, ap_op, ap_un, ap_if, ap_test, ap_B, ap_and, ap_or, ap_not, ap_andV, ap_orV, ap_notV, ap_nil, ap_cons, ap_tup, ap_lst, ap_cb, ap_bm, ap_call, ap_chain, ap_rI, ap_rI0, ap_rU, ap_rEq, ap_rNe, ap_revT, ap_sl, ap_part, ap_noPart, ap_ixLI, ap_ixTI, ap_ixLV, ap_ixTV, ap_len, ap_setLI, ap_setLV, ap_appI, ap_appV, ap_tupL, ap_listS, ap_sumLI, ap_sumTI, ap_repLI, ap_intI, ap_intB, ap_eqTI, ap_neTI, ap_eqLI, ap_neLI, ap_isi, ap_for, ap_rng1, ap_rng2, ap_iList, ap_iTup, ap_lc, ap_yes, ap_cut, ap_gTupH, ap_fmt, ap_jsn, ap_jsc, ap_gcd, ap_isqrt, ap_ixL, tyV_l, wipe_nil, wipe_cons, upd_same, ap_shl, ap_shr, ap_mask, ap_comb, ap_bits, ap_rng3, List.set_cons_zero, List.set_cons_succ, List.getElem?_cons_zero, List.getElem?_cons_succ, List.cons_append, List.nil_append, List.append_nil, Option.some.injEq, V.int.injEq, V.ref.injEq, V.bl.injEq, V.str.injEq, V.ty.injEq, Bool.not_true, Bool.not_false, HO.lst.injEq, HO.tup.injEq, reduceCtorEq, Int.reduceToNat, Int.reduceLT, Int.reduceLE, Nat.reduceAdd, Int.cast_ofNat_Int, gi_c0, gi_c1, gi_c2, gi_c3, Int.natCast_inj, map_int_inj, map_nil_iff, List.cons.injEq, exists_eq_left, exists_eq_left', exists_eq, exists_eq', exists_and_left, exists_and_right, exists_const, and_assoc, and_true, true_and, and_false, false_and, or_false, false_or, or_true, true_or, ite_true, ite_false, if_true, if_false, Bool.false_eq_true, own_cons, own_nil, le1, le2, le3, le4, me_cons, me_nil, List.length_map, List.length_cons, List.length_nil, ne_eq, not_false_eq_true, not_true_eq_false, decide_eq_true_eq]
      have h1 : m + (d - ((d : Int)).toNat) = m := by omega
      have h2 : ((d : Int)).toNat = d := by omega
      rw [h1, h2]
      exact q

/-! ### rows of counts -/
/-- the rows at their places -/
structure Rows (H : Hp) (rs : List Addr) (n : Nat) (val : Nat → Nat → Int) : Prop where
  nd : rs.Nodup
  at_ : ∀ (j : Nat) (r : Addr), rs[j]? = some r → H r = some (LI ((List.range n).map (val j)))
theorem range_set (n k : Nat) (f : Nat → Int) (x : Int) : ((List.range n).map f).set k x = (List.range n).map fun i => if i = k then x else f i := by
  apply List.ext_getElem
  · simp
  · intro i h1 h2
    rw [List.getElem_set, List.getElem_map, List.getElem_range]
    simp only [List.getElem_map, List.getElem_range]
    by_cases c : k = i
    · rw [if_pos c, if_pos c.symm]
    · rw [if_neg c, if_neg (Ne.symm c)]
theorem nodup_inj : ∀ {l : List Addr} {i j : Nat}, l.Nodup → ∀ (hi : i < l.length) (hj : j < l.length), l[i] = l[j] → i = j
  | x :: l, 0, 0, _, _, _, _ => rfl
  | x :: l, 0, j + 1, nd, hi, hj, e => absurd (show x ∈ l from (show x = l[j]'(by simpa using hj) from e) ▸ List.getElem_mem (by simpa using hj)) (List.nodup_cons.mp nd).1
  | x :: l, i + 1, 0, nd, hi, hj, e => absurd (show x ∈ l from (show l[i]'(by simpa using hi) = x from e) ▸ List.getElem_mem (by simpa using hi)) (List.nodup_cons.mp nd).1
  | x :: l, i + 1, j + 1, nd, hi, hj, e => congrArg (· + 1) (nodup_inj (List.nodup_cons.mp nd).2 (by simpa using hi) (by simpa using hj) (by simpa using e))
theorem Rows.set {H : Hp} {rs : List Addr} {n : Nat} {val val' : Nat → Nat → Int} (R : Rows H rs n val) {k : Nat} {r : Addr} (hk : rs[k]? = some r) {y : Nat} {x : Int}
    (hv : ∀ j z, val' j z = if j = k ∧ z = y then x else val j z) : Rows (upd H r (LI (((List.range n).map (val k)).set y x))) rs n val' := by
  refine ⟨R.nd, fun j r' hj => ?_⟩
  by_cases c : j = k
  · subst c
    have e : r' = r := Option.some.inj (hj.symm.trans hk)
    rw [e, upd_same, range_set]
    refine congrArg some (congrArg LI (List.map_congr_left fun z _ => ?_))
    rw [hv]
    by_cases cz : z = y
    · rw [if_pos cz, if_pos ⟨rfl, cz⟩]
    · rw [if_neg cz, if_neg fun q => cz q.2]
  · have hne : r' ≠ r := by
      intro e
      subst e
      obtain ⟨h1, e1⟩ := List.getElem?_eq_some_iff.mp hj
      obtain ⟨h2, e2⟩ := List.getElem?_eq_some_iff.mp hk
      exact c (nodup_inj R.nd h1 h2 (e1.trans e2.symm))
    rw [upd_ne hne, R.at_ j r' hj]
    refine congrArg some (congrArg LI (List.map_congr_left fun z _ => ?_))
    rw [hv, if_neg fun q => c q.1]
theorem Rows.congr {H : Hp} {rs : List Addr} {n : Nat} {val val' : Nat → Nat → Int} (R : Rows H rs n val) (h : ∀ j z, j < rs.length → z < n → val j z = val' j z) : Rows H rs n val' := by
  refine ⟨R.nd, fun j r hj => ?_⟩
  rw [R.at_ j r hj]
  refine congrArg some (congrArg LI (List.map_congr_left fun z hz => ?_))
  exact h j z (List.getElem?_eq_some_iff.mp hj).1 (List.mem_range.mp hz)
theorem lc_rangeLI {σ : L2.St} {H : Hp} {j : Nat} {te : TE} {vs : List Nat} {Q : VK} {lo : Int} {n : Nat} (f : Nat → List Int) (hn : n < 1000000) (hw : ∀ x, wipe ((wipe σ vs).set j (some x)) vs = wipe σ vs)
    (he : ∀ (i : Nat) H', i < n → Same H H' → ∀ Q' : VK, (∀ r H'', H' r = none → Same H' H'' → H'' r = some (LI (f i)) → Q' (.ref r) H'') → te ((wipe σ vs).set j (some (.int (lo + i)))) H' Q')
    (hq : ∀ p H' (rs : List Addr), H p = none → Same H H' → rs.length = n → rs.Nodup → p ∉ rs → (∀ r ∈ rs, H r = none) → H' p = some (.lst (rs.map V.ref)) → (∀ (k : Nat) r, rs[k]? = some r → H' r = some (LI (f k))) → Q (.ref p) H') :
    tLcIn (gName j) tYes te vs σ Q (Itr lo n) H := fun Dl hD => by
  refine lc_range (g := gName j) (lo := lo) (n := n) (fun i H' => ∃ rs : List Addr, rs.length = i ∧ rs.Nodup ∧ Dl ∉ rs ∧ (∀ r ∈ rs, H r = none) ∧ Same H H' ∧ H' Dl = some (.lst (rs.map V.ref)) ∧ ∀ (k : Nat) r, rs[k]? = some r → H' r = some (LI (f k)))
    ⟨[], rfl, List.nodup_nil, List.not_mem_nil, fun r h => absurd h List.not_mem_nil, same_upd hD, upd_same, fun k r h => by simp at h⟩ (fun i H' hi hP => ?_) (fun H' hP => ?_)
  · obtain ⟨rs, hl, nd, nm, fr, sm, ed, at_⟩ := hP
    refine ⟨hw _, he i H' hi sm _ fun r H'' nr sm' er => ⟨_, sm' _ _ ed, sz (by rw [List.length_map]; omega), ?_⟩⟩
    have nrD : r ≠ Dl := (ne_of_none ed nr).symm
    have nrs : r ∉ rs := fun hm => by
      obtain ⟨k, hk⟩ := List.mem_iff_getElem?.mp hm
      have := at_ k r hk
      rw [nr] at this
      cases this
    refine ⟨rs ++ [r], by simp [hl], ?_, ?_, ?_, same_mut (sm.trans sm') hD, ?_, ?_⟩
    · rw [List.nodup_append]
      refine ⟨nd, by simp, fun a ha b hb => ?_⟩
      rw [List.mem_singleton] at hb
      subst hb
      exact fun e => nrs (e ▸ ha)
    · intro hm
      rcases List.mem_append.mp hm with h | h
      · exact nm h
      · exact nrD (List.mem_singleton.mp h).symm
    · intro r' hm
      rcases List.mem_append.mp hm with h | h
      · exact fr r' h
      · rw [List.mem_singleton.mp h]
        exact sm.free nr
    · rw [upd_same, List.map_append]
      rfl
    · intro k r' hk
      by_cases c : k < rs.length
      · rw [List.getElem?_append_left c] at hk
        have h1 := at_ k r' hk
        have hne : r' ≠ Dl := fun e => nm (e ▸ List.mem_iff_getElem?.mpr ⟨k, hk⟩)
        rw [upd_ne hne]
        exact sm' _ _ h1
      · rw [List.getElem?_append_right (by omega)] at hk
        have h0 : k - rs.length = 0 := by
          rcases Nat.eq_zero_or_pos (k - rs.length) with h | h
          · exact h
          · rw [List.getElem?_eq_none (by simp; omega)] at hk
            cases hk
        rw [h0] at hk
        have e : r = r' := Option.some.inj hk
        subst e
        have hk2 : k = i := by omega
        subst hk2
        rw [upd_ne nrD]
        exact er
  · obtain ⟨rs, hl, nd, nm, fr, sm, ed, at_⟩ := hP
    exact hq Dl H' rs hD sm hl nd nm fr ed at_
theorem map_const (n : Nat) (x : Int) : List.replicate n x = (List.range n).map fun _ => x := by
  apply List.ext_getElem <;> simp
/-- how the rows stand within the value v + 1, at many, weight -/
def vf (v k y : Nat) (j z : Nat) : Int := if j < k ∨ (j = k ∧ z < y) then ex (v + 1) j z else ex v j z
def sp_law_rows_of : Sp := fun vs H Q _ => ∃ (d m : Nat), vs = [.int d, .int m] ∧ d ≤ 40 ∧ m ≤ 40 ∧
  ∀ H' p, Same H H' → H p = none → H' p = some (TI (crow d m)) → Q (.ref p) H'
theorem ok_law_rows_of (T : Tx K mg) : FnOk P w K mg base CX0 1 T.f_law_rows_of T.d_law_rows_of p_law_rows_of sp_law_rows_of := by
  refine T.F_law_rows_of.ok sc_law_rows_of (fun vs H Q E h => ?_) (fun cdv A outer s H vs Q E hr h => ?_)
  · obtain ⟨d, m, rfl, _⟩ := h
    rfl
  · obtain ⟨d, m, rfl, hd, hm, q⟩ := h
    have hdm : d * m ≤ 1600 := Nat.mul_le_mul hd hm
    have edm : (d : Int) * (m : Int) = ((d * m : Nat) : Int) := by rw [Int.natCast_mul]
    refine ⟨_, (pss_cons (ps_set (i := 2) sc_law_rows_of.nd rfl (Or.inr rfl) (pe_lc (own := [("_law_many", 4)]) (g := gName 4) (tt := tYes) rfl sc_law_rows_of.nd (pi_range1 (by rfl) T.z_range (pa_cons (pe_op op_add (pv 0) pe_int) pa_nil)) (blkOk_by (N := n_law_rows_of) (sc := defScope s_law_rows_of) (by decide +kernel)) (fun _ _ _ _ _ => (pg_name (i := 4) sc_law_rows_of.nd rfl (by first | exact .inl rfl | exact .inr rfl))) (fun _ _ _ _ _ => pts_nil) (fun _ _ _ _ _ => (pe_op op_repLI (pe_lst (pa_cons pe_int pa_nil)) (pe_op op_add (pe_op op_mul (pv 0) (pv 1)) pe_int)))))
      (pss_cons (ps_asg pe_int (pg_sub (pe_ix ix_LV (pv 2) pe_int (fun _ _ => rfl)) pe_int set_LI))
      (pss_cons (ps_for PassesOwn.never rfl (pi_range2 (by rfl) T.z_range (pa_cons pe_int (pa_cons (pe_op op_add (pv 1) pe_int) pa_nil))) (pg_name (i := 3) sc_law_rows_of.nd rfl (by first | exact .inl rfl | exact .inr rfl))
      (pss_one (ps_for PassesOwn.never rfl (pi_range2 (by rfl) T.z_range (pa_cons pe_int (pa_cons (pe_op op_add (pv 0) pe_int) pa_nil))) (pg_name (i := 4) sc_law_rows_of.nd rfl (by first | exact .inl rfl | exact .inr rfl))
      (pss_cons (ps_par (i := 5) (j := 6) (by rfl) sc_law_rows_of.nd rfl rfl (by decide) rfl rfl (pa_cons (pe_ix ix_LV (pv 2) (pv 4) (fun _ _ => rfl)) (pa_cons (pe_ix ix_LV (pv 2) (pe_op op_sub (pv 4) pe_int) (fun _ _ => rfl)) pa_nil)) (by rfl))
      (pss_one (ps_for PassesOwn.never rfl (pi_range2 (by rfl) T.z_range (pa_cons (pv 3) (pa_cons (pe_op op_add (pe_op op_mul (pv 0) (pv 1)) pe_int) pa_nil))) (pg_name (i := 7) sc_law_rows_of.nd rfl (by first | exact .inl rfl | exact .inr rfl))
      (pss_one (ps_asg (pe_op op_add (pe_ix ix_LI (pv 5) (pv 7) (fun _ _ => rfl)) (pe_ix ix_LI (pv 6) (pe_op op_sub (pv 7) (pv 3)) (fun _ _ => rfl))) (pg_sub (pv 5) (pv 7) set_LI)))))))))
      (pss_one (ps_ret (pe_callTy cr_tupL (by rfl) T.z_tuple (by decide +kernel) (pa_cons (pe_lc (own := [("_law_weight", 7)]) (g := gName 7) (tt := tYes) rfl sc_law_rows_of.nd (pi_range1 (by rfl) T.z_range (pa_cons (pe_op op_add (pe_op op_mul (pv 0) (pv 1)) pe_int) pa_nil)) (blkOk_by (N := n_law_rows_of) (sc := defScope s_law_rows_of) (by decide +kernel)) (fun _ _ _ _ _ => (pg_name (i := 7) sc_law_rows_of.nd rfl (by first | exact .inl rfl | exact .inr rfl))) (fun _ _ _ _ _ => pts_nil) (fun _ _ _ _ _ => (pe_callB (cr_sumLI rfl) (by rfl) T.z_sum (by decide +kernel) (pa_cons (pe_lc (own := [("_law_row", 5)]) (g := gName 5) (tt := tYes) rfl sc_law_rows_of.nd (pi_listK (K := K) rfl (pv 2)) (blkOk_by (by rfl)) (fun _ _ _ _ _ => (pg_name (i := 5) sc_law_rows_of.nd rfl (by first | exact .inl rfl | exact .inr rfl))) (fun _ _ _ _ _ => pts_nil) (fun _ _ _ _ _ => (pe_ix ix_LI (pv 5) (pv 7) (fun _ _ => rfl)))) pa_nil)))) pa_nil))))))), ?_⟩
    rw [st_law_rows_of]
    simp only [ap_seq, ap_next, ap_asg, ap_gName, ap_ret, ap_retN, ap_drop, ap_ifS, ap_break, ap_cont, ap_par, ap_aug, ap_ip, ap_gSub, ap_gTup, ap_gNil, ap_gCons, ap_var, ap_c, ap_op, ap_un, ap_if, ap_test, ap_B, ap_and, ap_or, ap_not, ap_andV, ap_orV, ap_notV, ap_nil, ap_cons, ap_tup, ap_lst, ap_cb, ap_bm, ap_call, ap_chain, ap_rI, ap_rI0, ap_rU, ap_rEq, ap_rNe, ap_revT, ap_sl, ap_part, ap_noPart, ap_ixLI, ap_ixTI, ap_ixLV, ap_ixTV, ap_len, ap_setLI, ap_setLV, ap_appI, ap_appV, ap_tupL, ap_listS, ap_sumLI, ap_sumTI, ap_repLI, ap_intI, ap_intB, ap_eqTI, ap_neTI, ap_eqLI, ap_neLI, ap_isi, ap_for, ap_rng1, ap_rng2, ap_iList, ap_iTup, ap_lc, ap_yes, ap_cut, ap_gTupH, ap_fmt, ap_jsn, ap_jsc, ap_gcd, ap_isqrt, ap_ixL, tyV_l, wipe_nil, wipe_cons, upd_same, ap_shl, ap_shr, ap_mask, ap_comb, ap_bits, ap_rng3, List.set_cons_zero, List.set_cons_succ, List.getElem?_cons_zero, List.getElem?_cons_succ, List.cons_append, List.nil_append, List.append_nil, Option.some.injEq, V.int.injEq, V.ref.injEq, V.bl.injEq, V.str.injEq, V.ty.injEq, Bool.not_true, Bool.not_false, HO.lst.injEq, HO.tup.injEq, reduceCtorEq, Int.reduceToNat, Int.reduceLT, Int.reduceLE, Nat.reduceAdd, Int.cast_ofNat_Int, gi_c0, gi_c1, gi_c2, gi_c3, Int.natCast_inj, map_int_inj, map_nil_iff, List.cons.injEq, exists_eq_left, exists_eq_left', exists_eq, exists_eq', exists_and_left, exists_and_right, exists_const, and_assoc, and_true, true_and, and_false, false_and, or_false, false_or, or_true, true_or, ite_true, ite_false, if_true, if_false, Bool.false_eq_true, own_cons, own_nil, le1, le2, le3, le4, me_cons, me_nil, List.length_map, List.length_cons, List.length_nil, ne_eq, not_false_eq_true, not_true_eq_false, decide_eq_true_eq, CMul]
    refine ⟨by omega, by omega, ?_⟩
    have en : ((d : Int) + 1).toNat = d + 1 := by omega
    rw [en]
    refine lc_rangeLI (fun _ => List.replicate (d * m + 1) 0) (by omega) (fun x => rfl) (fun i H1 hi sm Q1 hQ => ?_) (fun p H1 rs np sm hl nd nm fr ed at_ => ?_)
    · simp only [ap_seq, ap_next, ap_asg, ap_gName, ap_ret, ap_retN, ap_drop, ap_ifS, ap_break, ap_cont, ap_par, ap_aug, ap_ip, ap_gSub, ap_gTup, ap_gNil, ap_gCons, ap_var, ap_c, ap_op, ap_un, ap_if, ap_test, ap_B, ap_and, ap_or, ap_not, ap_andV, ap_orV, ap_notV, ap_nil, ap_cons, ap_tup, ap_lst, ap_cb, ap_bm, ap_call, ap_chain, ap_rI, ap_rI0, ap_rU, ap_rEq, ap_rNe, ap_revT, ap_sl, ap_part, ap_noPart, ap_ixLI, ap_ixTI, ap_ixLV, ap_ixTV, ap_len, ap_setLI, ap_setLV, ap_appI, ap_appV, ap_tupL, ap_listS, ap_sumLI, ap_sumTI, ap_repLI, ap_intI, ap_intB, ap_eqTI, ap_neTI, ap_eqLI, ap_neLI, ap_isi, ap_for, ap_rng1, ap_rng2, ap_iList, ap_iTup, ap_lc, ap_yes, ap_cut, ap_gTupH, ap_fmt, ap_jsn, ap_jsc, ap_gcd, ap_isqrt, ap_ixL, tyV_l, wipe_nil, wipe_cons, upd_same, ap_shl, ap_shr, ap_mask, ap_comb, ap_bits, ap_rng3, List.set_cons_zero, List.set_cons_succ, List.getElem?_cons_zero, List.getElem?_cons_succ, List.cons_append, List.nil_append, List.append_nil, Option.some.injEq, V.int.injEq, V.ref.injEq, V.bl.injEq, V.str.injEq, V.ty.injEq, Bool.not_true, Bool.not_false, HO.lst.injEq, HO.tup.injEq, reduceCtorEq, Int.reduceToNat, Int.reduceLT, Int.reduceLE, Nat.reduceAdd, Int.cast_ofNat_Int, gi_c0, gi_c1, gi_c2, gi_c3, Int.natCast_inj, map_int_inj, map_nil_iff, List.cons.injEq, exists_eq_left, exists_eq_left', exists_eq, exists_eq', exists_and_left, exists_and_right, exists_const, and_assoc, and_true, true_and, and_false, false_and, or_false, false_or, or_true, true_or, ite_true, ite_false, if_true, if_false, Bool.false_eq_true, own_cons, own_nil, le1, le2, le3, le4, me_cons, me_nil, List.length_map, List.length_cons, List.length_nil, ne_eq, not_false_eq_true, not_true_eq_false, decide_eq_true_eq, CMul]
      refine ⟨by decide, fun t nt => ?_⟩
      refine ⟨.inl (by omega), by omega, by omega, fun r nr => ?_⟩
      have e2 : ((d : Int) * (m : Int) + 1).toNat = d * m + 1 := by omega
      rw [e2]
      have sm1 : Same H1 (upd H1 t (.lst [.int 0])) := same_upd nt
      exact hQ r _ (sm1.free nr) (sm1.trans (same_upd nr)) upd_same
    · obtain ⟨r0, h0⟩ : ∃ r, rs[0]? = some r := ⟨rs[0], List.getElem?_eq_getElem (by omega)⟩
      have R0 : Rows H1 rs (d * m + 1) (fun _ _ => 0) := ⟨nd, fun k r hk => by
        rw [at_ k r hk, map_const]⟩
      have e0 := at_ 0 r0 h0
      have a0 : atI (rs.map V.ref) 0 = some (.ref r0) := atI_nat (j := 0) (by rw [List.getElem?_map, h0]; rfl)
      simp only [ap_seq, ap_next, ap_asg, ap_gName, ap_ret, ap_retN, ap_drop, ap_ifS, ap_break, ap_cont, ap_par, ap_aug, ap_ip, ap_gSub, ap_gTup, ap_gNil, ap_gCons, ap_var, ap_c, ap_op, ap_un, ap_if, ap_test, ap_B, ap_and, ap_or, ap_not, ap_andV, ap_orV, ap_notV, ap_nil, ap_cons, ap_tup, ap_lst, ap_cb, ap_bm, ap_call, ap_chain, ap_rI, ap_rI0, ap_rU, ap_rEq, ap_rNe, ap_revT, ap_sl, ap_part, ap_noPart, ap_ixLI, ap_ixTI, ap_ixLV, ap_ixTV, ap_len, ap_setLI, ap_setLV, ap_appI, ap_appV, ap_tupL, ap_listS, ap_sumLI, ap_sumTI, ap_repLI, ap_intI, ap_intB, ap_eqTI, ap_neTI, ap_eqLI, ap_neLI, ap_isi, ap_for, ap_rng1, ap_rng2, ap_iList, ap_iTup, ap_lc, ap_yes, ap_cut, ap_gTupH, ap_fmt, ap_jsn, ap_jsc, ap_gcd, ap_isqrt, ap_ixL, tyV_l, wipe_nil, wipe_cons, upd_same, ap_shl, ap_shr, ap_mask, ap_comb, ap_bits, ap_rng3, List.set_cons_zero, List.set_cons_succ, List.getElem?_cons_zero, List.getElem?_cons_succ, List.cons_append, List.nil_append, List.append_nil, Option.some.injEq, V.int.injEq, V.ref.injEq, V.bl.injEq, V.str.injEq, V.ty.injEq, Bool.not_true, Bool.not_false, HO.lst.injEq, HO.tup.injEq, reduceCtorEq, Int.reduceToNat, Int.reduceLT, Int.reduceLE, Nat.reduceAdd, Int.cast_ofNat_Int, gi_c0, gi_c1, gi_c2, gi_c3, Int.natCast_inj, map_int_inj, map_nil_iff, List.cons.injEq, exists_eq_left, exists_eq_left', exists_eq, exists_eq', exists_and_left, exists_and_right, exists_const, and_assoc, and_true, true_and, and_false, false_and, or_false, false_or, or_true, true_or, ite_true, ite_false, if_true, if_false, Bool.false_eq_true, own_cons, own_nil, le1, le2, le3, le4, me_cons, me_nil, List.length_map, List.length_cons, List.length_nil, ne_eq, not_false_eq_true, not_true_eq_false, decide_eq_true_eq, ed, a0, e0]
      refine ⟨by rw [List.length_replicate]; omega, by omega, by omega, by omega, by omega, ?_⟩
      have R1 : Rows (upd H1 r0 (LI ((List.replicate (d * m + 1) 0).set 0 1))) rs (d * m + 1) (fun j z => ex 0 j z) := by
        rw [map_const]
        refine R0.set h0 fun j z => ?_
        show (if j = 0 ∧ (z : Int) = 0 then (1 : Int) else 0) = if j = 0 ∧ z = 0 then 1 else 0
        have : ((z : Int) = 0) ↔ z = 0 := by omega
        simp only [this]
      have hpr : ∀ r ∈ rs, p ≠ r := fun r hr e => nm (e ▸ hr)
      have m0 : r0 ∈ rs := List.mem_iff_getElem?.mpr ⟨0, h0⟩
      have ed1 : (upd H1 r0 (LI ((List.replicate (d * m + 1) 0).set 0 1))) p = some (.lst (rs.map V.ref)) := by
        rw [upd_ne (hpr r0 m0)]
        exact ed
      have sm1 : Same H (upd H1 r0 (LI ((List.replicate (d * m + 1) 0).set 0 1))) := same_mut sm (fr r0 m0)
      generalize (upd H1 r0 (LI ((List.replicate (d * m + 1) 0).set 0 1))) = H2 at R1 ed1 sm1
      have fin : ∀ (H3 : Hp) y3 y4 y5 y6 y7, Same H H3 → H3 p = some (.lst (rs.map V.ref)) → Rows H3 rs (d * m + 1) (fun j z => ex m j z) →
          tRet (tCB rTupL (tCons (tLc (iRng1 (tCons (tOp (rI0 fun i j => V.int (i + j)) (tOp (rI CMul fun i j => V.int (i * j)) (tVar 0) (tVar 1)) (tC (V.int 1))) tNil)) (gName 7) tYes
            (tCB rSumLI (tCons (tLc (iList K (tVar 2)) (gName 5) tYes (tOp rIxLI (tVar 5) (tVar 7)) [5]) tNil)) [7]) tNil))
          { nx := fun x H' => Q V.non H', rt := Q } [some (.int d), some (.int m), some (.ref p), y3, y4, y5, y6, y7] H3 := by
        intro H3 y3 y4 y5 y6 y7 sm3 ed3 R3
        simp only [ap_seq, ap_next, ap_asg, ap_gName, ap_ret, ap_retN, ap_drop, ap_ifS, ap_break, ap_cont, ap_par, ap_aug, ap_ip, ap_gSub, ap_gTup, ap_gNil, ap_gCons, ap_var, ap_c, ap_op, ap_un, ap_if, ap_test, ap_B, ap_and, ap_or, ap_not, ap_andV, ap_orV, ap_notV, ap_nil, ap_cons, ap_tup, ap_lst, ap_cb, ap_bm, ap_call, ap_chain, ap_rI, ap_rI0, ap_rU, ap_rEq, ap_rNe, ap_revT, ap_sl, ap_part, ap_noPart, ap_ixLI, ap_ixTI, ap_ixLV, ap_ixTV, ap_len, ap_setLI, ap_setLV, ap_appI, ap_appV, ap_tupL, ap_listS, ap_sumLI, ap_sumTI, ap_repLI, ap_intI, ap_intB, ap_eqTI, ap_neTI, ap_eqLI, ap_neLI, ap_isi, ap_for, ap_rng1, ap_rng2, ap_iList, ap_iTup, ap_lc, ap_yes, ap_cut, ap_gTupH, ap_fmt, ap_jsn, ap_jsc, ap_gcd, ap_isqrt, ap_ixL, tyV_l, wipe_nil, wipe_cons, upd_same, ap_shl, ap_shr, ap_mask, ap_comb, ap_bits, ap_rng3, List.set_cons_zero, List.set_cons_succ, List.getElem?_cons_zero, List.getElem?_cons_succ, List.cons_append, List.nil_append, List.append_nil, Option.some.injEq, V.int.injEq, V.ref.injEq, V.bl.injEq, V.str.injEq, V.ty.injEq, Bool.not_true, Bool.not_false, HO.lst.injEq, HO.tup.injEq, reduceCtorEq, Int.reduceToNat, Int.reduceLT, Int.reduceLE, Nat.reduceAdd, Int.cast_ofNat_Int, gi_c0, gi_c1, gi_c2, gi_c3, Int.natCast_inj, map_int_inj, map_nil_iff, List.cons.injEq, exists_eq_left, exists_eq_left', exists_eq, exists_eq', exists_and_left, exists_and_right, exists_const, and_assoc, and_true, true_and, and_false, false_and, or_false, false_or, or_true, true_or, ite_true, ite_false, if_true, if_false, Bool.false_eq_true, own_cons, own_nil, le1, le2, le3, le4, me_cons, me_nil, List.length_map, List.length_cons, List.length_nil, ne_eq, not_false_eq_true, not_true_eq_false, decide_eq_true_eq, CMul]
        refine ⟨by omega, by omega, by omega, ?_⟩
        have e2 : ((d : Int) * (m : Int) + 1).toNat = d * m + 1 := by omega
        rw [e2]
        refine lc_rangeI (fun x => cnt d m x) (by omega) (fun x => rfl) (fun i H4 hi sm4 Q1 hQ => ?_) (fun p5 H5 np5 sm5 e5 => ?_)
        · have ed4 := sm4 _ _ ed3
          simp only [ap_seq, ap_next, ap_asg, ap_gName, ap_ret, ap_retN, ap_drop, ap_ifS, ap_break, ap_cont, ap_par, ap_aug, ap_ip, ap_gSub, ap_gTup, ap_gNil, ap_gCons, ap_var, ap_c, ap_op, ap_un, ap_if, ap_test, ap_B, ap_and, ap_or, ap_not, ap_andV, ap_orV, ap_notV, ap_nil, ap_cons, ap_tup, ap_lst, ap_cb, ap_bm, ap_call, ap_chain, ap_rI, ap_rI0, ap_rU, ap_rEq, ap_rNe, ap_revT, ap_sl, ap_part, ap_noPart, ap_ixLI, ap_ixTI, ap_ixLV, ap_ixTV, ap_len, ap_setLI, ap_setLV, ap_appI, ap_appV, ap_tupL, ap_listS, ap_sumLI, ap_sumTI, ap_repLI, ap_intI, ap_intB, ap_eqTI, ap_neTI, ap_eqLI, ap_neLI, ap_isi, ap_for, ap_rng1, ap_rng2, ap_iList, ap_iTup, ap_lc, ap_yes, ap_cut, ap_gTupH, ap_fmt, ap_jsn, ap_jsc, ap_gcd, ap_isqrt, ap_ixL, tyV_l, wipe_nil, wipe_cons, upd_same, ap_shl, ap_shr, ap_mask, ap_comb, ap_bits, ap_rng3, List.set_cons_zero, List.set_cons_succ, List.getElem?_cons_zero, List.getElem?_cons_succ, List.cons_append, List.nil_append, List.append_nil, Option.some.injEq, V.int.injEq, V.ref.injEq, V.bl.injEq, V.str.injEq, V.ty.injEq, Bool.not_true, Bool.not_false, HO.lst.injEq, HO.tup.injEq, reduceCtorEq, Int.reduceToNat, Int.reduceLT, Int.reduceLE, Nat.reduceAdd, Int.cast_ofNat_Int, gi_c0, gi_c1, gi_c2, gi_c3, Int.natCast_inj, map_int_inj, map_nil_iff, List.cons.injEq, exists_eq_left, exists_eq_left', exists_eq, exists_eq', exists_and_left, exists_and_right, exists_const, and_assoc, and_true, true_and, and_false, false_and, or_false, false_or, or_true, true_or, ite_true, ite_false, if_true, if_false, Bool.false_eq_true, own_cons, own_nil, le1, le2, le3, le4, me_cons, me_nil, List.length_map, List.length_cons, List.length_nil, ne_eq, not_false_eq_true, not_true_eq_false, decide_eq_true_eq]
          refine ⟨⟨_, sqL_of ed4⟩, ?_⟩
          refine lc_listI (fun j => ex m j i) ed4 (by rw [List.length_map]; omega) (fun x => rfl) (fun j x H5 hx sm5 Q2 hQ2 => ?_) (fun p6 H6 np6 sm6 e6 => ?_)
          · rw [List.getElem?_map] at hx
            obtain ⟨r, hr1, hr2⟩ := Option.map_eq_some_iff.mp hx
            subst hr2
            have er := sm5 _ _ (sm4 _ _ (R3.at_ j r hr1))
            have ln : ((List.range (d * m + 1)).map fun z : Nat => ex m j z).length = d * m + 1 := by simp
            simp only [ap_seq, ap_next, ap_asg, ap_gName, ap_ret, ap_retN, ap_drop, ap_ifS, ap_break, ap_cont, ap_par, ap_aug, ap_ip, ap_gSub, ap_gTup, ap_gNil, ap_gCons, ap_var, ap_c, ap_op, ap_un, ap_if, ap_test, ap_B, ap_and, ap_or, ap_not, ap_andV, ap_orV, ap_notV, ap_nil, ap_cons, ap_tup, ap_lst, ap_cb, ap_bm, ap_call, ap_chain, ap_rI, ap_rI0, ap_rU, ap_rEq, ap_rNe, ap_revT, ap_sl, ap_part, ap_noPart, ap_ixLI, ap_ixTI, ap_ixLV, ap_ixTV, ap_len, ap_setLI, ap_setLV, ap_appI, ap_appV, ap_tupL, ap_listS, ap_sumLI, ap_sumTI, ap_repLI, ap_intI, ap_intB, ap_eqTI, ap_neTI, ap_eqLI, ap_neLI, ap_isi, ap_for, ap_rng1, ap_rng2, ap_iList, ap_iTup, ap_lc, ap_yes, ap_cut, ap_gTupH, ap_fmt, ap_jsn, ap_jsc, ap_gcd, ap_isqrt, ap_ixL, tyV_l, wipe_nil, wipe_cons, upd_same, ap_shl, ap_shr, ap_mask, ap_comb, ap_bits, ap_rng3, List.set_cons_zero, List.set_cons_succ, List.getElem?_cons_zero, List.getElem?_cons_succ, List.cons_append, List.nil_append, List.append_nil, Option.some.injEq, V.int.injEq, V.ref.injEq, V.bl.injEq, V.str.injEq, V.ty.injEq, Bool.not_true, Bool.not_false, HO.lst.injEq, HO.tup.injEq, reduceCtorEq, Int.reduceToNat, Int.reduceLT, Int.reduceLE, Nat.reduceAdd, Int.cast_ofNat_Int, gi_c0, gi_c1, gi_c2, gi_c3, Int.natCast_inj, map_int_inj, map_nil_iff, List.cons.injEq, exists_eq_left, exists_eq_left', exists_eq, exists_eq', exists_and_left, exists_and_right, exists_const, and_assoc, and_true, true_and, and_false, false_and, or_false, false_or, or_true, true_or, ite_true, ite_false, if_true, if_false, Bool.false_eq_true, own_cons, own_nil, le1, le2, le3, le4, me_cons, me_nil, List.length_map, List.length_cons, List.length_nil, ne_eq, not_false_eq_true, not_true_eq_false, decide_eq_true_eq, er, ln]
            refine ⟨by omega, by omega, ?_⟩
            rw [gi_upto (by omega) (by omega)]
            have q1 : ((0 : Int) + (i : Int)).toNat = i := by omega
            rw [q1]
            exact hQ2 H5 (Same.refl H5)
          · simp only [ap_seq, ap_next, ap_asg, ap_gName, ap_ret, ap_retN, ap_drop, ap_ifS, ap_break, ap_cont, ap_par, ap_aug, ap_ip, ap_gSub, ap_gTup, ap_gNil, ap_gCons, ap_var, ap_c, ap_op, ap_un, ap_if, ap_test, ap_B, ap_and, ap_or, ap_not, ap_andV, ap_orV, ap_notV, ap_nil, ap_cons, ap_tup, ap_lst, ap_cb, ap_bm, ap_call, ap_chain, ap_rI, ap_rI0, ap_rU, ap_rEq, ap_rNe, ap_revT, ap_sl, ap_part, ap_noPart, ap_ixLI, ap_ixTI, ap_ixLV, ap_ixTV, ap_len, ap_setLI, ap_setLV, ap_appI, ap_appV, ap_tupL, ap_listS, ap_sumLI, ap_sumTI, ap_repLI, ap_intI, ap_intB, ap_eqTI, ap_neTI, ap_eqLI, ap_neLI, ap_isi, ap_for, ap_rng1, ap_rng2, ap_iList, ap_iTup, ap_lc, ap_yes, ap_cut, ap_gTupH, ap_fmt, ap_jsn, ap_jsc, ap_gcd, ap_isqrt, ap_ixL, tyV_l, wipe_nil, wipe_cons, upd_same, ap_shl, ap_shr, ap_mask, ap_comb, ap_bits, ap_rng3, List.set_cons_zero, List.set_cons_succ, List.getElem?_cons_zero, List.getElem?_cons_succ, List.cons_append, List.nil_append, List.append_nil, Option.some.injEq, V.int.injEq, V.ref.injEq, V.bl.injEq, V.str.injEq, V.ty.injEq, Bool.not_true, Bool.not_false, HO.lst.injEq, HO.tup.injEq, reduceCtorEq, Int.reduceToNat, Int.reduceLT, Int.reduceLE, Nat.reduceAdd, Int.cast_ofNat_Int, gi_c0, gi_c1, gi_c2, gi_c3, Int.natCast_inj, map_int_inj, map_nil_iff, List.cons.injEq, exists_eq_left, exists_eq_left', exists_eq, exists_eq', exists_and_left, exists_and_right, exists_const, and_assoc, and_true, true_and, and_false, false_and, or_false, false_or, or_true, true_or, ite_true, ite_false, if_true, if_false, Bool.false_eq_true, own_cons, own_nil, le1, le2, le3, le4, me_cons, me_nil, List.length_map, List.length_cons, List.length_nil, ne_eq, not_false_eq_true, not_true_eq_false, decide_eq_true_eq, e6]
            rw [hl, sum_range, sum_ex]
            exact hQ H6 sm6
        · simp only [ap_seq, ap_next, ap_asg, ap_gName, ap_ret, ap_retN, ap_drop, ap_ifS, ap_break, ap_cont, ap_par, ap_aug, ap_ip, ap_gSub, ap_gTup, ap_gNil, ap_gCons, ap_var, ap_c, ap_op, ap_un, ap_if, ap_test, ap_B, ap_and, ap_or, ap_not, ap_andV, ap_orV, ap_notV, ap_nil, ap_cons, ap_tup, ap_lst, ap_cb, ap_bm, ap_call, ap_chain, ap_rI, ap_rI0, ap_rU, ap_rEq, ap_rNe, ap_revT, ap_sl, ap_part, ap_noPart, ap_ixLI, ap_ixTI, ap_ixLV, ap_ixTV, ap_len, ap_setLI, ap_setLV, ap_appI, ap_appV, ap_tupL, ap_listS, ap_sumLI, ap_sumTI, ap_repLI, ap_intI, ap_intB, ap_eqTI, ap_neTI, ap_eqLI, ap_neLI, ap_isi, ap_for, ap_rng1, ap_rng2, ap_iList, ap_iTup, ap_lc, ap_yes, ap_cut, ap_gTupH, ap_fmt, ap_jsn, ap_jsc, ap_gcd, ap_isqrt, ap_ixL, tyV_l, wipe_nil, wipe_cons, upd_same, ap_shl, ap_shr, ap_mask, ap_comb, ap_bits, ap_rng3, List.set_cons_zero, List.set_cons_succ, List.getElem?_cons_zero, List.getElem?_cons_succ, List.cons_append, List.nil_append, List.append_nil, Option.some.injEq, V.int.injEq, V.ref.injEq, V.bl.injEq, V.str.injEq, V.ty.injEq, Bool.not_true, Bool.not_false, HO.lst.injEq, HO.tup.injEq, reduceCtorEq, Int.reduceToNat, Int.reduceLT, Int.reduceLE, Nat.reduceAdd, Int.cast_ofNat_Int, gi_c0, gi_c1, gi_c2, gi_c3, Int.natCast_inj, map_int_inj, map_nil_iff, List.cons.injEq, exists_eq_left, exists_eq_left', exists_eq, exists_eq', exists_and_left, exists_and_right, exists_const, and_assoc, and_true, true_and, and_false, false_and, or_false, false_or, or_true, true_or, ite_true, ite_false, if_true, if_false, Bool.false_eq_true, own_cons, own_nil, le1, le2, le3, le4, me_cons, me_nil, List.length_map, List.length_cons, List.length_nil, ne_eq, not_false_eq_true, not_true_eq_false, decide_eq_true_eq, e5]
          intro l nl
          exact q _ l ((sm3.trans sm5).trans (same_upd nl)) ((sm3.trans sm5).free nl) upd_same
      refine loop_range (fun v σ' H' => ∃ y3 y4 y5 y6 y7, σ' = [some (.int d), some (.int m), some (.ref p), y3, y4, y5, y6, y7] ∧ Same H H' ∧ H' p = some (.lst (rs.map V.ref)) ∧ Rows H' rs (d * m + 1) (fun j z => ex v j z))
        ⟨_, _, _, _, _, rfl, sm1, ed1, R1⟩ (fun v σ' H' hv hP => ?_) (fun σ' H' hP => ?_)
      · obtain ⟨y3, y4, y5, y6, y7, e, sm2, ed2, R2⟩ := hP
        subst e
        simp only [ap_seq, ap_next, ap_asg, ap_gName, ap_ret, ap_retN, ap_drop, ap_ifS, ap_break, ap_cont, ap_par, ap_aug, ap_ip, ap_gSub, ap_gTup, ap_gNil, ap_gCons, ap_var, ap_c, ap_op, ap_un, ap_if, ap_test, ap_B, ap_and, ap_or, ap_not, ap_andV, ap_orV, ap_notV, ap_nil, ap_cons, ap_tup, ap_lst, ap_cb, ap_bm, ap_call, ap_chain, ap_rI, ap_rI0, ap_rU, ap_rEq, ap_rNe, ap_revT, ap_sl, ap_part, ap_noPart, ap_ixLI, ap_ixTI, ap_ixLV, ap_ixTV, ap_len, ap_setLI, ap_setLV, ap_appI, ap_appV, ap_tupL, ap_listS, ap_sumLI, ap_sumTI, ap_repLI, ap_intI, ap_intB, ap_eqTI, ap_neTI, ap_eqLI, ap_neLI, ap_isi, ap_for, ap_rng1, ap_rng2, ap_iList, ap_iTup, ap_lc, ap_yes, ap_cut, ap_gTupH, ap_fmt, ap_jsn, ap_jsc, ap_gcd, ap_isqrt, ap_ixL, tyV_l, wipe_nil, wipe_cons, upd_same, ap_shl, ap_shr, ap_mask, ap_comb, ap_bits, ap_rng3, List.set_cons_zero, List.set_cons_succ, List.getElem?_cons_zero, List.getElem?_cons_succ, List.cons_append, List.nil_append, List.append_nil, Option.some.injEq, V.int.injEq, V.ref.injEq, V.bl.injEq, V.str.injEq, V.ty.injEq, Bool.not_true, Bool.not_false, HO.lst.injEq, HO.tup.injEq, reduceCtorEq, Int.reduceToNat, Int.reduceLT, Int.reduceLE, Nat.reduceAdd, Int.cast_ofNat_Int, gi_c0, gi_c1, gi_c2, gi_c3, Int.natCast_inj, map_int_inj, map_nil_iff, List.cons.injEq, exists_eq_left, exists_eq_left', exists_eq, exists_eq', exists_and_left, exists_and_right, exists_const, and_assoc, and_true, true_and, and_false, false_and, or_false, false_or, or_true, true_or, ite_true, ite_false, if_true, if_false, Bool.false_eq_true, own_cons, own_nil, le1, le2, le3, le4, me_cons, me_nil, List.length_map, List.length_cons, List.length_nil, ne_eq, not_false_eq_true, not_true_eq_false, decide_eq_true_eq]
        refine ⟨by omega, by omega, by omega, by omega, ?_⟩
        refine loop_range (fun k σ' H' => ∃ y4 y5 y6 y7, σ' = [some (.int d), some (.int m), some (.ref p), some (.int (1 + v)), y4, y5, y6, y7] ∧ Same H H' ∧ H' p = some (.lst (rs.map V.ref)) ∧ Rows H' rs (d * m + 1) (vf v (k + 1) 0))
          ⟨_, _, _, _, rfl, sm2, ed2, ?_⟩ (fun k σ' H3 hk hP => ?_) (fun σ' H3 hP => ?_)
        · refine R2.congr fun j z hj hz => ?_
          unfold vf
          by_cases c : j < 0 + 1 ∨ (j = 0 + 1 ∧ z < 0)
          · obtain rfl : j = 0 := by omega
            rw [if_pos c, ex_zero, ex_zero]
          · rw [if_neg c]
        · obtain ⟨y4, y5, y6, y7, e, sm3, ed3, R3⟩ := hP
          subst e
          obtain ⟨r1, h1⟩ : ∃ r, rs[k + 1]? = some r := ⟨rs[k + 1]'(by omega), List.getElem?_eq_getElem (by omega)⟩
          obtain ⟨r2, h2⟩ : ∃ r, rs[k]? = some r := ⟨rs[k]'(by omega), List.getElem?_eq_getElem (by omega)⟩
          have a1 : atI (rs.map V.ref) (1 + (k : Int)) = some (.ref r1) := by
            have e : (1 : Int) + (k : Int) = ((k + 1 : Nat) : Int) := by omega
            rw [e]
            exact atI_nat (by rw [List.getElem?_map, h1]; rfl)
          have a2 : atI (rs.map V.ref) (1 + (k : Int) - 1) = some (.ref r2) := by
            have e : (1 : Int) + (k : Int) - 1 = (k : Int) := by omega
            rw [e]
            exact atI_nat (by rw [List.getElem?_map, h2]; rfl)
          simp only [ap_seq, ap_next, ap_asg, ap_gName, ap_ret, ap_retN, ap_drop, ap_ifS, ap_break, ap_cont, ap_par, ap_aug, ap_ip, ap_gSub, ap_gTup, ap_gNil, ap_gCons, ap_var, ap_c, ap_op, ap_un, ap_if, ap_test, ap_B, ap_and, ap_or, ap_not, ap_andV, ap_orV, ap_notV, ap_nil, ap_cons, ap_tup, ap_lst, ap_cb, ap_bm, ap_call, ap_chain, ap_rI, ap_rI0, ap_rU, ap_rEq, ap_rNe, ap_revT, ap_sl, ap_part, ap_noPart, ap_ixLI, ap_ixTI, ap_ixLV, ap_ixTV, ap_len, ap_setLI, ap_setLV, ap_appI, ap_appV, ap_tupL, ap_listS, ap_sumLI, ap_sumTI, ap_repLI, ap_intI, ap_intB, ap_eqTI, ap_neTI, ap_eqLI, ap_neLI, ap_isi, ap_for, ap_rng1, ap_rng2, ap_iList, ap_iTup, ap_lc, ap_yes, ap_cut, ap_gTupH, ap_fmt, ap_jsn, ap_jsc, ap_gcd, ap_isqrt, ap_ixL, tyV_l, wipe_nil, wipe_cons, upd_same, ap_shl, ap_shr, ap_mask, ap_comb, ap_bits, ap_rng3, List.set_cons_zero, List.set_cons_succ, List.getElem?_cons_zero, List.getElem?_cons_succ, List.cons_append, List.nil_append, List.append_nil, Option.some.injEq, V.int.injEq, V.ref.injEq, V.bl.injEq, V.str.injEq, V.ty.injEq, Bool.not_true, Bool.not_false, HO.lst.injEq, HO.tup.injEq, reduceCtorEq, Int.reduceToNat, Int.reduceLT, Int.reduceLE, Nat.reduceAdd, Int.cast_ofNat_Int, gi_c0, gi_c1, gi_c2, gi_c3, Int.natCast_inj, map_int_inj, map_nil_iff, List.cons.injEq, exists_eq_left, exists_eq_left', exists_eq, exists_eq', exists_and_left, exists_and_right, exists_const, and_assoc, and_true, true_and, and_false, false_and, or_false, false_or, or_true, true_or, ite_true, ite_false, if_true, if_false, Bool.false_eq_true, own_cons, own_nil, le1, le2, le3, le4, me_cons, me_nil, List.length_map, List.length_cons, List.length_nil, ne_eq, not_false_eq_true, not_true_eq_false, decide_eq_true_eq, ed3, a1, a2, CMul]
          refine ⟨.inl (by omega), by omega, by omega, by omega, by omega, ?_⟩
          refine loop_range (fun y σ' H' => ∃ y7, σ' = [some (.int d), some (.int m), some (.ref p), some (.int (1 + v)), some (.int (1 + k)), some (.ref r1), some (.ref r2), y7] ∧ Same H H' ∧ H' p = some (.lst (rs.map V.ref)) ∧ Rows H' rs (d * m + 1) (vf v (k + 1) (v + 1 + y)))
            ⟨_, rfl, sm3, ed3, R3.congr fun j z hj hz => ?_⟩ (fun y σ' H4 hy hP => ?_) (fun σ' H4 hP => ?_)
          · unfold vf
            by_cases c : j < k + 1
            · rw [if_pos (.inl c), if_pos (.inl c)]
            · rw [if_neg (by omega)]
              by_cases c2 : j = k + 1 ∧ z < v + 1 + 0
              · rw [if_pos (.inr c2)]
                exact (ex_low v j z (by omega)).symm
              · rw [if_neg (by omega)]
          · obtain ⟨y7, e, sm4, ed4, R4⟩ := hP
            subst e
            have f1 := R4.at_ (k + 1) r1 h1
            have f2 := R4.at_ k r2 h2
            have ln : ∀ f : Nat → Int, ((List.range (d * m + 1)).map f).length = d * m + 1 := fun f => by simp
            simp only [ap_seq, ap_next, ap_asg, ap_gName, ap_ret, ap_retN, ap_drop, ap_ifS, ap_break, ap_cont, ap_par, ap_aug, ap_ip, ap_gSub, ap_gTup, ap_gNil, ap_gCons, ap_var, ap_c, ap_op, ap_un, ap_if, ap_test, ap_B, ap_and, ap_or, ap_not, ap_andV, ap_orV, ap_notV, ap_nil, ap_cons, ap_tup, ap_lst, ap_cb, ap_bm, ap_call, ap_chain, ap_rI, ap_rI0, ap_rU, ap_rEq, ap_rNe, ap_revT, ap_sl, ap_part, ap_noPart, ap_ixLI, ap_ixTI, ap_ixLV, ap_ixTV, ap_len, ap_setLI, ap_setLV, ap_appI, ap_appV, ap_tupL, ap_listS, ap_sumLI, ap_sumTI, ap_repLI, ap_intI, ap_intB, ap_eqTI, ap_neTI, ap_eqLI, ap_neLI, ap_isi, ap_for, ap_rng1, ap_rng2, ap_iList, ap_iTup, ap_lc, ap_yes, ap_cut, ap_gTupH, ap_fmt, ap_jsn, ap_jsc, ap_gcd, ap_isqrt, ap_ixL, tyV_l, wipe_nil, wipe_cons, upd_same, ap_shl, ap_shr, ap_mask, ap_comb, ap_bits, ap_rng3, List.set_cons_zero, List.set_cons_succ, List.getElem?_cons_zero, List.getElem?_cons_succ, List.cons_append, List.nil_append, List.append_nil, Option.some.injEq, V.int.injEq, V.ref.injEq, V.bl.injEq, V.str.injEq, V.ty.injEq, Bool.not_true, Bool.not_false, HO.lst.injEq, HO.tup.injEq, reduceCtorEq, Int.reduceToNat, Int.reduceLT, Int.reduceLE, Nat.reduceAdd, Int.cast_ofNat_Int, gi_c0, gi_c1, gi_c2, gi_c3, Int.natCast_inj, map_int_inj, map_nil_iff, List.cons.injEq, exists_eq_left, exists_eq_left', exists_eq, exists_eq', exists_and_left, exists_and_right, exists_const, and_assoc, and_true, true_and, and_false, false_and, or_false, false_or, or_true, true_or, ite_true, ite_false, if_true, if_false, Bool.false_eq_true, own_cons, own_nil, le1, le2, le3, le4, me_cons, me_nil, List.length_map, List.length_cons, List.length_nil, ne_eq, not_false_eq_true, not_true_eq_false, decide_eq_true_eq, f1, f2, ln]
            have w1 : (1 : Int) + (v : Int) + (y : Int) = ((v + 1 + y : Nat) : Int) := by omega
            have w2 : ((v + 1 + y : Nat) : Int) - (1 + (v : Int)) = (y : Int) := by omega
            rw [w1, w2]
            refine ⟨by omega, by omega, by omega, by omega, by omega, by omega, ?_⟩
            rw [gi_upto (by omega) (by omega), gi_upto (by omega) (by omega)]
            have w3 : (((v + 1 + y : Nat) : Int)).toNat = v + 1 + y := by omega
            have w4 : ((y : Int)).toNat = y := by omega
            rw [w3, w4]
            have hpr1 : p ≠ r1 := hpr r1 (List.mem_iff_getElem?.mpr ⟨_, h1⟩)
            refine ⟨same_mut sm4 (fr r1 (List.mem_iff_getElem?.mpr ⟨_, h1⟩)), by rw [upd_ne hpr1]; exact ed4, R4.set h1 fun j z => ?_⟩
            by_cases c : j = k + 1 ∧ z = v + 1 + y
            · rw [if_pos c]
              unfold vf
              rw [if_pos (.inr ⟨c.1, by omega⟩), if_neg (by omega), if_pos (.inl (by omega)), c.1, c.2, ex_step]
              have w5 : ((v + 1 + y : Nat) : Int) - (v + 1) = (y : Int) := by omega
              rw [w5]
            · rw [if_neg c]
              unfold vf
              by_cases c1 : j < k + 1 ∨ (j = k + 1 ∧ z < v + 1 + y)
              · rw [if_pos c1, if_pos (by omega)]
              · rw [if_neg c1, if_neg (by omega)]
          · obtain ⟨y7, e, sm4, ed4, R4⟩ := hP
            subst e
            refine ⟨⟨_, _, _, _, rfl⟩, sm4, ed4, R4.congr fun j z hj hz => ?_⟩
            unfold vf
            by_cases c : j < k + 1 + 1
            · rw [if_pos (by omega), if_pos (.inl c)]
            · rw [if_neg (by omega), if_neg (by omega)]
        · obtain ⟨y4, y5, y6, y7, e, sm3, ed3, R3⟩ := hP
          subst e
          refine ⟨⟨_, _, _, _, _, rfl⟩, sm3, ed3, R3.congr fun j z hj hz => ?_⟩
          · unfold vf
            rw [if_pos (.inl (by omega))]
      · obtain ⟨y3, y4, y5, y6, y7, e, sm2, ed2, R2⟩ := hP
        subst e
        have e2 : ((m : Int) + 1 - 1).toNat = m := by omega
        rw [e2] at R2
        exact fin H' _ _ _ _ _ sm2 ed2 R2
end
end My

namespace M26
/-! rising to the middle, for small numbers: by a table of rows -/
def plus : List Nat → List Nat → List Nat
  | [], ys => ys
  | x :: xs, [] => x :: xs
  | x :: xs, y :: ys => (x + y) :: plus xs ys
theorem plus_get : ∀ (xs ys : List Nat) (w : Nat), (plus xs ys).getD w 0 = xs.getD w 0 + ys.getD w 0
  | [], ys, w => by simp [plus]
  | x :: xs, [], w => by simp [plus]
  | x :: xs, y :: ys, 0 => by simp [plus]
  | x :: xs, y :: ys, w + 1 => by
    have h := plus_get xs ys w
    simpa [plus] using h
theorem shift_get (k : Nat) (ys : List Nat) (w : Nat) : (List.replicate k 0 ++ ys).getD w 0 = if w < k then 0 else ys.getD (w - k) 0 := by
  simp only [List.getD_eq_getElem?_getD]
  by_cases c : w < k
  · rw [if_pos c, List.getElem?_append_left (by simpa using c)]
    simp [c]
  · rw [if_neg c, List.getElem?_append_right (by simpa using c)]
    simp
def IsRow (d m : Nat) (r : List Nat) : Prop := ∀ w : Nat, ((r.getD w 0 : Nat) : Int) = cnt d m w
theorem isRow_one (d : Nat) : IsRow d 0 [1] := fun w => by
  rw [cm0]
  cases w with
  | zero => rfl
  | succ w =>
    rw [if_neg (by omega)]
    rfl
theorem isRow_one0 (m : Nat) : IsRow 0 m [1] := fun w => by
  rw [c0]
  cases w with
  | zero => rfl
  | succ w =>
    rw [if_neg (by omega)]
    rfl
theorem isRow_next {d m : Nat} {p l : List Nat} (hp : IsRow d (m + 1) p) (hl : IsRow (d + 1) m l) : IsRow (d + 1) (m + 1) (plus p (List.replicate (d + 1) 0 ++ l)) := fun w => by
  rw [plus_get, shift_get, cs, ← hp w]
  by_cases c : w < d + 1
  · rw [if_pos c, neg (d + 1) m _ (by omega)]
    omega
  · rw [if_neg c]
    have q : (w : Int) - (d + 1) = ((w - (d + 1) : Nat) : Int) := by omega
    rw [q, ← hl (w - (d + 1))]
    omega
/-- the rows of d + 1 for m + 1, m + 2, .., from those of d -/
def line (k : Nat) : List (List Nat) → List Nat → List (List Nat)
  | [], _ => []
  | p :: ps, last => plus p (List.replicate k 0 ++ last) :: line k ps (plus p (List.replicate k 0 ++ last))
def IsLine (d : Nat) (m : Nat) (ls : List (List Nat)) : Prop := ∀ i r, ls[i]? = some r → IsRow d (m + i) r
theorem line_ok {d : Nat} : ∀ (ps : List (List Nat)) (m : Nat) (last : List Nat), IsLine d (m + 1) ps → IsRow (d + 1) m last → IsLine (d + 1) (m + 1) (line (d + 1) ps last)
  | [], m, last, _, _ => fun i r h => by simp [line] at h
  | p :: ps, m, last, hp, hl => by
    have h0 : IsRow (d + 1) (m + 1) (plus p (List.replicate (d + 1) 0 ++ last)) := isRow_next (hp 0 p rfl) hl
    intro i r h
    cases i with
    | zero =>
      have e : plus p (List.replicate (d + 1) 0 ++ last) = r := Option.some.inj h
      rw [← e]
      exact h0
    | succ i =>
      have := line_ok ps (m + 1) _ (fun j r' hj => by
        have := hp (j + 1) r' hj
        have q : m + 1 + (j + 1) = m + 1 + 1 + j := by omega
        rw [q] at this
        exact this) h0 i r h
      have q : m + 1 + (i + 1) = m + 1 + 1 + i := by omega
      rw [q]
      exact this
def nextLine (d : Nat) (ls : List (List Nat)) : List (List Nat) := [1] :: line (d + 1) (ls.drop 1) [1]
theorem nextLine_ok {d : Nat} {ls : List (List Nat)} (h : IsLine d 0 ls) : IsLine (d + 1) 0 (nextLine d ls) := by
  intro i r hi
  cases i with
  | zero =>
    have e : [1] = r := Option.some.inj hi
    rw [← e]
    exact isRow_one (d + 1)
  | succ i =>
    have h1 : IsLine d (0 + 1) (ls.drop 1) := fun j r' hj => by
      rw [List.getElem?_drop] at hj
      have := h (1 + j) r' hj
      have q : 0 + (1 + j) = 0 + 1 + j := by omega
      rw [q] at this
      exact this
    have := line_ok (ls.drop 1) 0 [1] h1 (isRow_one (d + 1)) i r hi
    have q : 0 + (i + 1) = 0 + 1 + i := by omega
    rw [q]
    exact this
def tableD : Nat → List (List Nat)
  | 0 => List.replicate 13 [1]
  | d + 1 => nextLine d (tableD d)
theorem table_ok : ∀ d, IsLine d 0 (tableD d)
  | 0 => fun i r h => by
    have : r = [1] := by
      have := List.mem_of_getElem? h
      exact List.eq_of_mem_replicate this
    subst this
    rw [Nat.zero_add]
    exact isRow_one0 i
  | d + 1 => nextLine_ok (table_ok d)
def rising (d m : Nat) (r : List Nat) : Bool := (List.range (d * m / 2)).all fun w => decide (r.getD w 0 ≤ r.getD (w + 1) 0)
def lineUp (d : Nat) : Bool := (List.range 13).all fun m => match (tableD d)[m]? with
  | some r => rising d m r
  | none => false
theorem allUp : (List.range 13).all lineUp = true := by decide +kernel
theorem rise {d m w : Nat} (hd : d < 13) (hm : m < 13) (hw : w < d * m / 2) : cnt d m w ≤ cnt d m (w + 1 : Nat) := by
  have h1 := List.all_eq_true.mp allUp d (List.mem_range.mpr hd)
  have h2 := List.all_eq_true.mp h1 m (List.mem_range.mpr hm)
  cases e : (tableD d)[m]? with
  | none =>
    simp only [e] at h2
    cases h2
  | some r =>
    simp only [e] at h2
    have h3 := of_decide_eq_true (List.all_eq_true.mp h2 w (List.mem_range.mpr hw))
    have hr := table_ok d m r e
    rw [Nat.zero_add] at hr
    rw [← hr w, ← hr (w + 1)]
    omega
/-! one great count -/
def subl : List Int → List Int → List Int
  | x :: xs, y :: ys => (x - y) :: subl xs ys
  | _, _ => []
def acc : List Int → List Int → List Int
  | u :: us, h :: t => (u + h) :: acc us (t ++ [u + h])
  | _, _ => []
theorem acc_get : ∀ (us q : List Int) (w : Nat), 0 < q.length → w < us.length → (acc us q).getD w 0 = us.getD w 0 + (q ++ acc us q).getD w 0
  | [], q, w, _, h => by simp at h
  | u :: us, [], w, h, _ => by simp at h
  | u :: us, h :: t, 0, _, _ => by simp [acc]
  | u :: us, h :: t, w + 1, _, hw => by
    have ih := acc_get us (t ++ [u + h]) w (by simp) (by simpa using hw)
    simp [acc] at ih ⊢
    exact ih
theorem acc_len : ∀ (us q : List Int), 0 < q.length → (acc us q).length = us.length
  | [], q, _ => by unfold acc; rfl
  | u :: us, [], h => by simp at h
  | u :: us, h :: t, _ => by
    show (acc us (t ++ [u + h])).length + 1 = us.length + 1
    rw [acc_len us _ (by simp)]
theorem subl_get : ∀ (xs ys : List Int) (w : Nat), w < xs.length → w < ys.length → (subl xs ys).getD w 0 = xs.getD w 0 - ys.getD w 0
  | [], ys, w, h, _ => by simp at h
  | x :: xs, [], w, _, h => by simp at h
  | x :: xs, y :: ys, 0, _, _ => by simp [subl]
  | x :: xs, y :: ys, w + 1, h1, h2 => by
    have := subl_get xs ys w (by simpa using h1) (by simpa using h2)
    simpa [subl] using this
theorem subl_len : ∀ (xs ys : List Int), xs.length ≤ ys.length → (subl xs ys).length = xs.length
  | [], ys, _ => by unfold subl; rfl
  | x :: xs, [], h => by simp at h
  | x :: xs, y :: ys, h => by
    show (subl xs ys).length + 1 = xs.length + 1
    rw [subl_len xs ys (by simpa using h)]
theorem shift_getI (k : Nat) (ys : List Int) (w : Nat) : (List.replicate k 0 ++ ys).getD w 0 = if w < k then 0 else ys.getD (w - k) 0 := by
  simp only [List.getD_eq_getElem?_getD]
  by_cases c : w < k
  · rw [if_pos c, List.getElem?_append_left (by simpa using c)]
    simp [c]
  · rw [if_neg c, List.getElem?_append_right (by simpa using c)]
    simp
def rowN (m : Nat) (n : Nat) : Nat → List Int
  | 0 => 1 :: List.replicate n 0
  | d + 1 => acc (subl (rowN m n d) (List.replicate (m + d + 1) 0 ++ rowN m n d)) (List.replicate (d + 1) 0)
theorem rowN_len (m n : Nat) : ∀ d, (rowN m n d).length = n + 1
  | 0 => by simp [rowN]
  | d + 1 => by
    show (acc _ _).length = n + 1
    rw [acc_len _ _ (by simp), subl_len _ _ (by simp), rowN_len m n d]
theorem rowN_get (m n : Nat) : ∀ (d w : Nat), w ≤ n → (rowN m n d).getD w 0 = cnt d m w
  | 0, w, h => by
    rw [c0]
    cases w with
    | zero => rfl
    | succ w =>
      rw [if_neg (by omega)]
      show (List.replicate n (0 : Int)).getD w 0 = 0
      rw [List.getD_eq_getElem?_getD]
      by_cases c : w < n
      · rw [List.getElem?_replicate, if_pos c]
        rfl
      · rw [List.getElem?_replicate, if_neg c]
        rfl
  | d + 1, w, h => by
    have hl : (subl (rowN m n d) (List.replicate (m + d + 1) 0 ++ rowN m n d)).length = n + 1 := by rw [subl_len _ _ (by simp), rowN_len]
    have e : ∀ x, x ≤ n → (rowN m n (d + 1)).getD x 0 = (cnt d m x - cnt d m (x - (m + d + 1))) + (List.replicate (d + 1) 0 ++ rowN m n (d + 1)).getD x 0 := fun x hx => by
      show (acc _ _).getD x 0 = _
      rw [acc_get _ _ _ (by simp) (by omega), subl_get _ _ _ (by rw [rowN_len]; omega) (by simp [rowN_len]; omega), rowN_get m n d x hx, shift_getI]
      congr 1
      congr 1
      by_cases c : x < m + d + 1
      · rw [if_pos c, neg d m _ (by omega)]
      · rw [if_neg c, rowN_get m n d _ (by omega)]
        congr 1
        omega
    have go : ∀ k x, x ≤ k → x ≤ n → (rowN m n (d + 1)).getD x 0 = cnt (d + 1) m x := by
      intro k
      induction k with
      | zero =>
        intro x h0 hx
        rw [e x hx, shift_getI, if_pos (by omega)]
        have := ruleA d m x
        have := neg (d + 1) m (x - (d + 1)) (by omega)
        omega
      | succ k ih =>
        intro x h0 hx
        rw [e x hx, shift_getI]
        have hA := ruleA d m x
        by_cases c : x < d + 1
        · rw [if_pos c]
          have := neg (d + 1) m (x - (d + 1)) (by omega)
          omega
        · rw [if_neg c, ih (x - (d + 1)) (by omega) (by omega)]
          have q : ((x - (d + 1) : Nat) : Int) = x - (d + 1) := by omega
          rw [q]
          omega
    exact go w w (Nat.le_refl _) h
/-- the same, faster -/
def acc2 : List Int → List Int → List Int → List Int
  | u :: us, h :: t, b => (u + h) :: acc2 us t ((u + h) :: b)
  | u :: us, [], b => match b.reverse with
    | h :: t => (u + h) :: acc2 us t [u + h]
    | [] => []
  | [], _, _ => []
theorem acc2_eq : ∀ (us f b : List Int), acc2 us f b = acc us (f ++ b.reverse)
  | [], f, b => by simp [acc2, acc]
  | u :: us, h :: t, b => by
    show (u + h) :: acc2 us t ((u + h) :: b) = (u + h) :: acc us (t ++ b.reverse ++ [u + h])
    rw [acc2_eq us t ((u + h) :: b), List.reverse_cons, List.append_assoc]
  | u :: us, [], b => by
    rw [List.nil_append]
    cases e : b.reverse with
    | nil => simp [acc2, acc, e]
    | cons h t =>
      have := acc2_eq us t [u + h]
      simp [acc2, acc, e, this]
def rowF (m : Nat) (n : Nat) : Nat → List Int
  | 0 => 1 :: List.replicate n 0
  | d + 1 => acc2 (subl (rowF m n d) (List.replicate (m + d + 1) 0 ++ rowF m n d)) (List.replicate (d + 1) 0) []
theorem rowF_eq (m n : Nat) : ∀ d, rowF m n d = rowN m n d
  | 0 => rfl
  | d + 1 => by
    show acc2 _ _ [] = acc _ _
    rw [acc2_eq, rowF_eq m n d, List.reverse_nil, List.append_nil]
theorem greatRow0 : (rowF 40 800 40).getD 800 0 = 410363630540693436398 := by decide +kernel
theorem greatRow : (rowN 40 800 40).getD 800 0 = 410363630540693436398 := by
  rw [← rowF_eq]
  exact greatRow0
theorem great : cnt 40 40 800 = 410363630540693436398 := by
  have h : (rowN 40 800 40).getD 800 0 = cnt 40 40 (800 : Nat) := rowN_get 40 800 40 800 (Nat.le_refl _)
  have e := greatRow
  generalize (rowN 40 800 40).getD 800 0 = z at h e
  rw [e] at h
  exact h.symm
theorem some1 : cnt 10 6 30 = 338 := by
  have h : (rowN 6 30 10).getD 30 0 = cnt 10 6 (30 : Nat) := rowN_get 6 30 10 30 (Nat.le_refl _)
  have e : (rowN 6 30 10).getD 30 0 = 338 := by decide +kernel
  generalize (rowN 6 30 10).getD 30 0 = z at h e
  rw [e] at h
  exact h.symm
theorem some2 : cnt 2 3 7 = 0 := high 2 3 7 (by decide)
theorem some3 : cnt 0 40 0 = 1 := by
  rw [c0]
  rfl
theorem crow_eq (d m : Nat) : crow d m = rowN m (d * m) d := by
  apply List.ext_getElem
  · rw [crow_len, rowN_len]
  · intro i h1 h2
    rw [rowN_len] at h2
    have h := rowN_get m (d * m) d i (by omega)
    rw [List.getD_eq_getElem?_getD, List.getElem?_eq_getElem (by rw [rowN_len]; omega)] at h
    have h' : (rowN m (d * m) d)[i] = cnt d m i := h
    rw [h']
    simp [crow]
theorem row23 : crow 2 3 = [1, 1, 2, 2, 2, 1, 1] := by
  rw [crow_eq]
  decide +kernel
theorem row40 : crow 4 0 = [1] := by
  rw [crow_eq]
  decide +kernel
theorem row00 : crow 0 0 = [1] := by
  rw [crow_eq]
  decide +kernel
end M26

namespace My
open PySem PySem.Spec PyProof.Rows L2 Pr M26
section
variable {P : Program} {w : World} {K : PySem.W.Frag} {mg : Str → Option Value} {base : Heap}
theorem bc {H : Hp} {Q : VK} {E : XK} {x X Y : Int} (d m : Nat) (e1 : X = d) (e2 : Y = m) (hd : d ≤ 40) (hm : m ≤ 40) (h0 : 0 ≤ x) (h1 : x ≤ 1600) (k : ∀ H', Same H H' → Q (.int (cnt d m x)) H') :
    sp_box_count [.int x, .int X, .int Y] H Q E := by
  subst e1 e2
  exact ⟨x, d, m, rfl, hd, hm, h0, h1, k⟩
theorem brow {H : Hp} {Q : VK} {E : XK} {X Y : Int} (d m : Nat) (e1 : X = d) (e2 : Y = m) (hd : d ≤ 40) (hm : m ≤ 40) (k : ∀ H' p, Same H H' → H p = none → H' p = some (TI (crow d m)) → Q (.ref p) H') :
    sp_box_row [.int X, .int Y] H Q E := by
  subst e1 e2
  exact ⟨d, m, rfl, hd, hm, k⟩
theorem mul1 (a b : Nat) : (1 + (a : Int)) * (1 + (b : Int)) = (((a + 1) * (b + 1) : Nat) : Int) := by
  rw [Int.natCast_mul]
  congr 1 <;> omega
theorem pick2 {r1 r2 : Int} {i : Nat} (a1 : 0 ≤ r1) (b1 : r1 < 13) (a2 : 0 ≤ r2) (b2 : r2 < 13) (hi : i < [r1, r2].length) : ∃ n : Nat, [r1, r2].getD i 0 = n ∧ n < 13 := by
  have hi : i < 2 := hi
  rcases i with _ | _ | i
  · exact ⟨r1.toNat, (Int.toNat_of_nonneg a1).symm, by omega⟩
  · exact ⟨r2.toNat, (Int.toNat_of_nonneg a2).symm, by omega⟩
  · omega
theorem scal_int (i j : Int) : scal (.int i) (.int j) = true := rfl
def sp_law_great_right : Sp := fun vs H Q _ => ∃ (d : Addr), vs = [.ref d] ∧ Dc H d ∧ ∀ H', Exc d H H' → Dc H' d → Q (.bl true) H'
theorem ok_law_great_right (T : Tx K mg) : FnOk P w K mg base CX0 5 T.f_law_great_right T.d_law_great_right p_law_great_right sp_law_great_right := by
  refine T.F_law_great_right.ok sc_law_great_right (fun vs H Q E h => ?_) (fun cdv A outer s H vs Q E hr h => ?_)
  · obtain ⟨d, rfl, _⟩ := h
    rfl
  · obtain ⟨d, rfl, hD, q⟩ := h
    refine ⟨_, (pss_cons (ps_par (i := 1) (j := 2) (by rfl) sc_law_great_right.nd rfl rfl (by decide) rfl rfl (pa_cons (pe_op op_add pe_int (pe_call (ok_law_roll T) (hr.mono (by decide)) (by rfl) T.m_law_roll T.F_law_roll.kp T.b_law_roll .nil pass0 (pa_cons (pv 0) (pa_cons pe_int pa_nil)))) (pa_cons (pe_op op_add pe_int (pe_call (ok_law_roll T) (hr.mono (by decide)) (by rfl) T.m_law_roll T.F_law_roll.kp T.b_law_roll .nil pass0 (pa_cons (pv 0) (pa_cons pe_int pa_nil)))) pa_nil)) (by rfl))
      (pss_cons (ps_set (i := 3) sc_law_great_right.nd rfl (Or.inl rfl) (pe_call (ok_law_roll T) (hr.mono (by decide)) (by rfl) T.m_law_roll T.F_law_roll.kp T.b_law_roll .nil pass0 (pa_cons (pv 0) (pa_cons (pe_op op_add (pe_op op_mul (pv 1) (pv 2)) pe_int) pa_nil))))
      (pss_cons (ps_set (i := 4) sc_law_great_right.nd rfl (Or.inl rfl) (pe_call (ok_box_count T) (hr.mono (by decide)) (by rfl) T.m_box_count T.F_box_count.kp T.b_box_count .nil pass0 (pa_cons (pv 3) (pa_cons (pv 1) (pa_cons (pv 2) pa_nil)))))
      (pss_cons (ps_if (PW.pt (pw_or (pt_cmpR op_ne (pv 4) (pe_call (ok_box_count T) (hr.mono (by decide)) (by rfl) T.m_box_count T.F_box_count.kp T.b_box_count .nil pass0 (pa_cons (pv 3) (pa_cons (pv 2) (pa_cons (pv 1) pa_nil)))) (nomark _)) (pw_or1 (pt_cmpR op_ne (pv 4) (pe_call (ok_box_count T) (hr.mono (by decide)) (by rfl) T.m_box_count T.F_box_count.kp T.b_box_count .nil pass0 (pa_cons (pe_op op_sub (pe_op op_mul (pv 1) (pv 2)) (pv 3)) (pa_cons (pv 1) (pa_cons (pv 2) pa_nil)))) (nomark _))))) (pss_one (ps_ret pe_bl)) pss_nil)
      (pss_cons (ps_set (i := 5) sc_law_great_right.nd rfl (Or.inl rfl) (pe_call (ok_box_count T) (hr.mono (by decide)) (by rfl) T.m_box_count T.F_box_count.kp T.b_box_count .nil pass0 (pa_cons (pv 3) (pa_cons (pe_op op_sub (pv 1) pe_int) (pa_cons (pv 2) pa_nil)))))
      (pss_one (ps_ret (pe_cmpR op_eq (pv 4) (pe_op op_add (pv 5) (pe_ifExp (pt_cmpR op_ge (pv 3) (pv 1) (nomark _)) (pe_call (ok_box_count T) (hr.mono (by decide)) (by rfl) T.m_box_count T.F_box_count.kp T.b_box_count .nil pass0 (pa_cons (pe_op op_sub (pv 3) (pv 1)) (pa_cons (pv 1) (pa_cons (pe_op op_sub (pv 2) pe_int) pa_nil)))) pe_int)) (nomark _))))))))), ?_⟩
    rw [st_law_great_right]
    simp only [ap_seq, ap_next, ap_asg, ap_gName, ap_ret, ap_retN, ap_drop, ap_ifS, ap_break, ap_cont, ap_par, ap_aug, ap_ip, ap_gSub, ap_gTup, ap_gNil, ap_gCons, ap_var, ap_c, ap_op, ap_un, ap_if, ap_test, ap_B, ap_and, ap_or, ap_not, ap_andV, ap_orV, ap_notV, ap_nil, ap_cons, ap_tup, ap_lst, ap_cb, ap_bm, ap_call, ap_chain, ap_rI, ap_rI0, ap_rU, ap_rEq, ap_rNe, ap_revT, ap_sl, ap_part, ap_noPart, ap_ixLI, ap_ixTI, ap_ixLV, ap_ixTV, ap_len, ap_setLI, ap_setLV, ap_appI, ap_appV, ap_tupL, ap_listS, ap_sumLI, ap_sumTI, ap_repLI, ap_intI, ap_intB, ap_eqTI, ap_neTI, ap_eqLI, ap_neLI, ap_isi, ap_for, ap_rng1, ap_rng2, ap_iList, ap_iTup, ap_lc, ap_yes, ap_cut, ap_gTupH, ap_fmt, ap_jsn, ap_jsc, ap_gcd, ap_isqrt, ap_ixL, tyV_l, wipe_nil, wipe_cons, upd_same, ap_shl, ap_shr, ap_mask, ap_comb, ap_bits, ap_rng3, List.set_cons_zero, List.set_cons_succ, List.getElem?_cons_zero, List.getElem?_cons_succ, List.cons_append, List.nil_append, List.append_nil, Option.some.injEq, V.int.injEq, V.ref.injEq, V.bl.injEq, V.str.injEq, V.ty.injEq, Bool.not_true, Bool.not_false, HO.lst.injEq, HO.tup.injEq, reduceCtorEq, Int.reduceToNat, Int.reduceLT, Int.reduceLE, Nat.reduceAdd, Int.cast_ofNat_Int, gi_c0, gi_c1, gi_c2, gi_c3, Int.natCast_inj, map_int_inj, map_nil_iff, List.cons.injEq, exists_eq_left, exists_eq_left', exists_eq, exists_eq', exists_and_left, exists_and_right, exists_const, and_assoc, and_true, true_and, and_false, false_and, or_false, false_or, or_true, true_or, ite_true, ite_false, if_true, if_false, Bool.false_eq_true, own_cons, own_nil, le1, le2, le3, le4, me_cons, me_nil, List.length_map, List.length_cons, List.length_nil, ne_eq, not_false_eq_true, not_true_eq_false, decide_eq_true_eq, sp_law_roll, scal_int]
    refine ⟨hD, fun H1 r1 x1 D1 a1 b1 => ⟨D1, fun H2 r2 x2 D2 a2 b2 => ⟨.inl (by omega), D2, ?_, ?_, fun H3 r3 x3 D3 a3 b3 => ?_⟩⟩⟩
    all_goals obtain ⟨a, rfl⟩ := Int.eq_ofNat_of_zero_le a1
    all_goals obtain ⟨b, rfl⟩ := Int.eq_ofNat_of_zero_le a2
    all_goals have hab : (a + 1) * (b + 1) ≤ 1600 := Nat.mul_le_mul (by omega : a + 1 ≤ 40) (by omega : b + 1 ≤ 40)
    all_goals simp only [mul1] at *
    · omega
    · omega
    refine bc (a + 1) (b + 1) (by omega) (by omega) (by omega) (by omega) a3 (by omega) fun H4 s4 => ?_
    refine bc (b + 1) (a + 1) (by omega) (by omega) (by omega) (by omega) a3 (by omega) fun H5 s5 => ?_
    simp only [ap_seq, ap_next, ap_asg, ap_gName, ap_ret, ap_retN, ap_drop, ap_ifS, ap_break, ap_cont, ap_par, ap_aug, ap_ip, ap_gSub, ap_gTup, ap_gNil, ap_gCons, ap_var, ap_c, ap_op, ap_un, ap_if, ap_test, ap_B, ap_and, ap_or, ap_not, ap_andV, ap_orV, ap_notV, ap_nil, ap_cons, ap_tup, ap_lst, ap_cb, ap_bm, ap_call, ap_chain, ap_rI, ap_rI0, ap_rU, ap_rEq, ap_rNe, ap_revT, ap_sl, ap_part, ap_noPart, ap_ixLI, ap_ixTI, ap_ixLV, ap_ixTV, ap_len, ap_setLI, ap_setLV, ap_appI, ap_appV, ap_tupL, ap_listS, ap_sumLI, ap_sumTI, ap_repLI, ap_intI, ap_intB, ap_eqTI, ap_neTI, ap_eqLI, ap_neLI, ap_isi, ap_for, ap_rng1, ap_rng2, ap_iList, ap_iTup, ap_lc, ap_yes, ap_cut, ap_gTupH, ap_fmt, ap_jsn, ap_jsc, ap_gcd, ap_isqrt, ap_ixL, tyV_l, wipe_nil, wipe_cons, upd_same, ap_shl, ap_shr, ap_mask, ap_comb, ap_bits, ap_rng3, List.set_cons_zero, List.set_cons_succ, List.getElem?_cons_zero, List.getElem?_cons_succ, List.cons_append, List.nil_append, List.append_nil, Option.some.injEq, V.int.injEq, V.ref.injEq, V.bl.injEq, V.str.injEq, V.ty.injEq, Bool.not_true, Bool.not_false, HO.lst.injEq, HO.tup.injEq, reduceCtorEq, Int.reduceToNat, Int.reduceLT, Int.reduceLE, Nat.reduceAdd, Int.cast_ofNat_Int, gi_c0, gi_c1, gi_c2, gi_c3, Int.natCast_inj, map_int_inj, map_nil_iff, List.cons.injEq, exists_eq_left, exists_eq_left', exists_eq, exists_eq', exists_and_left, exists_and_right, exists_const, and_assoc, and_true, true_and, and_false, false_and, or_false, false_or, or_true, true_or, ite_true, ite_false, if_true, if_false, Bool.false_eq_true, own_cons, own_nil, le1, le2, le3, le4, me_cons, me_nil, List.length_map, List.length_cons, List.length_nil, ne_eq, not_false_eq_true, not_true_eq_false, decide_eq_true_eq, scal_int]
    rw [swap (b + 1) (a + 1)]
    refine iteC (fun c => absurd c (by simp)) fun _ => ?_
    refine ⟨.inl (by omega), ?_⟩
    refine bc (a + 1) (b + 1) (by omega) (by omega) (by omega) (by omega) (by omega) (by omega) fun H6 s6 => ?_
    simp only [ap_seq, ap_next, ap_asg, ap_gName, ap_ret, ap_retN, ap_drop, ap_ifS, ap_break, ap_cont, ap_par, ap_aug, ap_ip, ap_gSub, ap_gTup, ap_gNil, ap_gCons, ap_var, ap_c, ap_op, ap_un, ap_if, ap_test, ap_B, ap_and, ap_or, ap_not, ap_andV, ap_orV, ap_notV, ap_nil, ap_cons, ap_tup, ap_lst, ap_cb, ap_bm, ap_call, ap_chain, ap_rI, ap_rI0, ap_rU, ap_rEq, ap_rNe, ap_revT, ap_sl, ap_part, ap_noPart, ap_ixLI, ap_ixTI, ap_ixLV, ap_ixTV, ap_len, ap_setLI, ap_setLV, ap_appI, ap_appV, ap_tupL, ap_listS, ap_sumLI, ap_sumTI, ap_repLI, ap_intI, ap_intB, ap_eqTI, ap_neTI, ap_eqLI, ap_neLI, ap_isi, ap_for, ap_rng1, ap_rng2, ap_iList, ap_iTup, ap_lc, ap_yes, ap_cut, ap_gTupH, ap_fmt, ap_jsn, ap_jsc, ap_gcd, ap_isqrt, ap_ixL, tyV_l, wipe_nil, wipe_cons, upd_same, ap_shl, ap_shr, ap_mask, ap_comb, ap_bits, ap_rng3, List.set_cons_zero, List.set_cons_succ, List.getElem?_cons_zero, List.getElem?_cons_succ, List.cons_append, List.nil_append, List.append_nil, Option.some.injEq, V.int.injEq, V.ref.injEq, V.bl.injEq, V.str.injEq, V.ty.injEq, Bool.not_true, Bool.not_false, HO.lst.injEq, HO.tup.injEq, reduceCtorEq, Int.reduceToNat, Int.reduceLT, Int.reduceLE, Nat.reduceAdd, Int.cast_ofNat_Int, gi_c0, gi_c1, gi_c2, gi_c3, Int.natCast_inj, map_int_inj, map_nil_iff, List.cons.injEq, exists_eq_left, exists_eq_left', exists_eq, exists_eq', exists_and_left, exists_and_right, exists_const, and_assoc, and_true, true_and, and_false, false_and, or_false, false_or, or_true, true_or, ite_true, ite_false, if_true, if_false, Bool.false_eq_true, own_cons, own_nil, le1, le2, le3, le4, me_cons, me_nil, List.length_map, List.length_cons, List.length_nil, ne_eq, not_false_eq_true, not_true_eq_false, decide_eq_true_eq, scal_int]
    rw [pal (a + 1) (b + 1)]
    refine iteC (fun c => absurd c (by simp)) fun _ => ?_
    refine bc a (b + 1) (by omega) (by omega) (by omega) (by omega) a3 (by omega) fun H7 s7 => ?_
    have key := cs a b r3
    have fin : ∀ H', Same H7 H' → Q (V.bl true) H' := fun H' s8 => q H' (((x1.trans x2).trans x3).trans (Exc.same ((((s4.trans s5).trans s6).trans s7).trans s8))) (D3.same ((((s4.trans s5).trans s6).trans s7).trans s8))
    refine iteC (fun c => ?_) (fun c => ?_)
    · refine bc (a + 1) b (by omega) (by omega) (by omega) (by omega) (by omega) (by omega) fun H8 s8 => ?_
      simp only [ap_seq, ap_next, ap_asg, ap_gName, ap_ret, ap_retN, ap_drop, ap_ifS, ap_break, ap_cont, ap_par, ap_aug, ap_ip, ap_gSub, ap_gTup, ap_gNil, ap_gCons, ap_var, ap_c, ap_op, ap_un, ap_if, ap_test, ap_B, ap_and, ap_or, ap_not, ap_andV, ap_orV, ap_notV, ap_nil, ap_cons, ap_tup, ap_lst, ap_cb, ap_bm, ap_call, ap_chain, ap_rI, ap_rI0, ap_rU, ap_rEq, ap_rNe, ap_revT, ap_sl, ap_part, ap_noPart, ap_ixLI, ap_ixTI, ap_ixLV, ap_ixTV, ap_len, ap_setLI, ap_setLV, ap_appI, ap_appV, ap_tupL, ap_listS, ap_sumLI, ap_sumTI, ap_repLI, ap_intI, ap_intB, ap_eqTI, ap_neTI, ap_eqLI, ap_neLI, ap_isi, ap_for, ap_rng1, ap_rng2, ap_iList, ap_iTup, ap_lc, ap_yes, ap_cut, ap_gTupH, ap_fmt, ap_jsn, ap_jsc, ap_gcd, ap_isqrt, ap_ixL, tyV_l, wipe_nil, wipe_cons, upd_same, ap_shl, ap_shr, ap_mask, ap_comb, ap_bits, ap_rng3, List.set_cons_zero, List.set_cons_succ, List.getElem?_cons_zero, List.getElem?_cons_succ, List.cons_append, List.nil_append, List.append_nil, Option.some.injEq, V.int.injEq, V.ref.injEq, V.bl.injEq, V.str.injEq, V.ty.injEq, Bool.not_true, Bool.not_false, HO.lst.injEq, HO.tup.injEq, reduceCtorEq, Int.reduceToNat, Int.reduceLT, Int.reduceLE, Nat.reduceAdd, Int.cast_ofNat_Int, gi_c0, gi_c1, gi_c2, gi_c3, Int.natCast_inj, map_int_inj, map_nil_iff, List.cons.injEq, exists_eq_left, exists_eq_left', exists_eq, exists_eq', exists_and_left, exists_and_right, exists_const, and_assoc, and_true, true_and, and_false, false_and, or_false, false_or, or_true, true_or, ite_true, ite_false, if_true, if_false, Bool.false_eq_true, own_cons, own_nil, le1, le2, le3, le4, me_cons, me_nil, List.length_map, List.length_cons, List.length_nil, ne_eq, not_false_eq_true, not_true_eq_false, decide_eq_true_eq, scal_int]
      have q1 : r3 - (1 + (a : Int)) = r3 - (a + 1) := by omega
      rw [q1, ← key, decide_eq_true rfl]
      exact fin H8 s8
    · simp only [ap_seq, ap_next, ap_asg, ap_gName, ap_ret, ap_retN, ap_drop, ap_ifS, ap_break, ap_cont, ap_par, ap_aug, ap_ip, ap_gSub, ap_gTup, ap_gNil, ap_gCons, ap_var, ap_c, ap_op, ap_un, ap_if, ap_test, ap_B, ap_and, ap_or, ap_not, ap_andV, ap_orV, ap_notV, ap_nil, ap_cons, ap_tup, ap_lst, ap_cb, ap_bm, ap_call, ap_chain, ap_rI, ap_rI0, ap_rU, ap_rEq, ap_rNe, ap_revT, ap_sl, ap_part, ap_noPart, ap_ixLI, ap_ixTI, ap_ixLV, ap_ixTV, ap_len, ap_setLI, ap_setLV, ap_appI, ap_appV, ap_tupL, ap_listS, ap_sumLI, ap_sumTI, ap_repLI, ap_intI, ap_intB, ap_eqTI, ap_neTI, ap_eqLI, ap_neLI, ap_isi, ap_for, ap_rng1, ap_rng2, ap_iList, ap_iTup, ap_lc, ap_yes, ap_cut, ap_gTupH, ap_fmt, ap_jsn, ap_jsc, ap_gcd, ap_isqrt, ap_ixL, tyV_l, wipe_nil, wipe_cons, upd_same, ap_shl, ap_shr, ap_mask, ap_comb, ap_bits, ap_rng3, List.set_cons_zero, List.set_cons_succ, List.getElem?_cons_zero, List.getElem?_cons_succ, List.cons_append, List.nil_append, List.append_nil, Option.some.injEq, V.int.injEq, V.ref.injEq, V.bl.injEq, V.str.injEq, V.ty.injEq, Bool.not_true, Bool.not_false, HO.lst.injEq, HO.tup.injEq, reduceCtorEq, Int.reduceToNat, Int.reduceLT, Int.reduceLE, Nat.reduceAdd, Int.cast_ofNat_Int, gi_c0, gi_c1, gi_c2, gi_c3, Int.natCast_inj, map_int_inj, map_nil_iff, List.cons.injEq, exists_eq_left, exists_eq_left', exists_eq, exists_eq', exists_and_left, exists_and_right, exists_const, and_assoc, and_true, true_and, and_false, false_and, or_false, false_or, or_true, true_or, ite_true, ite_false, if_true, if_false, Bool.false_eq_true, own_cons, own_nil, le1, le2, le3, le4, me_cons, me_nil, List.length_map, List.length_cons, List.length_nil, ne_eq, not_false_eq_true, not_true_eq_false, decide_eq_true_eq, scal_int]
      have z := neg (a + 1) b (r3 - (a + 1)) (by omega)
      rw [z] at key
      rw [← key, decide_eq_true rfl]
      exact fin H7 (Same.refl H7)
def sp_law_right : Sp := fun vs H Q _ => ∃ (d : Addr), vs = [.ref d] ∧ Dc H d ∧ ∀ H', Exc d H H' → Dc H' d → Q (.bl true) H'
theorem ok_law_right (T : Tx K mg) : FnOk P w K mg base CX0 5 T.f_law_right T.d_law_right p_law_right sp_law_right := by
  refine T.F_law_right.ok sc_law_right (fun vs H Q E h => ?_) (fun cdv A outer s H vs Q E hr h => ?_)
  · obtain ⟨d, rfl, _⟩ := h
    rfl
  · obtain ⟨d, rfl, hD, q⟩ := h
    refine ⟨_, (pss_cons (ps_par (i := 1) (j := 2) (by rfl) sc_law_right.nd rfl rfl (by decide) rfl rfl (pa_cons (pe_call (ok_law_pick T) (hr.mono (by decide)) (by rfl) T.m_law_pick T.F_law_pick.kp T.b_law_pick .nil pass0 (pa_cons (pv 0) (pa_cons (pe_lst (pa_cons (pe_call (ok_law_roll T) (hr.mono (by decide)) (by rfl) T.m_law_roll T.F_law_roll.kp T.b_law_roll .nil pass0 (pa_cons (pv 0) (pa_cons pe_int pa_nil))) (pa_cons (pe_call (ok_law_roll T) (hr.mono (by decide)) (by rfl) T.m_law_roll T.F_law_roll.kp T.b_law_roll .nil pass0 (pa_cons (pv 0) (pa_cons pe_int pa_nil))) pa_nil))) pa_nil))) (pa_cons (pe_call (ok_law_pick T) (hr.mono (by decide)) (by rfl) T.m_law_pick T.F_law_pick.kp T.b_law_pick .nil pass0 (pa_cons (pv 0) (pa_cons (pe_lst (pa_cons (pe_call (ok_law_roll T) (hr.mono (by decide)) (by rfl) T.m_law_roll T.F_law_roll.kp T.b_law_roll .nil pass0 (pa_cons (pv 0) (pa_cons pe_int pa_nil))) (pa_cons (pe_call (ok_law_roll T) (hr.mono (by decide)) (by rfl) T.m_law_roll T.F_law_roll.kp T.b_law_roll .nil pass0 (pa_cons (pv 0) (pa_cons pe_int pa_nil))) pa_nil))) pa_nil))) pa_nil)) (by rfl))
      (pss_cons (ps_par (i := 3) (j := 4) (by rfl) sc_law_right.nd rfl rfl (by decide) rfl rfl (pa_cons (pe_call (ok_law_rows_of T) (hr.mono (by decide)) (by rfl) T.m_law_rows_of T.F_law_rows_of.kp T.b_law_rows_of .nil pass0 (pa_cons (pv 1) (pa_cons (pv 2) pa_nil))) (pa_cons (pe_call (ok_box_row T) (hr.mono (by decide)) (by rfl) T.m_box_row T.F_box_row.kp T.b_box_row .nil pass0 (pa_cons (pv 1) (pa_cons (pv 2) pa_nil))) pa_nil)) (by rfl))
      (pss_cons (ps_if (PW.pt (pw_or (pt_cmpR (op_neTI hr.units) (pv 4) (pv 3) (nomark _)) (pw_or (pt_cmpR (op_neTI hr.units) (pe_call (ok_box_row T) (hr.mono (by decide)) (by rfl) T.m_box_row T.F_box_row.kp T.b_box_row .nil pass0 (pa_cons (pv 2) (pa_cons (pv 1) pa_nil))) (pv 3) (nomark _)) (pw_or (pt_cmpR (op_neTI hr.units) (pe_revT (pv 4)) (pv 3) (nomark _)) (pw_or1 (pt_cmpR op_ne (pe_callB (cr_sumTI rfl) (by rfl) T.z_sum (by decide +kernel) (pa_cons (pv 4) pa_nil)) (pe_call (ok_law_choose T) (hr.mono (by decide)) (by rfl) T.m_law_choose T.F_law_choose.kp T.b_law_choose .nil pass0 (pa_cons (pe_op op_add (pv 1) (pv 2)) (pa_cons (pv 1) pa_nil))) (nomark _))))))) (pss_one (ps_ret pe_bl)) pss_nil)
      (pss_cons (ps_for PassesOwn.never rfl (pi_list (pe_lst (pa_cons pe_int (pa_cons (pe_op op_mul (pv 1) (pv 2)) (pa_cons (pe_call (ok_law_roll T) (hr.mono (by decide)) (by rfl) T.m_law_roll T.F_law_roll.kp T.b_law_roll .nil pass0 (pa_cons (pv 0) (pa_cons (pe_op op_add (pe_op op_mul (pv 1) (pv 2)) pe_int) pa_nil))) (pa_cons (pe_op op_add (pe_op op_mul (pv 1) (pv 2)) pe_int) (pa_cons pe_int pa_nil))))))) (pg_name (i := 5) sc_law_right.nd rfl (by first | exact .inl rfl | exact .inr rfl))
      (pss_one (ps_if (pt_cmpR op_ne (pe_call (ok_box_count T) (hr.mono (by decide)) (by rfl) T.m_box_count T.F_box_count.kp T.b_box_count .nil pass0 (pa_cons (pv 5) (pa_cons (pv 1) (pa_cons (pv 2) pa_nil)))) (pe_ifExp (pt_cmpR op_le (pv 5) (pe_op op_mul (pv 1) (pv 2)) (nomark _)) (pe_ix ix_TI (pv 3) (pv 5) (fun _ _ => rfl)) pe_int) (nomark _)) (pss_one (ps_ret pe_bl)) pss_nil)))
      (pss_cons (ps_if (PW.pt (pw_and (pt_cmpR op_gt (pv 1) pe_int (nomark _)) (pw_and1 (pt_cmpR op_gt (pv 2) pe_int (nomark _))))) (pss_cons (ps_set (i := 5) sc_law_right.nd rfl (Or.inl rfl) (pe_call (ok_law_roll T) (hr.mono (by decide)) (by rfl) T.m_law_roll T.F_law_roll.kp T.b_law_roll .nil pass0 (pa_cons (pv 0) (pa_cons (pe_op op_add (pe_op op_mul (pv 1) (pv 2)) pe_int) pa_nil))))
      (pss_cons (ps_set (i := 6) sc_law_right.nd rfl (Or.inl rfl) (pe_call (ok_box_count T) (hr.mono (by decide)) (by rfl) T.m_box_count T.F_box_count.kp T.b_box_count .nil pass0 (pa_cons (pv 5) (pa_cons (pe_op op_sub (pv 1) pe_int) (pa_cons (pv 2) pa_nil)))))
      (pss_one (ps_if (pt_cmpR op_ne (pe_call (ok_box_count T) (hr.mono (by decide)) (by rfl) T.m_box_count T.F_box_count.kp T.b_box_count .nil pass0 (pa_cons (pv 5) (pa_cons (pv 1) (pa_cons (pv 2) pa_nil)))) (pe_op op_add (pv 6) (pe_ifExp (pt_cmpR op_ge (pv 5) (pv 1) (nomark _)) (pe_call (ok_box_count T) (hr.mono (by decide)) (by rfl) T.m_box_count T.F_box_count.kp T.b_box_count .nil pass0 (pa_cons (pe_op op_sub (pv 5) (pv 1)) (pa_cons (pv 1) (pa_cons (pe_op op_sub (pv 2) pe_int) pa_nil)))) pe_int)) (nomark _)) (pss_one (ps_ret pe_bl)) pss_nil)))) pss_nil)
      (pss_cons (ps_for PassesOwn.never rfl (pi_range2 (by rfl) T.z_range (pa_cons pe_int (pa_cons (pe_op op_add (pe_op op_fdiv (pe_op op_mul (pv 1) (pv 2)) pe_int) pe_int) pa_nil))) (pg_name (i := 5) sc_law_right.nd rfl (by first | exact .inl rfl | exact .inr rfl))
      (pss_one (ps_if (pt_cmpR op_gt (pe_ix ix_TI (pv 4) (pe_op op_sub (pv 5) pe_int) (fun _ _ => rfl)) (pe_ix ix_TI (pv 4) (pv 5) (fun _ _ => rfl)) (nomark _)) (pss_one (ps_ret pe_bl)) pss_nil)))
      (pss_one (ps_ret pe_bl)))))))), ?_⟩
    rw [st_law_right]
    simp only [ap_seq, ap_next, ap_asg, ap_gName, ap_ret, ap_retN, ap_drop, ap_ifS, ap_break, ap_cont, ap_par, ap_aug, ap_ip, ap_gSub, ap_gTup, ap_gNil, ap_gCons, ap_var, ap_c, ap_op, ap_un, ap_if, ap_test, ap_B, ap_and, ap_or, ap_not, ap_andV, ap_orV, ap_notV, ap_nil, ap_cons, ap_tup, ap_lst, ap_cb, ap_bm, ap_call, ap_chain, ap_rI, ap_rI0, ap_rU, ap_rEq, ap_rNe, ap_revT, ap_sl, ap_part, ap_noPart, ap_ixLI, ap_ixTI, ap_ixLV, ap_ixTV, ap_len, ap_setLI, ap_setLV, ap_appI, ap_appV, ap_tupL, ap_listS, ap_sumLI, ap_sumTI, ap_repLI, ap_intI, ap_intB, ap_eqTI, ap_neTI, ap_eqLI, ap_neLI, ap_isi, ap_for, ap_rng1, ap_rng2, ap_iList, ap_iTup, ap_lc, ap_yes, ap_cut, ap_gTupH, ap_fmt, ap_jsn, ap_jsc, ap_gcd, ap_isqrt, ap_ixL, tyV_l, wipe_nil, wipe_cons, upd_same, ap_shl, ap_shr, ap_mask, ap_comb, ap_bits, ap_rng3, List.set_cons_zero, List.set_cons_succ, List.getElem?_cons_zero, List.getElem?_cons_succ, List.cons_append, List.nil_append, List.append_nil, Option.some.injEq, V.int.injEq, V.ref.injEq, V.bl.injEq, V.str.injEq, V.ty.injEq, Bool.not_true, Bool.not_false, HO.lst.injEq, HO.tup.injEq, reduceCtorEq, Int.reduceToNat, Int.reduceLT, Int.reduceLE, Nat.reduceAdd, Int.cast_ofNat_Int, gi_c0, gi_c1, gi_c2, gi_c3, Int.natCast_inj, map_int_inj, map_nil_iff, List.cons.injEq, exists_eq_left, exists_eq_left', exists_eq, exists_eq', exists_and_left, exists_and_right, exists_const, and_assoc, and_true, true_and, and_false, false_and, or_false, false_or, or_true, true_or, ite_true, ite_false, if_true, if_false, Bool.false_eq_true, own_cons, own_nil, le1, le2, le3, le4, me_cons, me_nil, List.length_map, List.length_cons, List.length_nil, ne_eq, not_false_eq_true, not_true_eq_false, decide_eq_true_eq, sp_law_roll, scal_int]
    refine ⟨hD, fun H1 r1 x1 D1 a1 b1 => ⟨D1, fun H2 r2 x2 D2 a2 b2 => ⟨by decide, fun p np => ?_⟩⟩⟩
    have ndp : d ≠ p := by
      obtain ⟨_, _, _, h⟩ := D2
      exact ne_of_none h np
    refine ⟨d, p, [r1, r2], rfl, D2.same (same_upd np), upd_same, ndp.symm, by simp, by simp, fun H3 i3 x3 D3 hi3 => ?_⟩
    obtain ⟨a, ea, ha⟩ := pick2 a1 (by omega) a2 b2 hi3
    rw [ea]
    refine ⟨D3, fun H4 r4 x4 D4 a4 b4 => ⟨D4, fun H5 r5 x5 D5 a5 b5 => ⟨by decide, fun p6 np6 => ?_⟩⟩⟩
    have ndp6 : d ≠ p6 := by
      obtain ⟨_, _, _, h⟩ := D5
      exact ne_of_none h np6
    refine ⟨d, p6, [r4, r5], rfl, D5.same (same_upd np6), upd_same, ndp6.symm, by simp, by simp, fun H7 i7 x7 D7 hi7 => ?_⟩
    obtain ⟨b, eb, hb⟩ := pick2 a4 (by omega) a5 b5 hi7
    rw [eb]
    have X7 : Exc d H H7 := ((((((x1.trans x2).trans (Exc.same (same_upd np))).trans x3).trans x4).trans x5).trans (Exc.same (same_upd np6))).trans x7
    clear x1 x2 x3 x4 x5 x7 D1 D2 D3 D4 D5 hi3 hi7 ea eb np np6
    have hab : a * b ≤ 144 := Nat.mul_le_mul (by omega : a ≤ 12) (by omega : b ≤ 12)
    have eab : (a : Int) * (b : Int) = ((a * b : Nat) : Int) := by rw [Int.natCast_mul]
    refine ⟨a, b, rfl, by omega, by omega, fun H8 due s8 n8 e8 => ?_⟩
    refine brow a b rfl rfl (by omega) (by omega) fun H9 told s9 n9 e9 => ?_
    have e89 := s9 _ _ e8
    simp only [ap_seq, ap_next, ap_asg, ap_gName, ap_ret, ap_retN, ap_drop, ap_ifS, ap_break, ap_cont, ap_par, ap_aug, ap_ip, ap_gSub, ap_gTup, ap_gNil, ap_gCons, ap_var, ap_c, ap_op, ap_un, ap_if, ap_test, ap_B, ap_and, ap_or, ap_not, ap_andV, ap_orV, ap_notV, ap_nil, ap_cons, ap_tup, ap_lst, ap_cb, ap_bm, ap_call, ap_chain, ap_rI, ap_rI0, ap_rU, ap_rEq, ap_rNe, ap_revT, ap_sl, ap_part, ap_noPart, ap_ixLI, ap_ixTI, ap_ixLV, ap_ixTV, ap_len, ap_setLI, ap_setLV, ap_appI, ap_appV, ap_tupL, ap_listS, ap_sumLI, ap_sumTI, ap_repLI, ap_intI, ap_intB, ap_eqTI, ap_neTI, ap_eqLI, ap_neLI, ap_isi, ap_for, ap_rng1, ap_rng2, ap_iList, ap_iTup, ap_lc, ap_yes, ap_cut, ap_gTupH, ap_fmt, ap_jsn, ap_jsc, ap_gcd, ap_isqrt, ap_ixL, tyV_l, wipe_nil, wipe_cons, upd_same, ap_shl, ap_shr, ap_mask, ap_comb, ap_bits, ap_rng3, List.set_cons_zero, List.set_cons_succ, List.getElem?_cons_zero, List.getElem?_cons_succ, List.cons_append, List.nil_append, List.append_nil, Option.some.injEq, V.int.injEq, V.ref.injEq, V.bl.injEq, V.str.injEq, V.ty.injEq, Bool.not_true, Bool.not_false, HO.lst.injEq, HO.tup.injEq, reduceCtorEq, Int.reduceToNat, Int.reduceLT, Int.reduceLE, Nat.reduceAdd, Int.cast_ofNat_Int, gi_c0, gi_c1, gi_c2, gi_c3, Int.natCast_inj, map_int_inj, map_nil_iff, List.cons.injEq, exists_eq_left, exists_eq_left', exists_eq, exists_eq', exists_and_left, exists_and_right, exists_const, and_assoc, and_true, true_and, and_false, false_and, or_false, false_or, or_true, true_or, ite_true, ite_false, if_true, if_false, Bool.false_eq_true, own_cons, own_nil, le1, le2, le3, le4, me_cons, me_nil, List.length_map, List.length_cons, List.length_nil, ne_eq, not_false_eq_true, not_true_eq_false, decide_eq_true_eq, e9, e89]
    refine iteC (fun c => absurd c (by simp)) fun _ => ?_
    refine brow b a rfl rfl (by omega) (by omega) fun H10 t10 s10 n10 e10 => ?_
    rw [crow_swap a b] at e10
    have e8a := s10 _ _ e89
    have e9a := s10 _ _ e9
    simp only [ap_seq, ap_next, ap_asg, ap_gName, ap_ret, ap_retN, ap_drop, ap_ifS, ap_break, ap_cont, ap_par, ap_aug, ap_ip, ap_gSub, ap_gTup, ap_gNil, ap_gCons, ap_var, ap_c, ap_op, ap_un, ap_if, ap_test, ap_B, ap_and, ap_or, ap_not, ap_andV, ap_orV, ap_notV, ap_nil, ap_cons, ap_tup, ap_lst, ap_cb, ap_bm, ap_call, ap_chain, ap_rI, ap_rI0, ap_rU, ap_rEq, ap_rNe, ap_revT, ap_sl, ap_part, ap_noPart, ap_ixLI, ap_ixTI, ap_ixLV, ap_ixTV, ap_len, ap_setLI, ap_setLV, ap_appI, ap_appV, ap_tupL, ap_listS, ap_sumLI, ap_sumTI, ap_repLI, ap_intI, ap_intB, ap_eqTI, ap_neTI, ap_eqLI, ap_neLI, ap_isi, ap_for, ap_rng1, ap_rng2, ap_iList, ap_iTup, ap_lc, ap_yes, ap_cut, ap_gTupH, ap_fmt, ap_jsn, ap_jsc, ap_gcd, ap_isqrt, ap_ixL, tyV_l, wipe_nil, wipe_cons, upd_same, ap_shl, ap_shr, ap_mask, ap_comb, ap_bits, ap_rng3, List.set_cons_zero, List.set_cons_succ, List.getElem?_cons_zero, List.getElem?_cons_succ, List.cons_append, List.nil_append, List.append_nil, Option.some.injEq, V.int.injEq, V.ref.injEq, V.bl.injEq, V.str.injEq, V.ty.injEq, Bool.not_true, Bool.not_false, HO.lst.injEq, HO.tup.injEq, reduceCtorEq, Int.reduceToNat, Int.reduceLT, Int.reduceLE, Nat.reduceAdd, Int.cast_ofNat_Int, gi_c0, gi_c1, gi_c2, gi_c3, Int.natCast_inj, map_int_inj, map_nil_iff, List.cons.injEq, exists_eq_left, exists_eq_left', exists_eq, exists_eq', exists_and_left, exists_and_right, exists_const, and_assoc, and_true, true_and, and_false, false_and, or_false, false_or, or_true, true_or, ite_true, ite_false, if_true, if_false, Bool.false_eq_true, own_cons, own_nil, le1, le2, le3, le4, me_cons, me_nil, List.length_map, List.length_cons, List.length_nil, ne_eq, not_false_eq_true, not_true_eq_false, decide_eq_true_eq, e10, e8a]
    refine iteC (fun c => absurd c (by simp)) fun _ => ?_
    simp only [ap_seq, ap_next, ap_asg, ap_gName, ap_ret, ap_retN, ap_drop, ap_ifS, ap_break, ap_cont, ap_par, ap_aug, ap_ip, ap_gSub, ap_gTup, ap_gNil, ap_gCons, ap_var, ap_c, ap_op, ap_un, ap_if, ap_test, ap_B, ap_and, ap_or, ap_not, ap_andV, ap_orV, ap_notV, ap_nil, ap_cons, ap_tup, ap_lst, ap_cb, ap_bm, ap_call, ap_chain, ap_rI, ap_rI0, ap_rU, ap_rEq, ap_rNe, ap_revT, ap_sl, ap_part, ap_noPart, ap_ixLI, ap_ixTI, ap_ixLV, ap_ixTV, ap_len, ap_setLI, ap_setLV, ap_appI, ap_appV, ap_tupL, ap_listS, ap_sumLI, ap_sumTI, ap_repLI, ap_intI, ap_intB, ap_eqTI, ap_neTI, ap_eqLI, ap_neLI, ap_isi, ap_for, ap_rng1, ap_rng2, ap_iList, ap_iTup, ap_lc, ap_yes, ap_cut, ap_gTupH, ap_fmt, ap_jsn, ap_jsc, ap_gcd, ap_isqrt, ap_ixL, tyV_l, wipe_nil, wipe_cons, upd_same, ap_shl, ap_shr, ap_mask, ap_comb, ap_bits, ap_rng3, List.set_cons_zero, List.set_cons_succ, List.getElem?_cons_zero, List.getElem?_cons_succ, List.cons_append, List.nil_append, List.append_nil, Option.some.injEq, V.int.injEq, V.ref.injEq, V.bl.injEq, V.str.injEq, V.ty.injEq, Bool.not_true, Bool.not_false, HO.lst.injEq, HO.tup.injEq, reduceCtorEq, Int.reduceToNat, Int.reduceLT, Int.reduceLE, Nat.reduceAdd, Int.cast_ofNat_Int, gi_c0, gi_c1, gi_c2, gi_c3, Int.natCast_inj, map_int_inj, map_nil_iff, List.cons.injEq, exists_eq_left, exists_eq_left', exists_eq, exists_eq', exists_and_left, exists_and_right, exists_const, and_assoc, and_true, true_and, and_false, false_and, or_false, false_or, or_true, true_or, ite_true, ite_false, if_true, if_false, Bool.false_eq_true, own_cons, own_nil, le1, le2, le3, le4, me_cons, me_nil, List.length_map, List.length_cons, List.length_nil, ne_eq, not_false_eq_true, not_true_eq_false, decide_eq_true_eq, e9a]
    intro t11 n11
    have nd11 : due ≠ t11 := ne_of_none e8a n11
    have nt11 : told ≠ t11 := ne_of_none e9a n11
    have er : HO.tup ((crow a b).map V.int).reverse = TI (crow a b) := by
      rw [← List.map_reverse, crow_rev]
    rw [er]
    have e8b : (upd H10 t11 (TI (crow a b))) due = some (TI (crow a b)) := by
      rw [upd_ne nd11]
      exact e8a
    have e9b : (upd H10 t11 (TI (crow a b))) told = some (TI (crow a b)) := by
      rw [upd_ne nt11]
      exact e9a
    simp only [ap_seq, ap_next, ap_asg, ap_gName, ap_ret, ap_retN, ap_drop, ap_ifS, ap_break, ap_cont, ap_par, ap_aug, ap_ip, ap_gSub, ap_gTup, ap_gNil, ap_gCons, ap_var, ap_c, ap_op, ap_un, ap_if, ap_test, ap_B, ap_and, ap_or, ap_not, ap_andV, ap_orV, ap_notV, ap_nil, ap_cons, ap_tup, ap_lst, ap_cb, ap_bm, ap_call, ap_chain, ap_rI, ap_rI0, ap_rU, ap_rEq, ap_rNe, ap_revT, ap_sl, ap_part, ap_noPart, ap_ixLI, ap_ixTI, ap_ixLV, ap_ixTV, ap_len, ap_setLI, ap_setLV, ap_appI, ap_appV, ap_tupL, ap_listS, ap_sumLI, ap_sumTI, ap_repLI, ap_intI, ap_intB, ap_eqTI, ap_neTI, ap_eqLI, ap_neLI, ap_isi, ap_for, ap_rng1, ap_rng2, ap_iList, ap_iTup, ap_lc, ap_yes, ap_cut, ap_gTupH, ap_fmt, ap_jsn, ap_jsc, ap_gcd, ap_isqrt, ap_ixL, tyV_l, wipe_nil, wipe_cons, upd_same, ap_shl, ap_shr, ap_mask, ap_comb, ap_bits, ap_rng3, List.set_cons_zero, List.set_cons_succ, List.getElem?_cons_zero, List.getElem?_cons_succ, List.cons_append, List.nil_append, List.append_nil, Option.some.injEq, V.int.injEq, V.ref.injEq, V.bl.injEq, V.str.injEq, V.ty.injEq, Bool.not_true, Bool.not_false, HO.lst.injEq, HO.tup.injEq, reduceCtorEq, Int.reduceToNat, Int.reduceLT, Int.reduceLE, Nat.reduceAdd, Int.cast_ofNat_Int, gi_c0, gi_c1, gi_c2, gi_c3, Int.natCast_inj, map_int_inj, map_nil_iff, List.cons.injEq, exists_eq_left, exists_eq_left', exists_eq, exists_eq', exists_and_left, exists_and_right, exists_const, and_assoc, and_true, true_and, and_false, false_and, or_false, false_or, or_true, true_or, ite_true, ite_false, if_true, if_false, Bool.false_eq_true, own_cons, own_nil, le1, le2, le3, le4, me_cons, me_nil, List.length_map, List.length_cons, List.length_nil, ne_eq, not_false_eq_true, not_true_eq_false, decide_eq_true_eq, e8b]
    refine ⟨crow a b, by rw [← List.map_reverse, crow_rev], ?_⟩
    refine iteC (fun c => absurd c (by simp)) fun _ => ?_
    simp only [ap_seq, ap_next, ap_asg, ap_gName, ap_ret, ap_retN, ap_drop, ap_ifS, ap_break, ap_cont, ap_par, ap_aug, ap_ip, ap_gSub, ap_gTup, ap_gNil, ap_gCons, ap_var, ap_c, ap_op, ap_un, ap_if, ap_test, ap_B, ap_and, ap_or, ap_not, ap_andV, ap_orV, ap_notV, ap_nil, ap_cons, ap_tup, ap_lst, ap_cb, ap_bm, ap_call, ap_chain, ap_rI, ap_rI0, ap_rU, ap_rEq, ap_rNe, ap_revT, ap_sl, ap_part, ap_noPart, ap_ixLI, ap_ixTI, ap_ixLV, ap_ixTV, ap_len, ap_setLI, ap_setLV, ap_appI, ap_appV, ap_tupL, ap_listS, ap_sumLI, ap_sumTI, ap_repLI, ap_intI, ap_intB, ap_eqTI, ap_neTI, ap_eqLI, ap_neLI, ap_isi, ap_for, ap_rng1, ap_rng2, ap_iList, ap_iTup, ap_lc, ap_yes, ap_cut, ap_gTupH, ap_fmt, ap_jsn, ap_jsc, ap_gcd, ap_isqrt, ap_ixL, tyV_l, wipe_nil, wipe_cons, upd_same, ap_shl, ap_shr, ap_mask, ap_comb, ap_bits, ap_rng3, List.set_cons_zero, List.set_cons_succ, List.getElem?_cons_zero, List.getElem?_cons_succ, List.cons_append, List.nil_append, List.append_nil, Option.some.injEq, V.int.injEq, V.ref.injEq, V.bl.injEq, V.str.injEq, V.ty.injEq, Bool.not_true, Bool.not_false, HO.lst.injEq, HO.tup.injEq, reduceCtorEq, Int.reduceToNat, Int.reduceLT, Int.reduceLE, Nat.reduceAdd, Int.cast_ofNat_Int, gi_c0, gi_c1, gi_c2, gi_c3, Int.natCast_inj, map_int_inj, map_nil_iff, List.cons.injEq, exists_eq_left, exists_eq_left', exists_eq, exists_eq', exists_and_left, exists_and_right, exists_const, and_assoc, and_true, true_and, and_false, false_and, or_false, false_or, or_true, true_or, ite_true, ite_false, if_true, if_false, Bool.false_eq_true, own_cons, own_nil, le1, le2, le3, le4, me_cons, me_nil, List.length_map, List.length_cons, List.length_nil, ne_eq, not_false_eq_true, not_true_eq_false, decide_eq_true_eq, e9b, sp_law_choose]
    refine ⟨a, b, by omega, rfl, by omega, by omega, ?_⟩
    rw [crow_sum]
    simp only [ap_seq, ap_next, ap_asg, ap_gName, ap_ret, ap_retN, ap_drop, ap_ifS, ap_break, ap_cont, ap_par, ap_aug, ap_ip, ap_gSub, ap_gTup, ap_gNil, ap_gCons, ap_var, ap_c, ap_op, ap_un, ap_if, ap_test, ap_B, ap_and, ap_or, ap_not, ap_andV, ap_orV, ap_notV, ap_nil, ap_cons, ap_tup, ap_lst, ap_cb, ap_bm, ap_call, ap_chain, ap_rI, ap_rI0, ap_rU, ap_rEq, ap_rNe, ap_revT, ap_sl, ap_part, ap_noPart, ap_ixLI, ap_ixTI, ap_ixLV, ap_ixTV, ap_len, ap_setLI, ap_setLV, ap_appI, ap_appV, ap_tupL, ap_listS, ap_sumLI, ap_sumTI, ap_repLI, ap_intI, ap_intB, ap_eqTI, ap_neTI, ap_eqLI, ap_neLI, ap_isi, ap_for, ap_rng1, ap_rng2, ap_iList, ap_iTup, ap_lc, ap_yes, ap_cut, ap_gTupH, ap_fmt, ap_jsn, ap_jsc, ap_gcd, ap_isqrt, ap_ixL, tyV_l, wipe_nil, wipe_cons, upd_same, ap_shl, ap_shr, ap_mask, ap_comb, ap_bits, ap_rng3, List.set_cons_zero, List.set_cons_succ, List.getElem?_cons_zero, List.getElem?_cons_succ, List.cons_append, List.nil_append, List.append_nil, Option.some.injEq, V.int.injEq, V.ref.injEq, V.bl.injEq, V.str.injEq, V.ty.injEq, Bool.not_true, Bool.not_false, HO.lst.injEq, HO.tup.injEq, reduceCtorEq, Int.reduceToNat, Int.reduceLT, Int.reduceLE, Nat.reduceAdd, Int.cast_ofNat_Int, gi_c0, gi_c1, gi_c2, gi_c3, Int.natCast_inj, map_int_inj, map_nil_iff, List.cons.injEq, exists_eq_left, exists_eq_left', exists_eq, exists_eq', exists_and_left, exists_and_right, exists_const, and_assoc, and_true, true_and, and_false, false_and, or_false, false_or, or_true, true_or, ite_true, ite_false, if_true, if_false, Bool.false_eq_true, own_cons, own_nil, le1, le2, le3, le4, me_cons, me_nil, List.length_map, List.length_cons, List.length_nil, ne_eq, not_false_eq_true, not_true_eq_false, decide_eq_true_eq, scal_int]
    refine iteC (fun c => absurd c (by simp)) fun _ => ?_
    have D11 : Dc (upd H10 t11 (TI (crow a b))) d := ((((D7.same s8).same s9).same s10).same (same_upd n11))
    have X11 : Exc d H (upd H10 t11 (TI (crow a b))) := X7.trans (Exc.same (((s8.trans s9).trans s10).trans (same_upd n11)))
    have nd8 : due ≠ d := by
      obtain ⟨_, _, _, h⟩ := D7
      exact (ne_of_none h n8).symm
    have nd9 : told ≠ d := by
      obtain ⟨_, _, _, h⟩ := D7.same s8
      exact (ne_of_none h n9).symm
    generalize (upd H10 t11 (TI (crow a b))) = G at D11 X11 e8b e9b ⊢
    clear e8 e9 e89 e10 e8a e9a
    refine ⟨.inl (by omega), .inl (by omega), D11, by omega, by omega, fun G1 r1 y1 DG1 a1 b1 => ⟨.inl (by omega), by decide, fun p1 np1 => ?_⟩⟩
    have g8 := (y1 _ _ nd8 e8b)
    have g9 := (y1 _ _ nd9 e9b)
    refine ⟨⟨_, sqL_of upd_same⟩, ?_⟩
    refine loop_list (xs := [V.int 0, V.int (a * b), V.int r1, V.int (a * b + 1), V.int 1600]) (fun i σ' H' => ∃ y5 y6, σ' = [some (.ref d), some (.int a), some (.int b), some (.ref due), some (.ref told), y5, y6] ∧ Same (upd G1 p1 (.lst [V.int 0, V.int (a * b), V.int r1, V.int (a * b + 1), V.int 1600])) H')
      ⟨_, _, rfl, Same.refl _⟩ (fun i σ' H' hi hP => ?_) (fun i x σ' H' hx hP => ?_) (fun σ' H' hP => ?_)
    · obtain ⟨y5, y6, e, sm⟩ := hP
      exact sqL_of (sm _ _ upd_same)
    · obtain ⟨y5, y6, e, sm⟩ := hP
      subst e
      have hx' : ∃ n : Int, x = .int n ∧ 0 ≤ n ∧ n ≤ 1600 := by
        have := List.mem_of_getElem? hx
        simp only [List.mem_cons, List.not_mem_nil, or_false] at this
        rcases this with h | h | h | h | h
        · exact ⟨_, h, by omega, by omega⟩
        · exact ⟨_, h, by omega, by omega⟩
        · exact ⟨_, h, by omega, by omega⟩
        · exact ⟨_, h, by omega, by omega⟩
        · exact ⟨_, h, by omega, by omega⟩
      obtain ⟨n, rfl, n0, n1⟩ := hx'
      simp only [ap_seq, ap_next, ap_asg, ap_gName, ap_ret, ap_retN, ap_drop, ap_ifS, ap_break, ap_cont, ap_par, ap_aug, ap_ip, ap_gSub, ap_gTup, ap_gNil, ap_gCons, ap_var, ap_c, ap_op, ap_un, ap_if, ap_test, ap_B, ap_and, ap_or, ap_not, ap_andV, ap_orV, ap_notV, ap_nil, ap_cons, ap_tup, ap_lst, ap_cb, ap_bm, ap_call, ap_chain, ap_rI, ap_rI0, ap_rU, ap_rEq, ap_rNe, ap_revT, ap_sl, ap_part, ap_noPart, ap_ixLI, ap_ixTI, ap_ixLV, ap_ixTV, ap_len, ap_setLI, ap_setLV, ap_appI, ap_appV, ap_tupL, ap_listS, ap_sumLI, ap_sumTI, ap_repLI, ap_intI, ap_intB, ap_eqTI, ap_neTI, ap_eqLI, ap_neLI, ap_isi, ap_for, ap_rng1, ap_rng2, ap_iList, ap_iTup, ap_lc, ap_yes, ap_cut, ap_gTupH, ap_fmt, ap_jsn, ap_jsc, ap_gcd, ap_isqrt, ap_ixL, tyV_l, wipe_nil, wipe_cons, upd_same, ap_shl, ap_shr, ap_mask, ap_comb, ap_bits, ap_rng3, List.set_cons_zero, List.set_cons_succ, List.getElem?_cons_zero, List.getElem?_cons_succ, List.cons_append, List.nil_append, List.append_nil, Option.some.injEq, V.int.injEq, V.ref.injEq, V.bl.injEq, V.str.injEq, V.ty.injEq, Bool.not_true, Bool.not_false, HO.lst.injEq, HO.tup.injEq, reduceCtorEq, Int.reduceToNat, Int.reduceLT, Int.reduceLE, Nat.reduceAdd, Int.cast_ofNat_Int, gi_c0, gi_c1, gi_c2, gi_c3, Int.natCast_inj, map_int_inj, map_nil_iff, List.cons.injEq, exists_eq_left, exists_eq_left', exists_eq, exists_eq', exists_and_left, exists_and_right, exists_const, and_assoc, and_true, true_and, and_false, false_and, or_false, false_or, or_true, true_or, ite_true, ite_false, if_true, if_false, Bool.false_eq_true, own_cons, own_nil, le1, le2, le3, le4, me_cons, me_nil, List.length_map, List.length_cons, List.length_nil, ne_eq, not_false_eq_true, not_true_eq_false, decide_eq_true_eq]
      refine bc a b rfl rfl (by omega) (by omega) n0 n1 fun H2 s2 => ?_
      have sm2 := sm.trans s2
      have h8 := sm2 _ _ (same_upd np1 _ _ g8)
      have hl := crow_len a b
      simp only [ap_seq, ap_next, ap_asg, ap_gName, ap_ret, ap_retN, ap_drop, ap_ifS, ap_break, ap_cont, ap_par, ap_aug, ap_ip, ap_gSub, ap_gTup, ap_gNil, ap_gCons, ap_var, ap_c, ap_op, ap_un, ap_if, ap_test, ap_B, ap_and, ap_or, ap_not, ap_andV, ap_orV, ap_notV, ap_nil, ap_cons, ap_tup, ap_lst, ap_cb, ap_bm, ap_call, ap_chain, ap_rI, ap_rI0, ap_rU, ap_rEq, ap_rNe, ap_revT, ap_sl, ap_part, ap_noPart, ap_ixLI, ap_ixTI, ap_ixLV, ap_ixTV, ap_len, ap_setLI, ap_setLV, ap_appI, ap_appV, ap_tupL, ap_listS, ap_sumLI, ap_sumTI, ap_repLI, ap_intI, ap_intB, ap_eqTI, ap_neTI, ap_eqLI, ap_neLI, ap_isi, ap_for, ap_rng1, ap_rng2, ap_iList, ap_iTup, ap_lc, ap_yes, ap_cut, ap_gTupH, ap_fmt, ap_jsn, ap_jsc, ap_gcd, ap_isqrt, ap_ixL, tyV_l, wipe_nil, wipe_cons, upd_same, ap_shl, ap_shr, ap_mask, ap_comb, ap_bits, ap_rng3, List.set_cons_zero, List.set_cons_succ, List.getElem?_cons_zero, List.getElem?_cons_succ, List.cons_append, List.nil_append, List.append_nil, Option.some.injEq, V.int.injEq, V.ref.injEq, V.bl.injEq, V.str.injEq, V.ty.injEq, Bool.not_true, Bool.not_false, HO.lst.injEq, HO.tup.injEq, reduceCtorEq, Int.reduceToNat, Int.reduceLT, Int.reduceLE, Nat.reduceAdd, Int.cast_ofNat_Int, gi_c0, gi_c1, gi_c2, gi_c3, Int.natCast_inj, map_int_inj, map_nil_iff, List.cons.injEq, exists_eq_left, exists_eq_left', exists_eq, exists_eq', exists_and_left, exists_and_right, exists_const, and_assoc, and_true, true_and, and_false, false_and, or_false, false_or, or_true, true_or, ite_true, ite_false, if_true, if_false, Bool.false_eq_true, own_cons, own_nil, le1, le2, le3, le4, me_cons, me_nil, List.length_map, List.length_cons, List.length_nil, ne_eq, not_false_eq_true, not_true_eq_false, decide_eq_true_eq, h8, hl, scal_int]
      refine ⟨.inl (by omega), ?_⟩
      refine iteC (fun c => ?_) (fun c => ?_)
      · refine ⟨n0, by omega, ?_⟩
        rw [gi_crow n0 (by omega)]
        refine iteC (fun c => absurd c (by simp)) fun _ => ?_
        exact sm2
      · rw [high a b n (by omega)]
        refine iteC (fun c => absurd c (by simp)) fun _ => ?_
        exact sm2
    · obtain ⟨y5, y6, e, sm⟩ := hP
      subst e
      have XH : Exc d H H' := (X11.trans y1).trans (Exc.same ((same_upd np1).trans sm))
      have DH : Dc H' d := (DG1.same (same_upd np1)).same sm
      have k9 := sm _ _ (same_upd np1 _ _ g9)
      have fin : ∀ (H2 : Hp) y5 y6, Exc d H H2 → Dc H2 d → H2 told = some (TI (crow a b)) →
          tSeq (tFor (iRng2 (tCons (tC (V.int 1)) (tCons (tOp (rI0 fun i j => V.int (i + j)) (tOp (rI CDiv fun i j => V.int (i / j)) (tOp (rI CMul fun i j => V.int (i * j)) (tVar 1) (tVar 2)) (tC (V.int 2))) (tC (V.int 1))) tNil)))
            (gName 5) (tIfS (tTest (tOp (rI0 fun i j => V.bl (decide (j < i))) (tOp rIxTI (tVar 4) (tOp (rI0 fun i j => V.int (i - j)) (tVar 5) (tC (V.int 1)))) (tOp rIxTI (tVar 4) (tVar 5))))
              (tRet (tC (V.bl false))) tNext)) (tRet (tC (V.bl true))) { nx := fun x H' => Q V.non H', rt := Q }
            [some (.ref d), some (.int a), some (.int b), some (.ref due), some (.ref told), y5, y6] H2 := by
        intro H2 y5 y6 x2 D2 h9
        simp only [ap_seq, ap_next, ap_asg, ap_gName, ap_ret, ap_retN, ap_drop, ap_ifS, ap_break, ap_cont, ap_par, ap_aug, ap_ip, ap_gSub, ap_gTup, ap_gNil, ap_gCons, ap_var, ap_c, ap_op, ap_un, ap_if, ap_test, ap_B, ap_and, ap_or, ap_not, ap_andV, ap_orV, ap_notV, ap_nil, ap_cons, ap_tup, ap_lst, ap_cb, ap_bm, ap_call, ap_chain, ap_rI, ap_rI0, ap_rU, ap_rEq, ap_rNe, ap_revT, ap_sl, ap_part, ap_noPart, ap_ixLI, ap_ixTI, ap_ixLV, ap_ixTV, ap_len, ap_setLI, ap_setLV, ap_appI, ap_appV, ap_tupL, ap_listS, ap_sumLI, ap_sumTI, ap_repLI, ap_intI, ap_intB, ap_eqTI, ap_neTI, ap_eqLI, ap_neLI, ap_isi, ap_for, ap_rng1, ap_rng2, ap_iList, ap_iTup, ap_lc, ap_yes, ap_cut, ap_gTupH, ap_fmt, ap_jsn, ap_jsc, ap_gcd, ap_isqrt, ap_ixL, tyV_l, wipe_nil, wipe_cons, upd_same, ap_shl, ap_shr, ap_mask, ap_comb, ap_bits, ap_rng3, List.set_cons_zero, List.set_cons_succ, List.getElem?_cons_zero, List.getElem?_cons_succ, List.cons_append, List.nil_append, List.append_nil, Option.some.injEq, V.int.injEq, V.ref.injEq, V.bl.injEq, V.str.injEq, V.ty.injEq, Bool.not_true, Bool.not_false, HO.lst.injEq, HO.tup.injEq, reduceCtorEq, Int.reduceToNat, Int.reduceLT, Int.reduceLE, Nat.reduceAdd, Int.cast_ofNat_Int, gi_c0, gi_c1, gi_c2, gi_c3, Int.natCast_inj, map_int_inj, map_nil_iff, List.cons.injEq, exists_eq_left, exists_eq_left', exists_eq, exists_eq', exists_and_left, exists_and_right, exists_const, and_assoc, and_true, true_and, and_false, false_and, or_false, false_or, or_true, true_or, ite_true, ite_false, if_true, if_false, Bool.false_eq_true, own_cons, own_nil, le1, le2, le3, le4, me_cons, me_nil, List.length_map, List.length_cons, List.length_nil, ne_eq, not_false_eq_true, not_true_eq_false, decide_eq_true_eq, CMul, CDiv]
        refine ⟨.inl (by omega), by omega, by omega, by omega, by omega, ?_⟩
        refine loop_range (fun i σ' H' => H' = H2 ∧ ∃ y5 y6, σ' = [some (.ref d), some (.int a), some (.int b), some (.ref due), some (.ref told), y5, y6]) ⟨rfl, _, _, rfl⟩ (fun i σ' H3 hi hP => ?_) (fun σ' H3 hP => ?_)
        · obtain ⟨e1, y5, y6, e⟩ := hP
          subst e e1
          have hl := crow_len a b
          simp only [ap_seq, ap_next, ap_asg, ap_gName, ap_ret, ap_retN, ap_drop, ap_ifS, ap_break, ap_cont, ap_par, ap_aug, ap_ip, ap_gSub, ap_gTup, ap_gNil, ap_gCons, ap_var, ap_c, ap_op, ap_un, ap_if, ap_test, ap_B, ap_and, ap_or, ap_not, ap_andV, ap_orV, ap_notV, ap_nil, ap_cons, ap_tup, ap_lst, ap_cb, ap_bm, ap_call, ap_chain, ap_rI, ap_rI0, ap_rU, ap_rEq, ap_rNe, ap_revT, ap_sl, ap_part, ap_noPart, ap_ixLI, ap_ixTI, ap_ixLV, ap_ixTV, ap_len, ap_setLI, ap_setLV, ap_appI, ap_appV, ap_tupL, ap_listS, ap_sumLI, ap_sumTI, ap_repLI, ap_intI, ap_intB, ap_eqTI, ap_neTI, ap_eqLI, ap_neLI, ap_isi, ap_for, ap_rng1, ap_rng2, ap_iList, ap_iTup, ap_lc, ap_yes, ap_cut, ap_gTupH, ap_fmt, ap_jsn, ap_jsc, ap_gcd, ap_isqrt, ap_ixL, tyV_l, wipe_nil, wipe_cons, upd_same, ap_shl, ap_shr, ap_mask, ap_comb, ap_bits, ap_rng3, List.set_cons_zero, List.set_cons_succ, List.getElem?_cons_zero, List.getElem?_cons_succ, List.cons_append, List.nil_append, List.append_nil, Option.some.injEq, V.int.injEq, V.ref.injEq, V.bl.injEq, V.str.injEq, V.ty.injEq, Bool.not_true, Bool.not_false, HO.lst.injEq, HO.tup.injEq, reduceCtorEq, Int.reduceToNat, Int.reduceLT, Int.reduceLE, Nat.reduceAdd, Int.cast_ofNat_Int, gi_c0, gi_c1, gi_c2, gi_c3, Int.natCast_inj, map_int_inj, map_nil_iff, List.cons.injEq, exists_eq_left, exists_eq_left', exists_eq, exists_eq', exists_and_left, exists_and_right, exists_const, and_assoc, and_true, true_and, and_false, false_and, or_false, false_or, or_true, true_or, ite_true, ite_false, if_true, if_false, Bool.false_eq_true, own_cons, own_nil, le1, le2, le3, le4, me_cons, me_nil, List.length_map, List.length_cons, List.length_nil, ne_eq, not_false_eq_true, not_true_eq_false, decide_eq_true_eq, h9, hl]
          refine ⟨by omega, by omega, by omega, by omega, ?_⟩
          rw [gi_crow (by omega) (by omega), gi_crow (by omega) (by omega)]
          have q1 : (1 : Int) + i - 1 = (i : Int) := by omega
          have q2 : (1 : Int) + i = ((i + 1 : Nat) : Int) := by omega
          rw [q1, q2]
          have hr := rise (d := a) (m := b) (w := i) ha hb (by omega)
          refine iteC (fun c => absurd c (by omega)) fun _ => ?_
          trivial
        · obtain ⟨e1, y5, y6, e⟩ := hP
          subst e e1
          exact q H3 x2 D2
      simp only [ap_seq, ap_ifS, ap_and, ap_test, ap_op, ap_var, ap_c, ap_rI0, ap_next] at fin ⊢
      simp only [ap_seq, ap_next, ap_asg, ap_gName, ap_ret, ap_retN, ap_drop, ap_ifS, ap_break, ap_cont, ap_par, ap_aug, ap_ip, ap_gSub, ap_gTup, ap_gNil, ap_gCons, ap_var, ap_c, ap_op, ap_un, ap_if, ap_test, ap_B, ap_and, ap_or, ap_not, ap_andV, ap_orV, ap_notV, ap_nil, ap_cons, ap_tup, ap_lst, ap_cb, ap_bm, ap_call, ap_chain, ap_rI, ap_rI0, ap_rU, ap_rEq, ap_rNe, ap_revT, ap_sl, ap_part, ap_noPart, ap_ixLI, ap_ixTI, ap_ixLV, ap_ixTV, ap_len, ap_setLI, ap_setLV, ap_appI, ap_appV, ap_tupL, ap_listS, ap_sumLI, ap_sumTI, ap_repLI, ap_intI, ap_intB, ap_eqTI, ap_neTI, ap_eqLI, ap_neLI, ap_isi, ap_for, ap_rng1, ap_rng2, ap_iList, ap_iTup, ap_lc, ap_yes, ap_cut, ap_gTupH, ap_fmt, ap_jsn, ap_jsc, ap_gcd, ap_isqrt, ap_ixL, tyV_l, wipe_nil, wipe_cons, upd_same, ap_shl, ap_shr, ap_mask, ap_comb, ap_bits, ap_rng3, List.set_cons_zero, List.set_cons_succ, List.getElem?_cons_zero, List.getElem?_cons_succ, List.cons_append, List.nil_append, List.append_nil, Option.some.injEq, V.int.injEq, V.ref.injEq, V.bl.injEq, V.str.injEq, V.ty.injEq, Bool.not_true, Bool.not_false, HO.lst.injEq, HO.tup.injEq, reduceCtorEq, Int.reduceToNat, Int.reduceLT, Int.reduceLE, Nat.reduceAdd, Int.cast_ofNat_Int, gi_c0, gi_c1, gi_c2, gi_c3, Int.natCast_inj, map_int_inj, map_nil_iff, List.cons.injEq, exists_eq_left, exists_eq_left', exists_eq, exists_eq', exists_and_left, exists_and_right, exists_const, and_assoc, and_true, true_and, and_false, false_and, or_false, false_or, or_true, true_or, ite_true, ite_false, if_true, if_false, Bool.false_eq_true, own_cons, own_nil, le1, le2, le3, le4, me_cons, me_nil, List.length_map, List.length_cons, List.length_nil, ne_eq, not_false_eq_true, not_true_eq_false, decide_eq_true_eq] at fin ⊢
      refine iteC (fun c => ?_) (fun c => ?_)
      · refine iteC (fun c2 => ?_) (fun c2 => ?_)
        · obtain ⟨u, rfl⟩ : ∃ u, a = u + 1 := ⟨a - 1, by omega⟩
          obtain ⟨v, rfl⟩ : ∃ v, b = v + 1 := ⟨b - 1, by omega⟩
          refine ⟨.inl (by omega), d, _, rfl, DH, by omega, by omega, fun H2 r x2 D2 a2 b2 => ?_⟩
          refine bc u (v + 1) (by omega) rfl (by omega) (by omega) a2 (by omega) fun H3 s3 => ?_
          refine bc (u + 1) (v + 1) rfl rfl (by omega) (by omega) a2 (by omega) fun H4 s4 => ?_
          have key := cs u v r
          have XF : ∀ H5, Same H4 H5 → Exc d H H5 := fun H5 s5 => (XH.trans x2).trans (Exc.same ((s3.trans s4).trans s5))
          have DF : ∀ H5, Same H4 H5 → Dc H5 d := fun H5 s5 => ((D2.same s3).same s4).same s5
          have KF : ∀ H5, Same H4 H5 → H5 told = some (TI (crow (u + 1) (v + 1))) := fun H5 s5 => s5 _ _ (s4 _ _ (s3 _ _ (x2 _ _ nd9 k9)))
          refine ⟨r, rfl, iteC (fun c3 => ?_) (fun c3 => ?_)⟩
          · refine ⟨r, rfl, bc (u + 1) v rfl (by omega) (by omega) (by omega) (by omega) (by omega) fun H5 s5 => ?_⟩
            refine ⟨_, rfl, _, rfl, rfl, ?_⟩
            have q1 : r - ((u + 1 : Nat) : Int) = r - (u + 1) := by omega
            rw [q1, ← key]
            refine iteC (fun c => absurd c (by simp)) fun _ => ?_
            exact fin H5 _ _ (XF H5 s5) (DF H5 s5) (KF H5 s5)
          · have z := neg (u + 1) v (r - (u + 1)) (by omega)
            refine ⟨_, rfl, rfl, ?_⟩
            rw [z] at key
            rw [← key]
            refine iteC (fun c => absurd c (by simp)) fun _ => ?_
            exact fin H4 _ _ (XF H4 (Same.refl H4)) (DF H4 (Same.refl H4)) (KF H4 (Same.refl H4))
        · exact fin H' _ _ XH DH k9
      · exact fin H' _ _ XH DH k9
def sp_law (K : PySem.W.Frag) : Sp := fun vs H Q _ => ∃ (a : Addr) (ns : List Int), vs = [.ref a] ∧ SqL K H a (ns.map V.int) ∧ ns.length ≤ 63 ∧ ∀ H', Q (.bl true) H'
theorem ok_law (T : Tx K mg) : FnOk P w K mg base CX0 6 T.f_law T.d_law p_law (sp_law K) := by
  refine T.F_law.ok sc_law (fun vs H Q E h => ?_) (fun cdv A outer s H vs Q E hr h => ?_)
  · obtain ⟨a, ns, rfl, _⟩ := h
    rfl
  · obtain ⟨a, ns, rfl, hS, hl, q⟩ := h
    refine ⟨_, (pss_cons (ps_for PassesOwn.never rfl (pi_range1 (by rfl) T.z_range (pa_cons (pe_callB (call_max2 rfl) (by rfl) T.z_max (by decide +kernel) (pa_cons pe_int (pa_cons (pe_callB (call_min2 rfl) (by rfl) T.z_min (by decide +kernel) (pa_cons pe_int (pa_cons (pe_callB call_len_seq (by rfl) T.z_len PySem.boot_len (pa_cons (pv 0) pa_nil)) pa_nil))) pa_nil))) pa_nil)) (pg_name (i := 1) sc_law.nd rfl (by first | exact .inl rfl | exact .inr rfl))
      (pss_cons (ps_set (i := 2) sc_law.nd rfl (Or.inl rfl) (pe_call (ok_law_dice T) (hr.mono (by decide)) (by rfl) T.m_law_dice T.F_law_dice.kp T.b_law_dice .nil pass0 (pa_cons (pv 0) (pa_cons (pv 1) pa_nil))))
      (pss_one (ps_if (PW.pt (pw_or (pt_not (pt_val (pe_call (ok_law_right T) (hr.mono (by decide)) (by rfl) T.m_law_right T.F_law_right.kp T.b_law_right .nil pass0 (pa_cons (pv 2) pa_nil)))) (pw_or1 (pt_not (pt_val (pe_call (ok_law_great_right T) (hr.mono (by decide)) (by rfl) T.m_law_great_right T.F_law_great_right.kp T.b_law_great_right .nil pass0 (pa_cons (pv 2) pa_nil))))))) (pss_one (ps_ret pe_bl)) pss_nil))))
      (pss_cons (ps_set (i := 3) sc_law.nd rfl (Or.inl rfl) (pe_lst (pa_cons (pe_call (ok_box_row T) (hr.mono (by decide)) (by rfl) T.m_box_row T.F_box_row.kp T.b_box_row .nil pass0 (pa_cons pe_int (pa_cons pe_int pa_nil))) (pa_cons (pe_call (ok_box_row T) (hr.mono (by decide)) (by rfl) T.m_box_row T.F_box_row.kp T.b_box_row .nil pass0 (pa_cons pe_int (pa_cons pe_int pa_nil))) (pa_cons (pe_call (ok_box_row T) (hr.mono (by decide)) (by rfl) T.m_box_row T.F_box_row.kp T.b_box_row .nil pass0 (pa_cons pe_int (pa_cons pe_int pa_nil))) (pa_cons (pe_call (ok_box_count T) (hr.mono (by decide)) (by rfl) T.m_box_count T.F_box_count.kp T.b_box_count .nil pass0 (pa_cons pe_int (pa_cons pe_int (pa_cons pe_int pa_nil)))) (pa_cons (pe_call (ok_box_count T) (hr.mono (by decide)) (by rfl) T.m_box_count T.F_box_count.kp T.b_box_count .nil pass0 (pa_cons pe_int (pa_cons pe_int (pa_cons pe_int pa_nil)))) (pa_cons (pe_call (ok_box_count T) (hr.mono (by decide)) (by rfl) T.m_box_count T.F_box_count.kp T.b_box_count .nil pass0 (pa_cons pe_int (pa_cons pe_int (pa_cons pe_int pa_nil)))) pa_nil))))))))
      (pss_one (ps_ret (pe_and (pe_cmpR (op_eqD hr.units) (pv 3) (pe_lst (pa_cons (pe_tup (pa_cons pe_int (pa_cons pe_int (pa_cons pe_int (pa_cons pe_int (pa_cons pe_int (pa_cons pe_int (pa_cons pe_int pa_nil)))))))) (pa_cons (pe_tup (pa_cons pe_int pa_nil)) (pa_cons (pe_tup (pa_cons pe_int pa_nil)) (pa_cons pe_int (pa_cons pe_int (pa_cons pe_int pa_nil))))))) (nomark _)) (pe_one (pe_cmpR op_eq (pe_call (ok_box_count T) (hr.mono (by decide)) (by rfl) T.m_box_count T.F_box_count.kp T.b_box_count .nil pass0 (pa_cons pe_int (pa_cons pe_int (pa_cons pe_int pa_nil)))) pe_int (nomark _)))))))), ?_⟩
    rw [st_law]
    simp only [ap_seq, ap_next, ap_asg, ap_gName, ap_ret, ap_retN, ap_drop, ap_ifS, ap_break, ap_cont, ap_par, ap_aug, ap_ip, ap_gSub, ap_gTup, ap_gNil, ap_gCons, ap_var, ap_c, ap_op, ap_un, ap_if, ap_test, ap_B, ap_and, ap_or, ap_not, ap_andV, ap_orV, ap_notV, ap_nil, ap_cons, ap_tup, ap_lst, ap_cb, ap_bm, ap_call, ap_chain, ap_rI, ap_rI0, ap_rU, ap_rEq, ap_rNe, ap_revT, ap_sl, ap_part, ap_noPart, ap_ixLI, ap_ixTI, ap_ixLV, ap_ixTV, ap_len, ap_setLI, ap_setLV, ap_appI, ap_appV, ap_tupL, ap_listS, ap_sumLI, ap_sumTI, ap_repLI, ap_intI, ap_intB, ap_eqTI, ap_neTI, ap_eqLI, ap_neLI, ap_isi, ap_for, ap_rng1, ap_rng2, ap_iList, ap_iTup, ap_lc, ap_yes, ap_cut, ap_gTupH, ap_fmt, ap_jsn, ap_jsc, ap_gcd, ap_isqrt, ap_ixL, tyV_l, wipe_nil, wipe_cons, upd_same, ap_shl, ap_shr, ap_mask, ap_comb, ap_bits, ap_rng3, List.set_cons_zero, List.set_cons_succ, List.getElem?_cons_zero, List.getElem?_cons_succ, List.cons_append, List.nil_append, List.append_nil, Option.some.injEq, V.int.injEq, V.ref.injEq, V.bl.injEq, V.str.injEq, V.ty.injEq, Bool.not_true, Bool.not_false, HO.lst.injEq, HO.tup.injEq, reduceCtorEq, Int.reduceToNat, Int.reduceLT, Int.reduceLE, Nat.reduceAdd, Int.cast_ofNat_Int, gi_c0, gi_c1, gi_c2, gi_c3, Int.natCast_inj, map_int_inj, map_nil_iff, List.cons.injEq, exists_eq_left, exists_eq_left', exists_eq, exists_eq', exists_and_left, exists_and_right, exists_const, and_assoc, and_true, true_and, and_false, false_and, or_false, false_or, or_true, true_or, ite_true, ite_false, if_true, if_false, Bool.false_eq_true, own_cons, own_nil, le1, le2, le3, le4, me_cons, me_nil, List.length_map, List.length_cons, List.length_nil, ne_eq, not_false_eq_true, not_true_eq_false, decide_eq_true_eq]
    refine ⟨_, .inl hS, ?_⟩
    have ln : (ns.map V.int).length = ns.length := List.length_map ..
    rw [ln]
    obtain ⟨n, hn, n1, n4⟩ : ∃ n : Int, (if (if (ns.length : Int) < 4 then (ns.length : Int) else 4) > 1 then if (ns.length : Int) < 4 then (ns.length : Int) else 4 else 1) = n ∧ 1 ≤ n ∧ n ≤ 4 :=
      ⟨_, rfl, by split <;> split <;> omega, by split <;> split <;> omega⟩
    simp only [hn]
    refine ⟨by omega, by omega, ?_⟩
    refine loop_range (fun i σ' H' => Same H H' ∧ ∃ y1 y2 y3, σ' = [some (.ref a), y1, y2, y3]) ⟨Same.refl H, _, _, _, rfl⟩ (fun i σ' H1 hi hP => ?_) (fun σ' H1 hP => ?_)
    · obtain ⟨sm, y1, y2, y3, e⟩ := hP
      subst e
      simp only [ap_seq, ap_next, ap_asg, ap_gName, ap_ret, ap_retN, ap_drop, ap_ifS, ap_break, ap_cont, ap_par, ap_aug, ap_ip, ap_gSub, ap_gTup, ap_gNil, ap_gCons, ap_var, ap_c, ap_op, ap_un, ap_if, ap_test, ap_B, ap_and, ap_or, ap_not, ap_andV, ap_orV, ap_notV, ap_nil, ap_cons, ap_tup, ap_lst, ap_cb, ap_bm, ap_call, ap_chain, ap_rI, ap_rI0, ap_rU, ap_rEq, ap_rNe, ap_revT, ap_sl, ap_part, ap_noPart, ap_ixLI, ap_ixTI, ap_ixLV, ap_ixTV, ap_len, ap_setLI, ap_setLV, ap_appI, ap_appV, ap_tupL, ap_listS, ap_sumLI, ap_sumTI, ap_repLI, ap_intI, ap_intB, ap_eqTI, ap_neTI, ap_eqLI, ap_neLI, ap_isi, ap_for, ap_rng1, ap_rng2, ap_iList, ap_iTup, ap_lc, ap_yes, ap_cut, ap_gTupH, ap_fmt, ap_jsn, ap_jsc, ap_gcd, ap_isqrt, ap_ixL, tyV_l, wipe_nil, wipe_cons, upd_same, ap_shl, ap_shr, ap_mask, ap_comb, ap_bits, ap_rng3, List.set_cons_zero, List.set_cons_succ, List.getElem?_cons_zero, List.getElem?_cons_succ, List.cons_append, List.nil_append, List.append_nil, Option.some.injEq, V.int.injEq, V.ref.injEq, V.bl.injEq, V.str.injEq, V.ty.injEq, Bool.not_true, Bool.not_false, HO.lst.injEq, HO.tup.injEq, reduceCtorEq, Int.reduceToNat, Int.reduceLT, Int.reduceLE, Nat.reduceAdd, Int.cast_ofNat_Int, gi_c0, gi_c1, gi_c2, gi_c3, Int.natCast_inj, map_int_inj, map_nil_iff, List.cons.injEq, exists_eq_left, exists_eq_left', exists_eq, exists_eq', exists_and_left, exists_and_right, exists_const, and_assoc, and_true, true_and, and_false, false_and, or_false, false_or, or_true, true_or, ite_true, ite_false, if_true, if_false, Bool.false_eq_true, own_cons, own_nil, le1, le2, le3, le4, me_cons, me_nil, List.length_map, List.length_cons, List.length_nil, ne_eq, not_false_eq_true, not_true_eq_false, decide_eq_true_eq]
      refine ⟨a, ns, i, by rw [Int.zero_add], sm.seq hS, by omega, fun H2 p s2 np D2 => ?_⟩
      refine ⟨p, rfl, D2, fun H3 x3 D3 => ?_⟩
      simp only [ap_seq, ap_next, ap_asg, ap_gName, ap_ret, ap_retN, ap_drop, ap_ifS, ap_break, ap_cont, ap_par, ap_aug, ap_ip, ap_gSub, ap_gTup, ap_gNil, ap_gCons, ap_var, ap_c, ap_op, ap_un, ap_if, ap_test, ap_B, ap_and, ap_or, ap_not, ap_andV, ap_orV, ap_notV, ap_nil, ap_cons, ap_tup, ap_lst, ap_cb, ap_bm, ap_call, ap_chain, ap_rI, ap_rI0, ap_rU, ap_rEq, ap_rNe, ap_revT, ap_sl, ap_part, ap_noPart, ap_ixLI, ap_ixTI, ap_ixLV, ap_ixTV, ap_len, ap_setLI, ap_setLV, ap_appI, ap_appV, ap_tupL, ap_listS, ap_sumLI, ap_sumTI, ap_repLI, ap_intI, ap_intB, ap_eqTI, ap_neTI, ap_eqLI, ap_neLI, ap_isi, ap_for, ap_rng1, ap_rng2, ap_iList, ap_iTup, ap_lc, ap_yes, ap_cut, ap_gTupH, ap_fmt, ap_jsn, ap_jsc, ap_gcd, ap_isqrt, ap_ixL, tyV_l, wipe_nil, wipe_cons, upd_same, ap_shl, ap_shr, ap_mask, ap_comb, ap_bits, ap_rng3, List.set_cons_zero, List.set_cons_succ, List.getElem?_cons_zero, List.getElem?_cons_succ, List.cons_append, List.nil_append, List.append_nil, Option.some.injEq, V.int.injEq, V.ref.injEq, V.bl.injEq, V.str.injEq, V.ty.injEq, Bool.not_true, Bool.not_false, HO.lst.injEq, HO.tup.injEq, reduceCtorEq, Int.reduceToNat, Int.reduceLT, Int.reduceLE, Nat.reduceAdd, Int.cast_ofNat_Int, gi_c0, gi_c1, gi_c2, gi_c3, Int.natCast_inj, map_int_inj, map_nil_iff, List.cons.injEq, exists_eq_left, exists_eq_left', exists_eq, exists_eq', exists_and_left, exists_and_right, exists_const, and_assoc, and_true, true_and, and_false, false_and, or_false, false_or, or_true, true_or, ite_true, ite_false, if_true, if_false, Bool.false_eq_true, own_cons, own_nil, le1, le2, le3, le4, me_cons, me_nil, List.length_map, List.length_cons, List.length_nil, ne_eq, not_false_eq_true, not_true_eq_false, decide_eq_true_eq]
      refine ⟨p, rfl, D3, fun H4 x4 D4 => ?_⟩
      simp only [ap_seq, ap_next, ap_asg, ap_gName, ap_ret, ap_retN, ap_drop, ap_ifS, ap_break, ap_cont, ap_par, ap_aug, ap_ip, ap_gSub, ap_gTup, ap_gNil, ap_gCons, ap_var, ap_c, ap_op, ap_un, ap_if, ap_test, ap_B, ap_and, ap_or, ap_not, ap_andV, ap_orV, ap_notV, ap_nil, ap_cons, ap_tup, ap_lst, ap_cb, ap_bm, ap_call, ap_chain, ap_rI, ap_rI0, ap_rU, ap_rEq, ap_rNe, ap_revT, ap_sl, ap_part, ap_noPart, ap_ixLI, ap_ixTI, ap_ixLV, ap_ixTV, ap_len, ap_setLI, ap_setLV, ap_appI, ap_appV, ap_tupL, ap_listS, ap_sumLI, ap_sumTI, ap_repLI, ap_intI, ap_intB, ap_eqTI, ap_neTI, ap_eqLI, ap_neLI, ap_isi, ap_for, ap_rng1, ap_rng2, ap_iList, ap_iTup, ap_lc, ap_yes, ap_cut, ap_gTupH, ap_fmt, ap_jsn, ap_jsc, ap_gcd, ap_isqrt, ap_ixL, tyV_l, wipe_nil, wipe_cons, upd_same, ap_shl, ap_shr, ap_mask, ap_comb, ap_bits, ap_rng3, List.set_cons_zero, List.set_cons_succ, List.getElem?_cons_zero, List.getElem?_cons_succ, List.cons_append, List.nil_append, List.append_nil, Option.some.injEq, V.int.injEq, V.ref.injEq, V.bl.injEq, V.str.injEq, V.ty.injEq, Bool.not_true, Bool.not_false, HO.lst.injEq, HO.tup.injEq, reduceCtorEq, Int.reduceToNat, Int.reduceLT, Int.reduceLE, Nat.reduceAdd, Int.cast_ofNat_Int, gi_c0, gi_c1, gi_c2, gi_c3, Int.natCast_inj, map_int_inj, map_nil_iff, List.cons.injEq, exists_eq_left, exists_eq_left', exists_eq, exists_eq', exists_and_left, exists_and_right, exists_const, and_assoc, and_true, true_and, and_false, false_and, or_false, false_or, or_true, true_or, ite_true, ite_false, if_true, if_false, Bool.false_eq_true, own_cons, own_nil, le1, le2, le3, le4, me_cons, me_nil, List.length_map, List.length_cons, List.length_nil, ne_eq, not_false_eq_true, not_true_eq_false, decide_eq_true_eq]
      exact fun b o hb => (x3.trans x4) b o (ne_of_none hb (sm.free np)) (s2 _ _ (sm _ _ hb))
    · obtain ⟨sm, y1, y2, y3, e⟩ := hP
      subst e
      simp only [ap_seq, ap_asg]
      simp only [ap_seq, ap_next, ap_asg, ap_gName, ap_ret, ap_retN, ap_drop, ap_ifS, ap_break, ap_cont, ap_par, ap_aug, ap_ip, ap_gSub, ap_gTup, ap_gNil, ap_gCons, ap_var, ap_c, ap_op, ap_un, ap_if, ap_test, ap_B, ap_and, ap_or, ap_not, ap_andV, ap_orV, ap_notV, ap_nil, ap_cons, ap_tup, ap_lst, ap_cb, ap_bm, ap_call, ap_chain, ap_rI, ap_rI0, ap_rU, ap_rEq, ap_rNe, ap_revT, ap_sl, ap_part, ap_noPart, ap_ixLI, ap_ixTI, ap_ixLV, ap_ixTV, ap_len, ap_setLI, ap_setLV, ap_appI, ap_appV, ap_tupL, ap_listS, ap_sumLI, ap_sumTI, ap_repLI, ap_intI, ap_intB, ap_eqTI, ap_neTI, ap_eqLI, ap_neLI, ap_isi, ap_for, ap_rng1, ap_rng2, ap_iList, ap_iTup, ap_lc, ap_yes, ap_cut, ap_gTupH, ap_fmt, ap_jsn, ap_jsc, ap_gcd, ap_isqrt, ap_ixL, tyV_l, wipe_nil, wipe_cons, upd_same, ap_shl, ap_shr, ap_mask, ap_comb, ap_bits, ap_rng3, List.set_cons_zero, List.set_cons_succ, List.getElem?_cons_zero, List.getElem?_cons_succ, List.cons_append, List.nil_append, List.append_nil, Option.some.injEq, V.int.injEq, V.ref.injEq, V.bl.injEq, V.str.injEq, V.ty.injEq, Bool.not_true, Bool.not_false, HO.lst.injEq, HO.tup.injEq, reduceCtorEq, Int.reduceToNat, Int.reduceLT, Int.reduceLE, Nat.reduceAdd, Int.cast_ofNat_Int, gi_c0, gi_c1, gi_c2, gi_c3, Int.natCast_inj, map_int_inj, map_nil_iff, List.cons.injEq, exists_eq_left, exists_eq_left', exists_eq, exists_eq', exists_and_left, exists_and_right, exists_const, and_assoc, and_true, true_and, and_false, false_and, or_false, false_or, or_true, true_or, ite_true, ite_false, if_true, if_false, Bool.false_eq_true, own_cons, own_nil, le1, le2, le3, le4, me_cons, me_nil, List.length_map, List.length_cons, List.length_nil, ne_eq, not_false_eq_true, not_true_eq_false, decide_eq_true_eq]
      refine brow 2 3 rfl rfl (by omega) (by omega) fun G1 p1 s1 m1 e1 => ?_
      refine brow 4 0 rfl rfl (by omega) (by omega) fun G2 p2 s2 m2 e2 => ?_
      refine brow 0 0 rfl rfl (by omega) (by omega) fun G3 p3 s3 m3 e3 => ?_
      refine bc 10 6 rfl rfl (by omega) (by omega) (by omega) (by omega) fun G4 s4 => ?_
      refine bc 2 3 rfl rfl (by omega) (by omega) (by omega) (by omega) fun G5 s5 => ?_
      refine bc 0 40 rfl rfl (by omega) (by omega) (by omega) (by omega) fun G6 s6 => ?_
      rw [row23] at e1
      rw [row40] at e2
      rw [row00] at e3
      rw [some1, some2, some3]
      refine ⟨by decide, fun l nl => ⟨by decide, fun t1 nt1 => ⟨by decide, fun t2 nt2 => ⟨by decide, fun t3 nt3 => ⟨by decide, fun l2 nl2 => ?_⟩⟩⟩⟩⟩
      have E1 := s6 _ _ (s5 _ _ (s4 _ _ (s3 _ _ (s2 _ _ e1))))
      have E2 := s6 _ _ (s5 _ _ (s4 _ _ (s3 _ _ e2)))
      have E3 := s6 _ _ (s5 _ _ (s4 _ _ e3))
      have k1 := same_upd (o := .lst [V.ref p1, V.ref p2, V.ref p3, V.int 338, V.int 0, V.int 1]) nl
      have k2 := same_upd (o := .tup [V.int 1, V.int 1, V.int 2, V.int 2, V.int 2, V.int 1, V.int 1]) nt1
      have k3 := same_upd (o := .tup [V.int 1]) nt2
      have k4 := same_upd (o := .tup [V.int 1]) nt3
      have k5 := same_upd (o := .lst [V.ref t1, V.ref t2, V.ref t3, V.int 338, V.int 0, V.int 1]) nl2
      have K1 : SqT K _ p1 ([1, 1, 2, 2, 2, 1, 1].map V.int) := sqT_of (k5 _ _ (k4 _ _ (k3 _ _ (k2 _ _ (k1 _ _ E1)))))
      have K2 : SqT K _ p2 ([1].map V.int) := sqT_of (k5 _ _ (k4 _ _ (k3 _ _ (k2 _ _ (k1 _ _ E2)))))
      have K3 : SqT K _ p3 ([1].map V.int) := sqT_of (k5 _ _ (k4 _ _ (k3 _ _ (k2 _ _ (k1 _ _ E3)))))
      have T1 : SqT K _ t1 ([1, 1, 2, 2, 2, 1, 1].map V.int) := sqT_of (k5 _ _ (k4 _ _ (k3 _ _ upd_same)))
      have T2 : SqT K _ t2 ([1].map V.int) := sqT_of (k5 _ _ (k4 _ _ upd_same))
      have T3 : SqT K _ t3 ([1].map V.int) := sqT_of (k5 _ _ upd_same)
      refine ⟨_, _, .lst (sqL_of (k5 _ _ (k4 _ _ (k3 _ _ (k2 _ _ upd_same))))) (.cons (.tup K1 (dpAll_ints _ _ _)) (.cons (.tup K2 (dpAll_ints _ _ _)) (.cons (.tup K3 (dpAll_ints _ _ _)) (.cons (.int _) (.cons (.int _) (.cons (.int _) .nil)))))),
        .lst (sqL_of upd_same) (.cons (.tup T1 (dpAll_ints _ _ _)) (.cons (.tup T2 (dpAll_ints _ _ _)) (.cons (.tup T3 (dpAll_ints _ _ _)) (.cons (.int _) (.cons (.int _) (.cons (.int _) .nil)))))), by decide +kernel, by decide +kernel, ?_⟩
      refine ⟨true, by decide +kernel, ?_⟩
      rw [if_pos rfl]
      refine bc 40 40 rfl rfl (by omega) (by omega) (by omega) (by omega) fun G7 s7 => ?_
      rw [great]
      refine ⟨rfl, ?_⟩
      rw [decide_eq_true rfl]
      exact q G7
end
end My

namespace My
open PySem PySem.Spec PyProof.Rows L2 Pr M26
theorem all_mk {l : PySem.W.OpenLaw} {w : World} {K : PySem.W.Frag} {h : Heap} {mg : Str → Option Value} {fa : Addr} (X : K.In h) (G : h.Ns mainGlobals mg) (hfa : mg "law" = some (.ref fa))
    {f0 : Addr} {od0 an0 : Option Addr} {sl0 : Array (Option Value)} {oc0 kV0 dc0 pm0 cd0 ct0 : Value}
    (a0 : PySem.W.nsIn K mainGlobals "is_integer" = some (some (.ref f0))) (l0 : K.lookup f0 = some ⟨oc0, od0, .func (PySem.W.fnOf "is_integer" "is_integer" (defArgs s_is_integer) (defBody s_is_integer) (defScope s_is_integer) .none kV0 dc0 pm0 an0 cd0 ct0), sl0⟩) (c0 : PySem.W.codeIn K cd0 "is_integer" = true) (k0 : PySem.W.keepIn K (.ref f0) = true)
    {f1 : Addr} {od1 an1 : Option Addr} {sl1 : Array (Option Value)} {oc1 kV1 dc1 pm1 cd1 ct1 : Value}
    (a1 : PySem.W.nsIn K mainGlobals "is_within" = some (some (.ref f1))) (l1 : K.lookup f1 = some ⟨oc1, od1, .func (PySem.W.fnOf "is_within" "is_within" (defArgs s_is_within) (defBody s_is_within) (defScope s_is_within) .none kV1 dc1 pm1 an1 cd1 ct1), sl1⟩) (c1 : PySem.W.codeIn K cd1 "is_within" = true) (k1 : PySem.W.keepIn K (.ref f1) = true)
    {f2 : Addr} {od2 an2 : Option Addr} {sl2 : Array (Option Value)} {oc2 kV2 dc2 pm2 cd2 ct2 : Value}
    (a2 : PySem.W.nsIn K mainGlobals "need_number" = some (some (.ref f2))) (l2 : K.lookup f2 = some ⟨oc2, od2, .func (PySem.W.fnOf "need_number" "need_number" (defArgs s_need_number) (defBody s_need_number) (defScope s_need_number) .none kV2 dc2 pm2 an2 cd2 ct2), sl2⟩) (c2 : PySem.W.codeIn K cd2 "need_number" = true) (k2 : PySem.W.keepIn K (.ref f2) = true)
    {f3 : Addr} {od3 an3 : Option Addr} {sl3 : Array (Option Value)} {oc3 kV3 dc3 pm3 cd3 ct3 : Value}
    (a3 : PySem.W.nsIn K mainGlobals "packed_counts" = some (some (.ref f3))) (l3 : K.lookup f3 = some ⟨oc3, od3, .func (PySem.W.fnOf "packed_counts" "packed_counts" (defArgs s_packed_counts) (defBody s_packed_counts) (defScope s_packed_counts) .none kV3 dc3 pm3 an3 cd3 ct3), sl3⟩) (c3 : PySem.W.codeIn K cd3 "packed_counts" = true) (k3 : PySem.W.keepIn K (.ref f3) = true)
    {f4 : Addr} {od4 an4 : Option Addr} {sl4 : Array (Option Value)} {oc4 kV4 dc4 pm4 cd4 ct4 : Value}
    (a4 : PySem.W.nsIn K mainGlobals "lowest_bits" = some (some (.ref f4))) (l4 : K.lookup f4 = some ⟨oc4, od4, .func (PySem.W.fnOf "lowest_bits" "lowest_bits" (defArgs s_lowest_bits) (defBody s_lowest_bits) (defScope s_lowest_bits) .none kV4 dc4 pm4 an4 cd4 ct4), sl4⟩) (c4 : PySem.W.codeIn K cd4 "lowest_bits" = true) (k4 : PySem.W.keepIn K (.ref f4) = true)
    {f5 : Addr} {od5 an5 : Option Addr} {sl5 : Array (Option Value)} {oc5 kV5 dc5 pm5 cd5 ct5 : Value}
    (a5 : PySem.W.nsIn K mainGlobals "counts_up_to" = some (some (.ref f5))) (l5 : K.lookup f5 = some ⟨oc5, od5, .func (PySem.W.fnOf "counts_up_to" "counts_up_to" (defArgs s_counts_up_to) (defBody s_counts_up_to) (defScope s_counts_up_to) .none kV5 dc5 pm5 an5 cd5 ct5), sl5⟩) (c5 : PySem.W.codeIn K cd5 "counts_up_to" = true) (k5 : PySem.W.keepIn K (.ref f5) = true)
    {f6 : Addr} {od6 an6 : Option Addr} {sl6 : Array (Option Value)} {oc6 kV6 dc6 pm6 cd6 ct6 : Value}
    (a6 : PySem.W.nsIn K mainGlobals "box_count" = some (some (.ref f6))) (l6 : K.lookup f6 = some ⟨oc6, od6, .func (PySem.W.fnOf "box_count" "box_count" (defArgs s_box_count) (defBody s_box_count) (defScope s_box_count) .none kV6 dc6 pm6 an6 cd6 ct6), sl6⟩) (c6 : PySem.W.codeIn K cd6 "box_count" = true) (k6 : PySem.W.keepIn K (.ref f6) = true)
    {f7 : Addr} {od7 an7 : Option Addr} {sl7 : Array (Option Value)} {oc7 kV7 dc7 pm7 cd7 ct7 : Value}
    (a7 : PySem.W.nsIn K mainGlobals "box_row" = some (some (.ref f7))) (l7 : K.lookup f7 = some ⟨oc7, od7, .func (PySem.W.fnOf "box_row" "box_row" (defArgs s_box_row) (defBody s_box_row) (defScope s_box_row) .none kV7 dc7 pm7 an7 cd7 ct7), sl7⟩) (c7 : PySem.W.codeIn K cd7 "box_row" = true) (k7 : PySem.W.keepIn K (.ref f7) = true)
    {f8 : Addr} {od8 an8 : Option Addr} {sl8 : Array (Option Value)} {oc8 kV8 dc8 pm8 cd8 ct8 : Value}
    (a8 : PySem.W.nsIn K mainGlobals "_law_dice" = some (some (.ref f8))) (l8 : K.lookup f8 = some ⟨oc8, od8, .func (PySem.W.fnOf "_law_dice" "_law_dice" (defArgs s_law_dice) (defBody s_law_dice) (defScope s_law_dice) .none kV8 dc8 pm8 an8 cd8 ct8), sl8⟩) (c8 : PySem.W.codeIn K cd8 "_law_dice" = true) (k8 : PySem.W.keepIn K (.ref f8) = true)
    {f9 : Addr} {od9 an9 : Option Addr} {sl9 : Array (Option Value)} {oc9 kV9 dc9 pm9 cd9 ct9 : Value}
    (a9 : PySem.W.nsIn K mainGlobals "_law_roll" = some (some (.ref f9))) (l9 : K.lookup f9 = some ⟨oc9, od9, .func (PySem.W.fnOf "_law_roll" "_law_roll" (defArgs s_law_roll) (defBody s_law_roll) (defScope s_law_roll) .none kV9 dc9 pm9 an9 cd9 ct9), sl9⟩) (c9 : PySem.W.codeIn K cd9 "_law_roll" = true) (k9 : PySem.W.keepIn K (.ref f9) = true)
    {f10 : Addr} {od10 an10 : Option Addr} {sl10 : Array (Option Value)} {oc10 kV10 dc10 pm10 cd10 ct10 : Value}
    (a10 : PySem.W.nsIn K mainGlobals "_law_pick" = some (some (.ref f10))) (l10 : K.lookup f10 = some ⟨oc10, od10, .func (PySem.W.fnOf "_law_pick" "_law_pick" (defArgs s_law_pick) (defBody s_law_pick) (defScope s_law_pick) .none kV10 dc10 pm10 an10 cd10 ct10), sl10⟩) (c10 : PySem.W.codeIn K cd10 "_law_pick" = true) (k10 : PySem.W.keepIn K (.ref f10) = true)
    {f11 : Addr} {od11 an11 : Option Addr} {sl11 : Array (Option Value)} {oc11 kV11 dc11 pm11 cd11 ct11 : Value}
    (a11 : PySem.W.nsIn K mainGlobals "_law_choose" = some (some (.ref f11))) (l11 : K.lookup f11 = some ⟨oc11, od11, .func (PySem.W.fnOf "_law_choose" "_law_choose" (defArgs s_law_choose) (defBody s_law_choose) (defScope s_law_choose) .none kV11 dc11 pm11 an11 cd11 ct11), sl11⟩) (c11 : PySem.W.codeIn K cd11 "_law_choose" = true) (k11 : PySem.W.keepIn K (.ref f11) = true)
    {f12 : Addr} {od12 an12 : Option Addr} {sl12 : Array (Option Value)} {oc12 kV12 dc12 pm12 cd12 ct12 : Value}
    (a12 : PySem.W.nsIn K mainGlobals "_law_rows_of" = some (some (.ref f12))) (l12 : K.lookup f12 = some ⟨oc12, od12, .func (PySem.W.fnOf "_law_rows_of" "_law_rows_of" (defArgs s_law_rows_of) (defBody s_law_rows_of) (defScope s_law_rows_of) .none kV12 dc12 pm12 an12 cd12 ct12), sl12⟩) (c12 : PySem.W.codeIn K cd12 "_law_rows_of" = true) (k12 : PySem.W.keepIn K (.ref f12) = true)
    {f13 : Addr} {od13 an13 : Option Addr} {sl13 : Array (Option Value)} {oc13 kV13 dc13 pm13 cd13 ct13 : Value}
    (a13 : PySem.W.nsIn K mainGlobals "_law_right" = some (some (.ref f13))) (l13 : K.lookup f13 = some ⟨oc13, od13, .func (PySem.W.fnOf "_law_right" "_law_right" (defArgs s_law_right) (defBody s_law_right) (defScope s_law_right) .none kV13 dc13 pm13 an13 cd13 ct13), sl13⟩) (c13 : PySem.W.codeIn K cd13 "_law_right" = true) (k13 : PySem.W.keepIn K (.ref f13) = true)
    {f14 : Addr} {od14 an14 : Option Addr} {sl14 : Array (Option Value)} {oc14 kV14 dc14 pm14 cd14 ct14 : Value}
    (a14 : PySem.W.nsIn K mainGlobals "_law_great_right" = some (some (.ref f14))) (l14 : K.lookup f14 = some ⟨oc14, od14, .func (PySem.W.fnOf "_law_great_right" "_law_great_right" (defArgs s_law_great_right) (defBody s_law_great_right) (defScope s_law_great_right) .none kV14 dc14 pm14 an14 cd14 ct14), sl14⟩) (c14 : PySem.W.codeIn K cd14 "_law_great_right" = true) (k14 : PySem.W.keepIn K (.ref f14) = true)
    {f15 : Addr} {od15 an15 : Option Addr} {sl15 : Array (Option Value)} {oc15 kV15 dc15 pm15 cd15 ct15 : Value}
    (a15 : PySem.W.nsIn K mainGlobals "law" = some (some (.ref f15))) (l15 : K.lookup f15 = some ⟨oc15, od15, .func (PySem.W.fnOf "law" "law" (defArgs s_law) (defBody s_law) (defScope s_law) .none kV15 dc15 pm15 an15 cd15 ct15), sl15⟩) (c15 : PySem.W.codeIn K cd15 "law" = true) (k15 : PySem.W.keepIn K (.ref f15) = true)
    (z0 : PySem.W.nsIn K mainGlobals "abs" = some none)
    (z1 : PySem.W.nsIn K mainGlobals "bool" = some none)
    (z2 : PySem.W.nsIn K mainGlobals "int" = some none)
    (z3 : PySem.W.nsIn K mainGlobals "isinstance" = some none)
    (z4 : PySem.W.nsIn K mainGlobals "len" = some none)
    (z5 : PySem.W.nsIn K mainGlobals "max" = some none)
    (z6 : PySem.W.nsIn K mainGlobals "min" = some none)
    (z7 : PySem.W.nsIn K mainGlobals "range" = some none)
    (z8 : PySem.W.nsIn K mainGlobals "sum" = some none)
    (z9 : PySem.W.nsIn K mainGlobals "tuple" = some none)
    (i0 : PySem.W.nsIn K mainGlobals "comb" = some (some (.builtin "math.comb")))
    {t0 : Tok} (q0 : PySem.W.nsIn K mainGlobals "TOO_LONG" = some (some (.int 1000000000000000000000000000000000000000000000000000000000000 t0)))
    {t1 : Tok} (q1 : PySem.W.nsIn K mainGlobals "MAX_PARTS" = some (some (.int 40 t1)))
    {t2 : Tok} (q2 : PySem.W.nsIn K mainGlobals "MAX_WEIGHT" = some (some (.int 1600 t2)))
    {t3 : Tok} (q3 : PySem.W.nsIn K mainGlobals "PIECE" = some (some (.int 32 t3)))
    : ∃ fd : FuncData, (∀ (s : Shared) (v : Value), BindsTo s fd ⟨[v], []⟩ [("_law_script", v)]) ∧ ∀ base : Heap, K.In base → base.Ns mainGlobals mg → FnOk l.prog w K mg base CX0 6 fa fd ["_law_script"] (sp_law K) := by
  have e := hfa.symm.trans (PySem.W.mg_of X G a15)
  cases e
  have F0 := fun_mk (st := s_is_integer) l0 c0 k0
  have b0 := F0.binds (ps := p_is_integer) fun _ _ _ _ _ _ us hl => match us, hl with | [_], _ => rfl
  have F1 := fun_mk (st := s_is_within) l1 c1 k1
  have b1 := F1.binds (ps := p_is_within) fun _ _ _ _ _ _ us hl => match us, hl with | [_, _, _], _ => rfl
  have F2 := fun_mk (st := s_need_number) l2 c2 k2
  have b2 := F2.binds (ps := p_need_number) fun _ _ _ _ _ _ us hl => match us, hl with | [_, _, _], _ => rfl
  have F3 := fun_mk (st := s_packed_counts) l3 c3 k3
  have b3 := F3.binds (ps := p_packed_counts) fun _ _ _ _ _ _ us hl => match us, hl with | [_, _, _], _ => rfl
  have F4 := fun_mk (st := s_lowest_bits) l4 c4 k4
  have b4 := F4.binds (ps := p_lowest_bits) fun _ _ _ _ _ _ us hl => match us, hl with | [_, _], _ => rfl
  have F5 := fun_mk (st := s_counts_up_to) l5 c5 k5
  have b5 := F5.binds (ps := p_counts_up_to) fun _ _ _ _ _ _ us hl => match us, hl with | [_, _, _], _ => rfl
  have F6 := fun_mk (st := s_box_count) l6 c6 k6
  have b6 := F6.binds (ps := p_box_count) fun _ _ _ _ _ _ us hl => match us, hl with | [_, _, _], _ => rfl
  have F7 := fun_mk (st := s_box_row) l7 c7 k7
  have b7 := F7.binds (ps := p_box_row) fun _ _ _ _ _ _ us hl => match us, hl with | [_, _], _ => rfl
  have F8 := fun_mk (st := s_law_dice) l8 c8 k8
  have b8 := F8.binds (ps := p_law_dice) fun _ _ _ _ _ _ us hl => match us, hl with | [_, _], _ => rfl
  have F9 := fun_mk (st := s_law_roll) l9 c9 k9
  have b9 := F9.binds (ps := p_law_roll) fun _ _ _ _ _ _ us hl => match us, hl with | [_, _], _ => rfl
  have F10 := fun_mk (st := s_law_pick) l10 c10 k10
  have b10 := F10.binds (ps := p_law_pick) fun _ _ _ _ _ _ us hl => match us, hl with | [_, _], _ => rfl
  have F11 := fun_mk (st := s_law_choose) l11 c11 k11
  have b11 := F11.binds (ps := p_law_choose) fun _ _ _ _ _ _ us hl => match us, hl with | [_, _], _ => rfl
  have F12 := fun_mk (st := s_law_rows_of) l12 c12 k12
  have b12 := F12.binds (ps := p_law_rows_of) fun _ _ _ _ _ _ us hl => match us, hl with | [_, _], _ => rfl
  have F13 := fun_mk (st := s_law_right) l13 c13 k13
  have b13 := F13.binds (ps := p_law_right) fun _ _ _ _ _ _ us hl => match us, hl with | [_], _ => rfl
  have F14 := fun_mk (st := s_law_great_right) l14 c14 k14
  have b14 := F14.binds (ps := p_law_great_right) fun _ _ _ _ _ _ us hl => match us, hl with | [_], _ => rfl
  have F15 := fun_mk (st := s_law) l15 c15 k15
  have b15 := F15.binds (ps := p_law) fun _ _ _ _ _ _ us hl => match us, hl with | [_], _ => rfl
  let T : Tx K mg := ⟨_, _, F0, b0, PySem.W.mg_of X G a0, _, _, F1, b1, PySem.W.mg_of X G a1, _, _, F2, b2, PySem.W.mg_of X G a2, _, _, F3, b3, PySem.W.mg_of X G a3, _, _, F4, b4, PySem.W.mg_of X G a4, _, _, F5, b5, PySem.W.mg_of X G a5, _, _, F6, b6, PySem.W.mg_of X G a6, _, _, F7, b7, PySem.W.mg_of X G a7, _, _, F8, b8, PySem.W.mg_of X G a8, _, _, F9, b9, PySem.W.mg_of X G a9, _, _, F10, b10, PySem.W.mg_of X G a10, _, _, F11, b11, PySem.W.mg_of X G a11, _, _, F12, b12, PySem.W.mg_of X G a12, _, _, F13, b13, PySem.W.mg_of X G a13, _, _, F14, b14, PySem.W.mg_of X G a14, _, _, F15, b15, PySem.W.mg_of X G a15, PySem.W.mg_none_of X G z0, PySem.W.mg_none_of X G z1, PySem.W.mg_none_of X G z2, PySem.W.mg_none_of X G z3, PySem.W.mg_none_of X G z4, PySem.W.mg_none_of X G z5, PySem.W.mg_none_of X G z6, PySem.W.mg_none_of X G z7, PySem.W.mg_none_of X G z8, PySem.W.mg_none_of X G z9, PySem.W.mg_of X G i0, _, PySem.W.mg_of X G q0, _, PySem.W.mg_of X G q1, _, PySem.W.mg_of X G q2, _, PySem.W.mg_of X G q3⟩
  exact ⟨_, fun s v => .of_eq rfl, fun base _ _ => ok_law T⟩
end My
open PySem PySem.W PyProof.Rows
set_option maxHeartbeats 0 in
theorem PySem.Challenge.cw_sourceforms_k26_whole_counts_of_boxes_holds : PySem.Challenge.rw_sourceforms_k26_whole_counts_of_boxes.Holds := by
  w_on; o_law; k_head; (case hw => w_witness2)
  k_fill
  refine L2.walk_of (l := PySem.Challenge.rw_sourceforms_k26_whole_counts_of_boxes) (n := 63) (k := 6) (x := "_law_script") (CX := fun _ => L2.CX0) (sp := fun w => My.sp_law _) rfl (by decide) rfl ⟨rfl, by decide, by decide⟩ (fun w h Y => PySem.W.kIn_of Y) ?F (fun _ _ a ns hl _ hS => ⟨a, ns, rfl, hS, hl, fun _ => rfl⟩) (fun _ _ _ _ _ h => h)
  case F =>
    intro w mg fa h KX G hmg
    refine' My.all_mk KX G hmg ?a0 ?l0 ?c0 ?k0 ?a1 ?l1 ?c1 ?k1 ?a2 ?l2 ?c2 ?k2 ?a3 ?l3 ?c3 ?k3 ?a4 ?l4 ?c4 ?k4 ?a5 ?l5 ?c5 ?k5 ?a6 ?l6 ?c6 ?k6 ?a7 ?l7 ?c7 ?k7 ?a8 ?l8 ?c8 ?k8 ?a9 ?l9 ?c9 ?k9 ?a10 ?l10 ?c10 ?k10 ?a11 ?l11 ?c11 ?k11 ?a12 ?l12 ?c12 ?k12 ?a13 ?l13 ?c13 ?k13 ?a14 ?l14 ?c14 ?k14 ?a15 ?l15 ?c15 ?k15 ?z0 ?z1 ?z2 ?z3 ?z4 ?z5 ?z6 ?z7 ?z8 ?z9 ?i0 ?q0 ?q1 ?q2 ?q3
    (case a0 => k_is)
    (case l0 => k_is)
    (case c0 => k_is)
    (case k0 => k_is)
    (case a1 => k_is)
    (case l1 => k_is)
    (case c1 => k_is)
    (case k1 => k_is)
    (case a2 => k_is)
    (case l2 => k_is)
    (case c2 => k_is)
    (case k2 => k_is)
    (case a3 => k_is)
    (case l3 => k_is)
    (case c3 => k_is)
    (case k3 => k_is)
    (case a4 => k_is)
    (case l4 => k_is)
    (case c4 => k_is)
    (case k4 => k_is)
    (case a5 => k_is)
    (case l5 => k_is)
    (case c5 => k_is)
    (case k5 => k_is)
    (case a6 => k_is)
    (case l6 => k_is)
    (case c6 => k_is)
    (case k6 => k_is)
    (case a7 => k_is)
    (case l7 => k_is)
    (case c7 => k_is)
    (case k7 => k_is)
    (case a8 => k_is)
    (case l8 => k_is)
    (case c8 => k_is)
    (case k8 => k_is)
    (case a9 => k_is)
    (case l9 => k_is)
    (case c9 => k_is)
    (case k9 => k_is)
    (case a10 => k_is)
    (case l10 => k_is)
    (case c10 => k_is)
    (case k10 => k_is)
    (case a11 => k_is)
    (case l11 => k_is)
    (case c11 => k_is)
    (case k11 => k_is)
    (case a12 => k_is)
    (case l12 => k_is)
    (case c12 => k_is)
    (case k12 => k_is)
    (case a13 => k_is)
    (case l13 => k_is)
    (case c13 => k_is)
    (case k13 => k_is)
    (case a14 => k_is)
    (case l14 => k_is)
    (case c14 => k_is)
    (case k14 => k_is)
    (case a15 => k_is)
    (case l15 => k_is)
    (case c15 => k_is)
    (case k15 => k_is)
    (case z0 => k_is)
    (case z1 => k_is)
    (case z2 => k_is)
    (case z3 => k_is)
    (case z4 => k_is)
    (case z5 => k_is)
    (case z6 => k_is)
    (case z7 => k_is)
    (case z8 => k_is)
    (case z9 => k_is)
    (case i0 => k_is)
    (case q0 => k_is)
    (case q1 => k_is)
    (case q2 => k_is)
    (case q3 => k_is)

