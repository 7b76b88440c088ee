import PyProof.Rows.All
import Wide.All
import OpenK.AllK
import Wide.FinOn
import HandS.ForMost
import HandS.Wide
import HandS.IsInst
import HandS.Zip
import HandS.Style
import HandS.Gcd
import HandS.FStr
import HandS.Evl
import KE.GoesEnum
import HandS.SlotsOwn
import HandS.Property
import KE.KOpsOwn
import HandS.WideBits
import KE.KMathGC
import HandS.TupLe
import KE.KFmtOwn
import PyProof.FactsAll.object_2
import HandS.TupAny
import HandS.ClsMeth
import HandS.OwnIter
import HandS.IterVal
import HandS.Text
import HandS.TupMul
import HandS.RaiseMore
import KE.KCallOwn
import PyProof.FactsLen
import HandS.Deep
import HandS.TupSets
import HandS.Sort
import PySem.Challenge.RW_sourceforms_k49_whole_forms_over_primes
set_option Elab.async false
set_option linter.all false
set_option maxRecDepth 100000
set_option maxHeartbeats 4000000
/-! rules by values whose readings are settled by what the heap holds -/
namespace Pr
open PySem PySem.Spec PyProof.Rows L2
/-! ### weaker readings -/
section
variable {X : Cx}
theorem opImp {f : Value → Value → Sem Value} {r r' : R2} (h : OpR X f r) (i : ∀ x y H Q, r' x y H Q → r x y H Q) : OpR X f r' :=
  fun pins s σ H x y v u Q I rx ry q => h pins s σ H x y v u Q I rx ry (i _ _ _ _ q)
theorem callImp {f : Value} {r r' : List V → Hp → VK → Prop} (h : CallR X f r) (i : ∀ vs H Q, r' vs H Q → r vs H Q) : CallR X f r' :=
  fun pins s σ H xs us Q I rx q => h pins s σ H xs us Q I rx (i _ _ _ q)
theorem ixImp {r r' : R2} (h : IxR X r) (i : ∀ x y H Q, r' x y H Q → r x y H Q) : IxR X r' :=
  fun va sl pins s σ H x y v u Q I rx ry q e => h va sl pins s σ H x y v u Q I rx ry (i _ _ _ _ q) e
theorem mtImp {id : String} {r r' : V → List V → Hp → VK → Prop} (h : MtM X id r) (i : ∀ x vs H Q, r' x vs H Q → r x vs H Q) : MtM X id r' :=
  fun pins s σ H x xs v us Q I rx rs q => h pins s σ H x xs v us Q I rx rs (i _ _ _ _ q)
theorem setImp {r r' : TSet} (h : PSet X r) (i : ∀ o j v H Q, r' o j v H Q → r o j v H Q) : PSet X r' :=
  fun pins s σ H o j v ov iv u Q I ro ri rv q => h pins s σ H o j v ov iv u Q I ro ri rv (i _ _ _ _ _ q)
end
/-! ### lists and tuples of ints -/
abbrev LI (ns : List Int) : HO := .lst (ns.map V.int)
abbrev TI (ns : List Int) : HO := .tup (ns.map V.int)
theorem map_int_inj {xs ys : List Int} : xs.map V.int = ys.map V.int ↔ xs = ys := by
  constructor
  · intro h
    exact (List.map_inj_right (fun a b e => V.int.inj e)).mp h
  · rintro rfl
    rfl
theorem map_nil_iff {xs : List Int} : ([] : List V) = xs.map V.int ↔ xs = [] := by
  cases xs <;> simp
/-- the item at an int's place -/
def gi (ns : List Int) (i : Int) : Int := ns.getD i.toNat 0
theorem gi_nat (ns : List Int) (i : Nat) : gi ns (i : Int) = ns.getD i 0 := by
  unfold gi
  rw [Int.toNat_natCast]
theorem at_gi {ns : List Int} {i : Int} (h0 : 0 ≤ i) (h1 : i < ns.length) : atI (ns.map V.int) i = some (.int (gi ns i)) := by
  obtain ⟨n, rfl⟩ := Int.eq_ofNat_of_zero_le h0
  have hn : n < ns.length := by omega
  rw [gi_nat]
  refine atI_nat (j := n) ?_
  rw [List.getElem?_map, List.getElem?_eq_getElem hn, List.getD_eq_getElem?_getD, List.getElem?_eq_getElem hn]
  rfl
section
variable {X : Cx}
/-- xs[i], xs a list of ints, the place from the left -/
def rIxLI : R2 := fun x y H Q => ∃ p i, x = .ref p ∧ y = .int i ∧ ∃ ns, H p = some (LI ns) ∧ 0 ≤ i ∧ i < (ns.length : Int) ∧ Q (.int (gi ns i)) H
theorem ix_LI : IxR X rIxLI := ixImp ix_list fun x y H Q ⟨p, i, ex, ey, ns, hp, h0, h1, q⟩ =>
  ⟨p, _, i, _, ex, ey, .inl (.inl hp), at_gi h0 h1, q⟩
def rIxTI : R2 := fun x y H Q => ∃ p i, x = .ref p ∧ y = .int i ∧ ∃ ns, H p = some (TI ns) ∧ 0 ≤ i ∧ i < (ns.length : Int) ∧ Q (.int (gi ns i)) H
theorem ix_TI : IxR X rIxTI := ixImp ix_tup fun x y H Q ⟨p, i, ex, ey, ns, hp, h0, h1, q⟩ =>
  ⟨p, _, i, _, ex, ey, .inl (.inl hp), at_gi h0 h1, q⟩
/-- xs[i], xs a list or tuple of any things -/
def rIxLV : R2 := fun x y H Q => ∃ p i, x = .ref p ∧ y = .int i ∧ ∃ xs, H p = some (.lst xs) ∧ ∃ v, atI xs i = some v ∧ Q v H
def rIxTV : R2 := fun x y H Q => ∃ p i, x = .ref p ∧ y = .int i ∧ ∃ xs, H p = some (.tup xs) ∧ ∃ v, atI xs i = some v ∧ Q v H
theorem ix_TV : IxR X rIxTV := ixImp ix_tup fun x y H Q ⟨p, i, ex, ey, xs, hp, v, hv, q⟩ => ⟨p, xs, i, v, ex, ey, .inl (.inl hp), hv, q⟩
def rLen : List V → Hp → VK → Prop := fun vs H Q => ∃ p, vs = [.ref p] ∧ ∃ xs, (H p = some (.lst xs) ∨ H p = some (.tup xs)) ∧ Q (.int (xs.length : Nat)) H
theorem cr_len : CallR X (.builtin "len") rLen := callImp call_len_seq fun vs H Q ⟨p, e, xs, h, q⟩ =>
  ⟨p, xs, e, h.elim (fun h => .inl (.inl (.inl h))) (fun h => .inr (.inl (.inl h))), q⟩
theorem ixN_of {n : Nat} {i : Int} (h0 : 0 ≤ i) (h1 : i < n) : ixN n i = some i.toNat := by
  unfold ixN
  rw [if_pos h0, if_pos h1]
def rSetLI : TSet := fun o j v H Q => ∃ p i n, o = .ref p ∧ j = .int i ∧ v = .int n ∧ ∃ ns, H p = some (LI ns) ∧ 0 ≤ i ∧ i < (ns.length : Int) ∧ Q (upd H p (LI (ns.set i.toNat n)))
theorem set_LI : PSet X rSetLI := setImp set_list fun o j v H Q ⟨p, i, n, eo, ej, ev, ns, hp, h0, h1, q⟩ => by
  subst ev
  refine ⟨p, _, i, i.toNat, eo, ej, hp, ?_, ?_⟩
  · rw [List.length_map]
    exact ixN_of h0 h1
  · rw [← List.map_set]
    exact q
def rSetLV : TSet := fun o j v H Q => ∃ p i, o = .ref p ∧ j = .int i ∧ ∃ xs, H p = some (.lst xs) ∧ 0 ≤ i ∧ i < (xs.length : Int) ∧ Q (upd H p (.lst (xs.set i.toNat v)))
theorem sz {n : Nat} (h : n < 1000000) : n < sizeLine := Nat.lt_of_lt_of_le h (by decide)
def rAppI : V → List V → Hp → VK → Prop := fun x vs H Q => ∃ l n, x = .ref l ∧ vs = [.int n] ∧ ∃ ns, H l = some (LI ns) ∧ ns.length < 1000000 ∧ Q .non (upd H l (LI (ns ++ [n])))
def rAppV : V → List V → Hp → VK → Prop := fun x vs H Q => ∃ l v, x = .ref l ∧ vs = [v] ∧ ∃ xs, H l = some (.lst xs) ∧ xs.length < 1000000 ∧ Q .non (upd H l (.lst (xs ++ [v])))
theorem mt_appV : MtM X "list.append" rAppV := mtImp mt_append fun x vs H Q ⟨l, n, ex, ev, ns, hl, hz, q⟩ => ⟨l, ns, n, ex, ev, hl, sz hz, q⟩
def rTupL : List V → Hp → VK → Prop := fun vs H Q => ∃ p, vs = [.ref p] ∧ ∃ xs, H p = some (.lst xs) ∧ ∀ l, H l = none → Q (.ref l) (upd H l (.tup xs))
theorem cr_tupL : CallR X (.type "tuple") rTupL := callImp call_tuple_of fun vs H Q ⟨p, e, xs, h, q⟩ => ⟨p, xs, e, .inl ⟨.inl (.inl h), q⟩⟩
def rListS : List V → Hp → VK → Prop := fun vs H Q => ∃ p, vs = [.ref p] ∧ ∃ xs, (H p = some (.lst xs) ∨ H p = some (.tup xs)) ∧ ∀ l, H l = none → Q (.ref l) (upd H l (.lst xs))
def rSumLI : List V → Hp → VK → Prop := fun vs H Q => ∃ p, vs = [.ref p] ∧ ∃ ns, H p = some (LI ns) ∧ Q (.int ns.sum) H
/-- xs * k of a new list -/
def rRepLI : R2 := fun x y H Q => ∃ l k, x = .ref l ∧ y = .int k ∧ ∃ n, H l = some (LI [n]) ∧ k < 1000000 ∧ -1000000 < k ∧ ∀ p, H p = none → Q (.ref p) (upd H p (LI (List.replicate k.toNat n)))
theorem flat_rep (k : Nat) (n : Int) : (List.replicate k [V.int n]).flatten = (List.replicate k n).map V.int := by
  induction k with
  | zero => rfl
  | succ k ih =>
    rw [List.replicate_succ, List.flatten_cons, ih, List.replicate_succ]
    rfl
/-- int(n) -/
def rIntI : List V → Hp → VK → Prop := fun vs H Q => ∃ i, vs = [.int i] ∧ Q (.int i) H
theorem cr_intI : CallR X (.type "int") rIntI := callImp call_int1 fun vs H Q ⟨i, e, q⟩ => .inl ⟨i, e, q⟩
def rIntB : List V → Hp → VK → Prop := fun vs H Q => ∃ k, vs = [.bl k] ∧ Q (.int (if k then 1 else 0)) H
theorem cr_intB : CallR X (.type "int") rIntB := callImp call_int1 fun vs H Q ⟨i, e, q⟩ => .inr ⟨i, e, q⟩
/-- isinstance(x, T) by what x is, T a builtin class -/
def tyOf : V → Hp → Option String
  | .non, _ => some "NoneType"
  | .bl _, _ => some "bool"
  | .int _, _ => some "int"
  | .str _, _ => some "str"
  | .ref a, H => match H a with
    | some (.lst _) => some "list"
    | some (.tup _) => some "tuple"
    | some (.dK _) => some "dict"
    | some (.dT _) => some "dict"
    | _ => none
  | _, _ => none
end
end Pr
namespace Pr
open PySem PySem.Spec PyProof.Rows L2
/-! ### == of lists and tuples of ints -/
theorem dpAll_ints (K : PySem.W.Frag) (H : Hp) : ∀ ns : List Int, DpAll K H (ns.map V.int) (ns.map PyData.int)
  | [] => .nil
  | n :: ns => .cons (.int n) (dpAll_ints K H ns)
theorem eqvAll_ints : ∀ ns ms : List Int, PyData.eqvAll (ns.map .int) (ms.map .int) = decide (ns = ms)
  | [], [] => rfl
  | [], m :: ms => by simp [PyData.eqvAll]
  | n :: ns, [] => by simp [PyData.eqvAll]
  | n :: ns, m :: ms => by
    show (PyData.eqv (.int n) (.int m) && PyData.eqvAll (ns.map .int) (ms.map .int)) = decide (n :: ns = m :: ms)
    rw [eqvAll_ints ns ms]
    simp [PyData.eqv, ]
    by_cases h : n = m <;> simp [h]
theorem lay_ints : ∀ ns : List Int, PyData.canLayAll0 (ns.map .int) = true
  | [] => rfl
  | n :: ns => by
    show (PyData.canLay0 (.int n) && PyData.canLayAll0 (ns.map .int)) = true
    rw [lay_ints ns]
    rfl
theorem depth_ints : ∀ ns : List Int, PyData.depthAll (ns.map .int) = 0
  | [] => rfl
  | n :: ns => by
    show max (PyData.depth (.int n)) (PyData.depthAll (ns.map .int)) = 0
    rw [depth_ints ns]
    rfl
theorem shaped_TI (ns : List Int) : SeqAt.shaped (.tuple (ns.map .int)) = true := by
  unfold SeqAt.shaped
  simp [PyData.canLay0, PyData.depth, lay_ints, depth_ints]
theorem shaped_LI (ns : List Int) : SeqAt.shaped (.list (ns.map .int)) = true := by
  unfold SeqAt.shaped
  simp [PyData.canLay0, PyData.depth, lay_ints, depth_ints]
section
variable {X : Cx}
def rEqTI : R2 := fun x y H Q => ∃ p q, x = .ref p ∧ y = .ref q ∧ ∃ ns, H p = some (TI ns) ∧ ∃ ms, H q = some (TI ms) ∧ Q (.bl (decide (ns = ms))) H
theorem op_eqTI (hu : X.A.units + 64 < cLine) : OpR X (compareOp .Eq) rEqTI := opImp (op_eqD hu) fun x y H Q ⟨p, q, ex, ey, ns, hp, ms, hq, k⟩ => by
  subst ex ey
  refine ⟨_, _, .tup (.inl (.inl hp)) (dpAll_ints _ _ ns), .tup (.inl (.inl hq)) (dpAll_ints _ _ ms), shaped_TI ns, shaped_TI ms, ?_⟩
  show Q (.bl (PyData.eqvAll (ns.map .int) (ms.map .int))) H
  rw [eqvAll_ints]
  exact k
def rNeTI : R2 := fun x y H Q => ∃ p q, x = .ref p ∧ y = .ref q ∧ ∃ ns, H p = some (TI ns) ∧ ∃ ms, H q = some (TI ms) ∧ Q (.bl (!decide (ns = ms))) H
theorem op_neTI (hu : X.A.units + 64 < cLine) : OpR X (compareOp .NotEq) rNeTI := opImp (op_neD hu) fun x y H Q ⟨p, q, ex, ey, ns, hp, ms, hq, k⟩ => by
  subst ex ey
  refine ⟨_, _, .tup (.inl (.inl hp)) (dpAll_ints _ _ ns), .tup (.inl (.inl hq)) (dpAll_ints _ _ ms), shaped_TI ns, shaped_TI ms, ?_⟩
  show Q (.bl (!PyData.eqvAll (ns.map .int) (ms.map .int))) H
  rw [eqvAll_ints]
  exact k
def rEqLI : R2 := fun x y H Q => ∃ p q, x = .ref p ∧ y = .ref q ∧ ∃ ns, H p = some (LI ns) ∧ ∃ ms, H q = some (LI ms) ∧ Q (.bl (decide (ns = ms))) H
theorem op_eqLI (hu : X.A.units + 64 < cLine) : OpR X (compareOp .Eq) rEqLI := opImp (op_eqD hu) fun x y H Q ⟨p, q, ex, ey, ns, hp, ms, hq, k⟩ => by
  subst ex ey
  refine ⟨_, _, .lst (.inl (.inl hp)) (dpAll_ints _ _ ns), .lst (.inl (.inl hq)) (dpAll_ints _ _ ms), shaped_LI ns, shaped_LI ms, ?_⟩
  show Q (.bl (PyData.eqvAll (ns.map .int) (ms.map .int))) H
  rw [eqvAll_ints]
  exact k
def rNeLI : R2 := fun x y H Q => ∃ p q, x = .ref p ∧ y = .ref q ∧ ∃ ns, H p = some (LI ns) ∧ ∃ ms, H q = some (LI ms) ∧ Q (.bl (!decide (ns = ms))) H
/-- isinstance of what is no object -/
def rIsiS : List V → Hp → VK → Prop := fun vs H Q => ∃ x T, vs = [x, .ty T] ∧ ∃ t, tyOf x H = some t ∧ ∃ b, kitB t T = some b ∧ Q (.bl b) H
theorem cr_isiS : CallR X (.builtin "isinstance") rIsiS := callImp call_isi fun vs H Q ⟨x, T, e, t, ht, b, hb, q⟩ => by
  refine ⟨x, .ty T, .type t, .type T, b, e, ?_, ?_, kit_ty hb, q⟩
  · exact .ty T
  · unfold tyOf at ht
    split at ht
    · cases ht; exact .base .non
    · cases ht; exact .base (.bl _)
    · cases ht; exact .base (.int _)
    · cases ht; exact .base (.str _)
    · split at ht <;> cases ht
      · exact .base (.lst ‹_›)
      · exact .base (.tup ‹_›)
      · exact .base (.dK ‹_›)
      · exact .base (.dT ‹_›)
    · cases ht
end
/-! ### sum of a tuple of ints -/
section
variable {X : Cx}
def rSumTI : List V → Hp → VK → Prop := fun vs H Q => ∃ p, vs = [.ref p] ∧ ∃ ns, H p = some (TI ns) ∧ Q (.int ns.sum) H
end
/-! ### t[::-1] of a tuple -/
section
variable {X : Cx}
def tRevT (te : TE) : TE := fun σ H Q => te σ H fun x H1 => ∃ a, x = .ref a ∧ ∃ xs, H1 a = some (.tup xs) ∧ ∀ p, H1 p = none → Q (.ref p) (upd H1 p (.tup xs.reverse))
end
end Pr
namespace Pr
open PySem PySem.Spec PyProof.Rows L2
/-! ### readings, applied -/
section
variable {K : PySem.W.Frag} {σ : L2.St} {H : Hp} {Q : VK} {ta tb tc te : TE} {t u : TT} {D : Ends} {tu tw : TS} {g : TG} {x y v : V} {i j : Nat} {QT : Bool → Hp → Prop} {QA : List V → Hp → Prop}
theorem ap_seq : tSeq tu tw D σ H = tu { D with nx := tw D } σ H := rfl
theorem ap_next : tNext D σ H = D.nx σ H := rfl
theorem ap_asg : tAsg te g D σ H = te σ H fun x H1 => g x σ H1 D.nx := rfl
theorem ap_gName {QN : L2.St → Hp → Prop} : gName i v σ H QN = QN (σ.set i (some v)) H := rfl
theorem ap_ret : tRet te D σ H = te σ H D.rt := rfl
theorem ap_retN : tRetN D σ H = D.rt .non H := rfl
theorem ap_drop : tDrop te D σ H = te σ H fun _ H1 => D.nx σ H1 := rfl
theorem ap_ifS : tIfS t tu tw D σ H = t σ H fun b H1 => if b = true then tu D σ H1 else tw D σ H1 := rfl
theorem ap_break : tBreak D σ H = D.bk σ H := rfl
theorem ap_cont : tCont D σ H = D.ct σ H := rfl
theorem ap_par {ta : TA} : tPar i j ta D σ H = ta σ H fun vs H1 => ∃ v w, vs = [v, w] ∧ D.nx ((σ.set i (some v)).set j (some w)) H1 := rfl
theorem ap_aug {ti : TIp} : tAug i te ti D σ H = ∃ x, σ[i]? = some (some x) ∧ te σ H fun y H1 => ti x y H1 fun z H2 => D.nx (σ.set i (some z)) H2 := rfl
theorem ap_ip {f : Int → Int → Int} : ipI f x y H Q = ∃ i j, x = .int i ∧ y = .int j ∧ Q (.int (f i j)) H := rfl
theorem ap_gSub {to ti : TE} {ts : TSet} {QN : L2.St → Hp → Prop} : gSub to ti ts v σ H QN = to σ H fun o H1 => ti σ H1 fun i H2 => ts o i v H2 fun H3 => QN σ H3 := rfl
theorem ap_gTup {n : Nat} {ts : TGs} {QN : L2.St → Hp → Prop} : gTup K n ts v σ H QN = ∃ a xs, v = .ref a ∧ SqT K H a xs ∧ xs.length = n ∧ ts xs σ H QN := rfl
theorem ap_gNil {vs : List V} {QN : L2.St → Hp → Prop} : gNil vs σ H QN = (vs = [] ∧ QN σ H) := rfl
theorem ap_gCons {t : TG} {u : TGs} {vs : List V} {QN : L2.St → Hp → Prop} : gCons t u vs σ H QN = ∃ v r, vs = v :: r ∧ t v σ H fun σ' H' => u r σ' H' QN := rfl
theorem ap_var : tVar i σ H Q = ∃ v, σ[i]? = some (some v) ∧ Q v H := rfl
theorem ap_c : tC v σ H Q = Q v H := rfl
theorem ap_op {r : R2} : tOp r ta tb σ H Q = ta σ H fun x H1 => tb σ H1 fun y H2 => r x y H2 Q := rfl
theorem ap_un {r : V → Hp → VK → Prop} : tUn r ta σ H Q = ta σ H fun x H1 => r x H1 Q := rfl
theorem ap_if : tIf t ta tb σ H Q = t σ H fun c H1 => if c = true then ta σ H1 Q else tb σ H1 Q := rfl
theorem ap_test : tTest te σ H QT = te σ H fun x H' => ∃ k, x = .bl k ∧ QT k H' := rfl
theorem ap_B : tB te σ H QT = te σ H fun x H' => ∃ k, x = .bl k ∧ QT k H' := rfl
theorem ap_and : tAnd t u σ H QT = t σ H fun c H1 => if c = true then u σ H1 QT else QT false H1 := rfl
theorem ap_or : tOr t u σ H QT = t σ H fun c H1 => if c = true then QT true H1 else u σ H1 QT := rfl
theorem ap_not : tNot t σ H QT = t σ H fun c H1 => QT (!c) H1 := rfl
theorem ap_andV : tAndV ta tb σ H Q = ta σ H fun x H1 => ∃ c, x = .bl c ∧ if c = true then tb σ H1 Q else Q (.bl false) H1 := rfl
theorem ap_orV : tOrV ta tb σ H Q = ta σ H fun x H1 => ∃ c, x = .bl c ∧ if c = true then Q (.bl true) H1 else tb σ H1 Q := rfl
theorem ap_notV : tNotV ta σ H Q = ta σ H fun x H1 => ∃ c, x = .bl c ∧ Q (.bl (!c)) H1 := rfl
theorem ap_nil : tNil σ H QA = QA [] H := rfl
theorem ap_cons {tr : TA} : tCons ta tr σ H QA = ta σ H fun x H1 => tr σ H1 fun xs H2 => QA (x :: xs) H2 := rfl
theorem ap_tup {ta : TA} : tTup ta σ H Q = ta σ H fun xs H1 => xs.length ≤ sizeLine ∧ ∀ p, H1 p = none → Q (.ref p) (upd H1 p (.tup xs)) := rfl
theorem ap_lst {ta : TA} : tLst ta σ H Q = ta σ H fun xs H1 => xs.length ≤ sizeLine ∧ ∀ p, H1 p = none → Q (.ref p) (upd H1 p (.lst xs)) := rfl
theorem ap_cb {r : List V → Hp → VK → Prop} {ta : TA} : tCB r ta σ H Q = ta σ H fun vs H1 => r vs H1 Q := rfl
theorem ap_bm {T : String} {r : V → List V → Hp → VK → Prop} {ta : TA} : tBM K T r te ta σ H Q = te σ H fun x H1 => tyV K T x H1 ∧ ta σ H1 fun xs H2 => r x xs H2 Q := rfl
theorem ap_call {sp : Sp} {dvs : List V} {E : XK} {ta : TA} : tCall sp dvs E ta σ H Q = ta σ H fun vs H1 => sp (vs ++ dvs) H1 Q E := rfl
theorem ap_chain {r r' : R2} : tChain r r' ta tb tc σ H Q = ta σ H fun x H1 => tb σ H1 fun y H2 => r x y H2 fun z H3 => ∃ k, z = .bl k ∧ (if k = true then tc σ H3 fun w H4 => r' y w H4 Q else Q (.bl false) H3) := by
  unfold tChain
  apply propext
  rfl
theorem ap_rI {C : Int → Int → Prop} {f : Int → Int → V} : rI C f x y H Q = ∃ i j, x = .int i ∧ y = .int j ∧ C i j ∧ Q (f i j) H := rfl
theorem ap_rI0 {f : Int → Int → V} : rI0 f x y H Q = ∃ i j, x = .int i ∧ y = .int j ∧ Q (f i j) H := rfl
theorem ap_rU {f : Int → V} : rU f x H Q = ∃ i, x = .int i ∧ Q (f i) H := rfl
theorem ap_rEq : rEq x y H Q = (scal x y = true ∧ Q (.bl (decide (x = y))) H) := rfl
theorem ap_rNe : rNe x y H Q = (scal x y = true ∧ Q (.bl (!decide (x = y))) H) := rfl
theorem ap_revT : tRevT te σ H Q = te σ H fun x H1 => ∃ a, x = .ref a ∧ ∃ xs, H1 a = some (.tup xs) ∧ ∀ p, H1 p = none → Q (.ref p) (upd H1 p (.tup xs.reverse)) := rfl
theorem ap_sl {r : V → Option Int → Option Int → Hp → VK → Prop} {tl th : TO} : tSl r te tl th σ H Q = te σ H fun x H1 => tl σ H1 fun l H2 => th σ H2 fun u H3 => r x l u H3 Q := rfl
theorem ap_part {QO : Option Int → Hp → Prop} : tPart te σ H QO = te σ H fun x H1 => ∃ i, x = .int i ∧ QO (some i) H1 := rfl
theorem ap_noPart {QO : Option Int → Hp → Prop} : tNoPart σ H QO = QO none H := rfl
theorem ap_ixLI : rIxLI x y H Q = ∃ p i, x = .ref p ∧ y = .int i ∧ ∃ ns, H p = some (LI ns) ∧ 0 ≤ i ∧ i < (ns.length : Int) ∧ Q (.int (gi ns i)) H := rfl
theorem ap_ixTI : rIxTI x y H Q = ∃ p i, x = .ref p ∧ y = .int i ∧ ∃ ns, H p = some (TI ns) ∧ 0 ≤ i ∧ i < (ns.length : Int) ∧ Q (.int (gi ns i)) H := rfl
theorem ap_ixLV : rIxLV x y H Q = ∃ p i, x = .ref p ∧ y = .int i ∧ ∃ xs, H p = some (.lst xs) ∧ ∃ v, atI xs i = some v ∧ Q v H := rfl
theorem ap_ixTV : rIxTV x y H Q = ∃ p i, x = .ref p ∧ y = .int i ∧ ∃ xs, H p = some (.tup xs) ∧ ∃ v, atI xs i = some v ∧ Q v H := rfl
theorem ap_ixL : rIxL K x y H Q = ∃ p xs i v, x = .ref p ∧ y = .int i ∧ SqL K H p xs ∧ atI xs i = some v ∧ Q v H := rfl
theorem ap_len {vs : List V} : rLen vs H Q = ∃ p, vs = [.ref p] ∧ ∃ xs, (H p = some (.lst xs) ∨ H p = some (.tup xs)) ∧ Q (.int (xs.length : Nat)) H := rfl
theorem ap_setLI {o : V} {QH : Hp → Prop} : rSetLI o x v H QH = ∃ p i n, o = .ref p ∧ x = .int i ∧ v = .int n ∧ ∃ ns, H p = some (LI ns) ∧ 0 ≤ i ∧ i < (ns.length : Int) ∧ QH (upd H p (LI (ns.set i.toNat n))) := rfl
theorem ap_setLV {o : V} {QH : Hp → Prop} : rSetLV o x v H QH = ∃ p i, o = .ref p ∧ x = .int i ∧ ∃ xs, H p = some (.lst xs) ∧ 0 ≤ i ∧ i < (xs.length : Int) ∧ QH (upd H p (.lst (xs.set i.toNat v))) := rfl
theorem ap_appI {vs : List V} : rAppI x vs H Q = ∃ l n, x = .ref l ∧ vs = [.int n] ∧ ∃ ns, H l = some (LI ns) ∧ ns.length < 1000000 ∧ Q .non (upd H l (LI (ns ++ [n]))) := rfl
theorem ap_appV {vs : List V} : rAppV x vs H Q = ∃ l v, x = .ref l ∧ vs = [v] ∧ ∃ xs, H l = some (.lst xs) ∧ xs.length < 1000000 ∧ Q .non (upd H l (.lst (xs ++ [v]))) := rfl
theorem ap_tupL {vs : List V} : rTupL vs H Q = ∃ p, vs = [.ref p] ∧ ∃ xs, H p = some (.lst xs) ∧ ∀ l, H l = none → Q (.ref l) (upd H l (.tup xs)) := rfl
theorem ap_listS {vs : List V} : rListS vs H Q = ∃ p, vs = [.ref p] ∧ ∃ xs, (H p = some (.lst xs) ∨ H p = some (.tup xs)) ∧ ∀ l, H l = none → Q (.ref l) (upd H l (.lst xs)) := rfl
theorem ap_sumLI {vs : List V} : rSumLI vs H Q = ∃ p, vs = [.ref p] ∧ ∃ ns, H p = some (LI ns) ∧ Q (.int ns.sum) H := rfl
theorem ap_sumTI {vs : List V} : rSumTI vs H Q = ∃ p, vs = [.ref p] ∧ ∃ ns, H p = some (TI ns) ∧ Q (.int ns.sum) H := rfl
theorem ap_repLI : rRepLI x y H Q = ∃ l k, x = .ref l ∧ y = .int k ∧ ∃ n, H l = some (LI [n]) ∧ k < 1000000 ∧ -1000000 < k ∧ ∀ p, H p = none → Q (.ref p) (upd H p (LI (List.replicate k.toNat n))) := rfl
theorem ap_intI {vs : List V} : rIntI vs H Q = ∃ i, vs = [.int i] ∧ Q (.int i) H := rfl
theorem ap_intB {vs : List V} : rIntB vs H Q = ∃ k, vs = [.bl k] ∧ Q (.int (if k then 1 else 0)) H := rfl
theorem ap_eqTI : rEqTI x y H Q = ∃ p q, x = .ref p ∧ y = .ref q ∧ ∃ ns, H p = some (TI ns) ∧ ∃ ms, H q = some (TI ms) ∧ Q (.bl (decide (ns = ms))) H := rfl
theorem ap_neTI : rNeTI x y H Q = ∃ p q, x = .ref p ∧ y = .ref q ∧ ∃ ns, H p = some (TI ns) ∧ ∃ ms, H q = some (TI ms) ∧ Q (.bl (!decide (ns = ms))) H := rfl
theorem ap_eqLI : rEqLI x y H Q = ∃ p q, x = .ref p ∧ y = .ref q ∧ ∃ ns, H p = some (LI ns) ∧ ∃ ms, H q = some (LI ms) ∧ Q (.bl (decide (ns = ms))) H := rfl
theorem ap_neLI : rNeLI x y H Q = ∃ p q, x = .ref p ∧ y = .ref q ∧ ∃ ns, H p = some (LI ns) ∧ ∃ ms, H q = some (LI ms) ∧ Q (.bl (!decide (ns = ms))) H := rfl
theorem ap_isi {vs : List V} : rIsiS vs H Q = ∃ x T, vs = [x, .ty T] ∧ ∃ t, tyOf x H = some t ∧ ∃ b, kitB t T = some b ∧ Q (.bl b) H := rfl
/-- a loop over what has begun -/
def tLoop (g : TG) (tb : TS) (D : Ends) (σ : L2.St) (J : It) (H1 : Hp) : Prop := ∃ W : Nat → Nat → L2.St → Hp → Prop, (∃ m, W 0 m σ H1) ∧ ∀ i m σ H, W i m σ H →
  (J.stop i H ∧ D.nx σ H) ∨ (J.go i H ∧ ∃ N : L2.St → Hp → Prop, (∀ σ' H', N σ' H' → ∃ m', m' < m ∧ W (i + 1) m' σ' H') ∧ ∀ x H', J.yld i H x H' → g x σ H' fun σ2 H2 => tb { D with nx := N, ct := N, bk := D.nx } σ2 H2)
theorem ap_for {wi : L2.TI} : tFor wi g tu D σ H = wi σ H (tLoop g tu D σ) := rfl
theorem ap_rng1 {ta : TA} {R : It → Hp → Prop} : iRng1 ta σ H R = ta σ H fun vs H1 => ∃ j : Int, vs = [.int j] ∧ -(2 ^ 62) ≤ j ∧ j < 2 ^ 62 ∧ R (Itr 0 j.toNat) H1 := rfl
theorem ap_rng2 {ta : TA} {R : It → Hp → Prop} : iRng2 ta σ H R = ta σ H fun vs H1 => ∃ i j : Int, vs = [.int i, .int j] ∧ (-(2 ^ 62) ≤ i ∧ i < 2 ^ 62 ∧ -(2 ^ 62) ≤ j ∧ j < 2 ^ 62) ∧ R (Itr i (j - i).toNat) H1 := rfl
theorem ap_iList {R : It → Hp → Prop} : iList K te σ H R = te σ H fun x H1 => ∃ a, x = .ref a ∧ (∃ xs, SqL K H1 a xs) ∧ R (Itl K a) H1 := rfl
theorem ap_iTup {R : It → Hp → Prop} : iTup K te σ H R = te σ H fun x H1 => ∃ a, x = .ref a ∧ (∃ xs, SqT K H1 a xs) ∧ R (Itt K a) H1 := rfl
/-- a comprehension over what has begun -/
def tLcIn (g : TG) (tt : TT) (te : TE) (vs : List Nat) (σ : L2.St) (Q : VK) (J : It) (H1 : Hp) : Prop := ∀ D, H1 D = none → ∃ W : Nat → Nat → Hp → Prop, (∃ m, W 0 m (upd H1 D (.lst []))) ∧ ∀ i m H, W i m H →
  (J.stop i H ∧ Q (.ref D) H) ∨ (J.go i H ∧ ∃ Nx : Hp → Prop, (∀ H', Nx H' → ∃ m', m' < m ∧ W (i + 1) m' H') ∧ ∀ x H', J.yld i H x H' → g x (wipe σ vs) H' fun σ2 H2 => wipe σ2 vs = wipe σ vs ∧ tt σ2 H2 fun b H3 =>
    if b = true then te σ2 H3 fun y H4 => ∃ acc, H4 D = some (.lst acc) ∧ acc.length < sizeLine ∧ Nx (upd H4 D (.lst (acc ++ [y]))) else Nx H3)
theorem ap_lc {wi : L2.TI} {vs : List Nat} : tLc wi g t te vs σ H Q = wi σ H (tLcIn g t te vs σ Q) := rfl
theorem ap_yes : tYes σ H QT = QT true H := rfl
theorem tyV_l {p : Addr} (h : ∃ xs, H p = some (.lst xs)) : tyV K "list" (.ref p) H = True := by
  obtain ⟨xs, h⟩ := h
  exact eq_true (.inl ⟨rfl, xs, .inl (.inl h)⟩)
theorem sqL_of {p : Addr} {xs : List V} (h : H p = some (.lst xs)) : SqL K H p xs := .inl (.inl h)
theorem sqT_of {p : Addr} {xs : List V} (h : H p = some (.tup xs)) : SqT K H p xs := .inl (.inl h)
end
/-! ### loops -/
section
variable {K : PySem.W.Frag} {g : TG} {tb : TS} {D : Ends} {σ : L2.St} {H : Hp} {j : Nat} {te : TE} {vs : List Nat} {Q : VK} {tt : TT}
theorem loop_range {lo : Int} {n : Nat} (Pv : Nat → L2.St → Hp → Prop) (h0 : Pv 0 σ H)
    (hs : ∀ (i : Nat) σ H, i < n → Pv i σ H → tb { D with nx := Pv (i + 1), ct := Pv (i + 1), bk := D.nx } (σ.set j (some (.int (lo + i)))) H) (hd : ∀ σ H, Pv n σ H → D.nx σ H) :
    tLoop (gName j) tb D σ (Itr lo n) H := for_range (g := gName j) Pv h0 hs hd
theorem same_upd {H : Hp} {p : Addr} {o : HO} (h : H p = none) : Same H (upd H p o) := fun b x e => by
  rw [upd_ne (ne_of_none e h)]
  exact e
theorem same_mut {H H' : Hp} {p : Addr} {o : HO} (e : Same H H') (h : H p = none) : Same H (upd H' p o) := fun b x eb => by
  rw [upd_ne (ne_of_none eb h)]
  exact e b x eb
/-- a comprehension whose turns leave what H knows, and give ints -/
theorem lc_rangeI {lo : Int} {n : Nat} (f : Nat → Int) (hn : n < 1000000) (hw : ∀ x, wipe ((wipe σ vs).set j (some x)) vs = wipe σ vs)
    (he : ∀ (i : Nat) H', i < n → Same H H' → ∀ Q' : VK, (∀ H'', Same H' H'' → Q' (.int (f i)) H'') → te ((wipe σ vs).set j (some (.int (lo + i)))) H' Q')
    (hq : ∀ p H', H p = none → Same H H' → H' p = some (LI ((List.range n).map f)) → Q (.ref p) H') :
    tLcIn (gName j) tYes te vs σ Q (Itr lo n) H := fun Dl hD => by
  refine lc_range (g := gName j) (lo := lo) (n := n) (fun i H' => Same H H' ∧ H' Dl = some (LI ((List.range i).map f))) ⟨same_upd hD, ?_⟩ (fun i H' hi hP => ?_) (fun H' hP => hq Dl H' hD hP.1 hP.2)
  · rw [upd_same]
    rfl
  · obtain ⟨sm, ed⟩ := hP
    refine ⟨hw _, he i H' hi sm _ fun H'' sm' => ⟨_, sm' _ _ ed, sz (by simp; omega), same_mut (sm.trans sm') hD, ?_⟩⟩
    rw [upd_same, List.range_succ, List.map_append]
    simp
theorem lc_listI {a : Addr} {xs : List V} (f : Nat → Int) (hx : H a = some (.lst xs)) (hn : xs.length < 1000000) (hw : ∀ x, wipe ((wipe σ vs).set j (some x)) vs = wipe σ vs)
    (he : ∀ (i : Nat) x H', xs[i]? = some x → Same H H' → ∀ Q' : VK, (∀ H'', Same H' H'' → Q' (.int (f i)) H'') → te ((wipe σ vs).set j (some x)) H' Q')
    (hq : ∀ p H', H p = none → Same H H' → H' p = some (LI ((List.range xs.length).map f)) → Q (.ref p) H') :
    tLcIn (gName j) tYes te vs σ Q (Itl K a) H := fun Dl hD => by
  refine lc_list (g := gName j) (xs := xs) (fun i H' => Same H H' ∧ H' Dl = some (LI ((List.range i).map f))) ⟨same_upd hD, ?_⟩ (fun i H' hi hP => sqL_of (hP.1 _ _ hx)) (fun i x H' hi hP => ?_) (fun H' hP => hq Dl H' hD hP.1 hP.2)
  · rw [upd_same]
    rfl
  · obtain ⟨sm, ed⟩ := hP
    have hl := (List.getElem?_eq_some_iff.mp hi).1
    refine ⟨hw _, he i x H' hi sm _ fun H'' sm' => ⟨_, sm' _ _ ed, sz (by simp; omega), same_mut (sm.trans sm') hD, ?_⟩⟩
    rw [upd_same, List.range_succ, List.map_append]
    simp
theorem iteC {c A B : Prop} {inst : Decidable c} (h1 : c → A) (h2 : ¬c → B) : @ite Prop c inst A B := by
  by_cases h : c
  · rw [if_pos h]
    exact h1 h
  · rw [if_neg h]
    exact h2 h
theorem gi_c0 {a : Int} {l : List Int} : gi (a :: l) 0 = a := by
  unfold gi
  rfl
theorem gi_c1 {a b : Int} {l : List Int} : gi (a :: b :: l) 1 = b := by
  unfold gi
  rfl
theorem gi_c2 {a b c : Int} {l : List Int} : gi (a :: b :: c :: l) 2 = c := by
  unfold gi
  rfl
theorem gi_c3 {a b c d : Int} {l : List Int} : gi (a :: b :: c :: d :: l) 3 = d := by
  unfold gi
  rfl
theorem own_cons {p : Str × Nat} {l : List (Str × Nat)} : List.map (fun x : Str × Nat => x.snd) (p :: l) = p.snd :: List.map (fun x : Str × Nat => x.snd) l := rfl
theorem own_nil : List.map (fun x : Str × Nat => x.snd) [] = [] := rfl
theorem le1 {a : Int} {ns : List Int} : ([V.int a] = List.map V.int ns) ↔ [a] = ns := map_int_inj (xs := [a])
theorem le2 {a b : Int} {ns : List Int} : ([V.int a, V.int b] = List.map V.int ns) ↔ [a, b] = ns := map_int_inj (xs := [a, b])
theorem le3 {a b c : Int} {ns : List Int} : ([V.int a, V.int b, V.int c] = List.map V.int ns) ↔ [a, b, c] = ns := map_int_inj (xs := [a, b, c])
theorem le4 {a b c d : Int} {ns : List Int} : ([V.int a, V.int b, V.int c, V.int d] = List.map V.int ns) ↔ [a, b, c, d] = ns := map_int_inj (xs := [a, b, c, d])
theorem me_cons {a : Int} {l : List Int} {v : V} {r : List V} : (List.map V.int (a :: l) = v :: r) ↔ (V.int a = v ∧ List.map V.int l = r) := by
  rw [List.map_cons, List.cons.injEq]
theorem me_nil {r : List V} : (List.map V.int ([] : List Int) = r) ↔ [] = r := Iff.rfl
theorem wipe_nil : wipe σ [] = σ := rfl
theorem wipe_cons {v : Nat} : wipe σ (v :: vs) = (wipe σ vs).set v none := rfl
end
/-! the written part named, for what stands in a comprehension within another one -/
end Pr
namespace Pr
open PySem PySem.Spec PyProof.Rows L2
/-! ### ints of any sign and some hundred digits -/
def CFd (_ j : Int) : Prop := j ≠ 0 ∧ -((2 ^ 250) ^ 16) < j ∧ j < (2 ^ 250) ^ 16
def CMu (i j : Int) : Prop := (-((2 ^ 250) ^ 16) < i ∧ i < (2 ^ 250) ^ 16) ∧ -((2 ^ 250) ^ 16) < j ∧ j < (2 ^ 250) ^ 16
theorem bigE : ((2 : Int) ^ 250) ^ 16 = ((2 ^ 4000 : Nat) : Int) := by
  rw [← Int.pow_mul]
  norm_cast
theorem big_abs {i : Int} (h : -(2 ^ 250) ^ 16 < i ∧ i < (2 ^ 250) ^ 16) : i.natAbs < 2 ^ 4000 := by
  have e := bigE
  generalize (2 ^ 4000 : Nat) = B at e ⊢
  rw [e] at h
  omega
section
variable {X : Cx}
theorem op_fdivG : OpR X (binaryOp .FloorDiv) (rI CFd fun i j => .int (i.fdiv j)) := opI fun i j _ _ _ _ _ hc q => by
  have h1 : j ≠ 0 := hc.1
  have h2 : j.natAbs.log2 < 9000 := Nat.lt_of_lt_of_le (PySem.Flt.log2_lt_of (by decide) (big_abs hc.2)) (by decide)
  exact floordiv_int h1 q (.inl (PyProof.noPylong_of_log2 h2))
theorem op_mulB : OpR X (binaryOp .Mult) (rI CMu fun i j => .int (i * j)) := opImp op_mulW fun x y H Q ⟨i, j, ex, ey, c, q⟩ =>
  ⟨i, j, ex, ey, wide_mul (big_abs c.1) (big_abs c.2) (by decide) (by decide) (by decide), q⟩
def CDp (_ j : Int) : Prop := 0 < j ∧ j < (2 ^ 250) ^ 16
theorem op_fdivP : OpR X (binaryOp .FloorDiv) (rI CDp fun i j => .int (i / j)) := opImp op_fdivW fun x y H Q ⟨i, j, ex, ey, c, q⟩ => by
  refine ⟨i, j, ex, ey, wide_div c.1 (big_abs (i := j) ⟨?_, c.2⟩) (by decide) (by decide), q⟩
  have := c.1
  have e := bigE
  generalize (2 ^ 4000 : Nat) = B at e
  rw [e]
  omega
/-- isqrt -/
def rIsqrt : List V → Hp → VK → Prop := fun vs H Q => ∃ i, vs = [.int i] ∧ 0 ≤ i ∧ i < (2 ^ 250) ^ 16 ∧ Q (.int ((Float64.isqrt i.toNat : Nat) : Int)) H
end
theorem ty_cases {x : V} {H : Hp} {t : String} (h : tyOf x H = some t) : x = .non ∨ (∃ b, x = .bl b) ∨ (∃ i, x = .int i) ∨ (∃ s, x = .str s) ∨ (∃ a, x = .ref a ∧ (t = "list" ∨ t = "tuple" ∨ t = "dict")) := by
  cases x with
  | non => exact .inl rfl
  | bl b => exact .inr (.inl ⟨b, rfl⟩)
  | int i => exact .inr (.inr (.inl ⟨i, rfl⟩))
  | str s => exact .inr (.inr (.inr (.inl ⟨s, rfl⟩)))
  | ref a =>
    refine .inr (.inr (.inr (.inr ⟨a, rfl, ?_⟩)))
    have e : tyOf (.ref a) H = (match H a with
      | some (.lst _) => some "list"
      | some (.tup _) => some "tuple"
      | some (.dK _) => some "dict"
      | some (.dT _) => some "dict"
      | _ => none) := rfl
    rw [e] at h
    split at h
    · exact .inl (Option.some.inj h).symm
    · exact .inr (.inl (Option.some.inj h).symm)
    · exact .inr (.inr (Option.some.inj h).symm)
    · exact .inr (.inr (Option.some.inj h).symm)
    · cases h
  | byt b => cases h
  | flt b => cases h
  | ty n => cases h
theorem ty_non (H : Hp) : tyOf .non H = some "NoneType" := rfl
theorem ty_bl (b : Bool) (H : Hp) : tyOf (.bl b) H = some "bool" := rfl
theorem ty_int (i : Int) (H : Hp) : tyOf (.int i) H = some "int" := rfl
theorem ty_str (s : Str) (H : Hp) : tyOf (.str s) H = some "str" := rfl
theorem ty_tup {a : Addr} {H : Hp} {xs : List V} (h : H a = some (.tup xs)) : tyOf (.ref a) H = some "tuple" := by
  show (match H a with
      | some (.lst _) => some "list"
      | some (.tup _) => some "tuple"
      | some (.dK _) => some "dict"
      | some (.dT _) => some "dict"
      | _ => none) = _
  rw [h]
/-! ### unpacking, texts -/
section
variable {X : Cx}
def gTupH (n : Nat) (t : TGs) : TG := fun v σ H Q => ∃ a, v = .ref a ∧ ∃ xs, H a = some (.tup xs) ∧ xs.length = n ∧ t xs σ H Q
theorem pg_tupH {es : List Expr} {t : TGs} {k n : Nat} {pos : Pos} (hc : X.calm = true) (h : PGs X es t)
    (hn : (assignEach es X.env).length = n := by rfl) (hst : (assignEach es X.env).findIdx? (·.1) = none := by rfl) : PG X (.Tuple es k pos) (gTupH n t) := by
  have g := pg_tup (k := k) (pos := pos) hc h hn hst
  exact ⟨fun pins s σ H v u Q I r q => g.run pins s σ H v u Q I r (by
    obtain ⟨a, e, xs, hx, hl, k⟩ := q
    exact ⟨a, xs, e, .inl (.inl hx), hl, k⟩)⟩
variable {K : PySem.W.Frag} {σ : L2.St} {H : Hp} {Q : VK} {te : TE} {ts : List TE}
theorem ap_cut {D : Ends} {tu tw : TS} : Evl.tCut tu tw D σ H = ∃ Mid : L2.St → Hp → Prop, tu { D with nx := Mid } σ H ∧ ∀ σ' H', Mid σ' H' → tw D σ' H' := rfl
theorem ap_gTupH {n : Nat} {t : TGs} {v : V} {QN : L2.St → Hp → Prop} : gTupH n t v σ H QN = ∃ a, v = .ref a ∧ ∃ xs, H a = some (.tup xs) ∧ xs.length = n ∧ t xs σ H QN := rfl
theorem ap_fmt : tFmt te σ H Q = te σ H fun x H1 => (∃ y : Str, x = .str y ∧ y.length ≤ sizeLine ∧ Q (.str y) H1) ∨ ∃ i : Int, x = .int i ∧ i.natAbs.log2 < 1920 ∧ Q (.str (toString i)) H1 := rfl
theorem ap_jsn {acc : Str} {QS : Str → Hp → Prop} : tJs [] acc σ H QS = QS acc H := rfl
theorem ap_jsc {acc : Str} {QS : Str → Hp → Prop} : tJs (te :: ts) acc σ H QS = te σ H fun x H1 => ∃ y : Str, x = .str y ∧ (acc ++ y).length ≤ sizeLine ∧ tJs ts (acc ++ y) σ H1 QS := rfl
theorem ap_gcd {vs : List V} : rGcd vs H Q = ∃ a b : Int, vs = [.int a, .int b] ∧ Q (.int ((Nat.gcd a.natAbs b.natAbs : Nat) : Int)) H := rfl
theorem ap_isqrt {vs : List V} : rIsqrt vs H Q = ∃ i, vs = [.int i] ∧ 0 ≤ i ∧ i < (2 ^ 250) ^ 16 ∧ Q (.int ((Float64.isqrt i.toNat : Nat) : Int)) H := rfl
end
end Pr
/-! enumerate over a tuple -/
namespace Pr
open PySem PySem.Spec PyProof.Rows L2
open Sem (wp)
theorem en_new {u : Value} {ob : Obj} {Z : Heap → Prop} (B : Begins u ob Z) :
    Meets (Builtin.«enumerate.__new__» ⟨[.type "enumerate", u], []⟩) (fun _ R z => Z z.heap ∧
      R (.ok (.ret (.ref (z.heap.push ob).objs.size))) { z with heap := (z.heap.push ob).push ⟨.type "enumerate", none, .fields #[.none, .bool false, .ref z.heap.objs.size, rawInt 0, .none, .none], #[]⟩ }) := by
  refine .of_wp fun pg wd B1 R z hz => ?_
  rcases z with ⟨hp, gs, dr, tk, out⟩
  rcases hz with ⟨hb, hz⟩
  have sub1 := sub_enumerate
  have go : ∀ {B' : Around} {E' Q' : Value → Shared → Prop}, Q' (.ref hp.objs.size) ⟨hp.push ob, gs, dr, tk, out⟩ → wpAny (model pg wd) B' (pyIter u) Q' E' ⟨hp, gs, dr, tk, out⟩ := fun y => B.iter pg wd _ _ _ _ hb y
  wp_walk using go
  refine wpAny_stack_any fun stk => wpAny_pure ?_
  split
  · rename_i c' _ _ _ _ _
    rcases hcc : c' == Value.type "enumerate" with _ | _ <;> (simp only [hcc]; wp_walk using go; exact ⟨_, rfl, hz⟩)
  · wp_walk using go; exact ⟨_, rfl, hz⟩
section
variable {pg : Program} {wd : World} {Ar : Around} {E : Value → Shared → Prop} {s : Shared}
theorem en_call {u : Value} {ob : Obj} {Z : Heap → Prop} {Q : Value → Shared → Prop} (B : Begins u ob Z) (hb : Z s.heap)
    (k : ∀ g : Heap, IsEnum g (s.heap.objs.size + 1) s.heap.objs.size 0 .none → g.get? s.heap.objs.size = some ob → g.objs.size = s.heap.objs.size + 2 → (∀ c x, s.heap.get? c = some x → g.get? c = some x) → Q (.ref (s.heap.objs.size + 1)) { s with heap := g }) :
    wpAny (model pg wd) Ar (call (.type "enumerate") [u]) Q E s := by
  have n1 : (s.heap.push ob).objs.size = s.heap.objs.size + 1 := Heap.size_push ..
  have at1 : ((s.heap.push ob).push ⟨.type "enumerate", none, .fields #[.none, .bool false, .ref s.heap.objs.size, rawInt 0, .none, .none], #[]⟩).get? (s.heap.objs.size + 1) = some ⟨.type "enumerate", none, .fields #[.none, .bool false, .ref s.heap.objs.size, rawInt 0, .none, .none], #[]⟩ := by
    rw [← n1]
    exact Heap.get?_push_size _ rfl
  refine callType_new F.called_enumerate (by decide) (F.typeCall_enumerate_1 _) (F.newCall_enumerate_1 _) (fun y => F.args_object_init_2 y _) F.entry_enumerate_new (en_new B) ⟨hb, ?_⟩
  show _ ∧ _
  rw [n1]
  refine ⟨⟨_, at1, rfl⟩, k _ at1 (Heap.get?_push_of_some _ (Heap.get?_push_size _ B.free)) ?_ fun c x ex => Heap.get?_push_of_some _ (Heap.get?_push_of_some _ ex)⟩
  rw [Heap.size_push, n1]
end
/-- the turns of enumerate over the tuple at a -/
def ItT (K : PySem.W.Frag) (a : Addr) : It where
  go := fun i H => ∃ xs x, SqT K H a xs ∧ xs[i]? = some x
  yld := fun i H v H' => ∃ t x, v = .ref t ∧ H t = none ∧ H' = upd H t (.tup [.int (i : Nat), x]) ∧ ∀ xs, SqT K H a xs → xs[i]? = some x
  stop := fun i H => ∃ xs : List V, SqT K H a xs ∧ xs.length ≤ i
theorem turn_en {pg : Program} {wd : World} {K : PySem.W.Frag} {elts : List Expr} {n : Nat} {tp : Pos} (a e it : Addr) :
    Turn pg wd K (.Tuple elts n tp) (ItT K a) [e, it] e (fun i h => (∃ y, IsEnum h e it ((i : Nat) : Int) y) ∧ h.IsTupleIter it a i ∧ e ≠ it) where
  mem := by simp
  obj := fun i h z b hb => by
    rcases z with ⟨⟨y, q1⟩, ⟨o, q2, _, q3⟩, _⟩
    rcases (show b = e ∨ b = it by simpa using hb) with rfl | rfl
    · exact ⟨_, q1, fun v c => nomatch c⟩
    · exact ⟨o, q2, fun v c => by rw [q3] at c; cases c⟩
  keep := fun i h g z k => ⟨⟨_, k e (by simp) _ z.1.choose_spec⟩, z.2.1.at fun o q => k it (by simp) o q, z.2.2⟩
  item := by
    intro X e1 e2 e3 calm i pins s σ H Ex I fps z gg
    subst e1 e2 e3
    rcases z with ⟨⟨y, q1⟩, q2, ne⟩
    rcases gg with ⟨xs, x, sq, ex⟩
    obtain ⟨us, rv, tp1, _⟩ := I.tuple sq
    obtain ⟨u, eu, ru⟩ := rv.get ex
    have la : e < s.heap.objs.size := Heap.lt_size q1
    have lb : it < s.heap.objs.size := by obtain ⟨_, q, _⟩ := q2; exact Heap.lt_size q
    have ai : a ≠ it := fun c => by
      obtain ⟨o, p1, p2, _⟩ := q2
      obtain ⟨o', r1, r2, _⟩ := tp1
      rw [c, p1] at r1
      cases r1
      rw [p2] at r2
      exact absurd r2 (by decide)
    have ae : a ≠ e := fun c => by
      obtain ⟨o', r1, r2, _⟩ := tp1
      rw [c] at r1
      have := q1.symm.trans r1
      cases this
      simp at r2
    have D := Draws.tuple (prog := X.prog) (w := X.w) (A := X.A.in1) (I.ok.hd calm) it a ai us.toArray
    have li : i < us.toArray.size := by
      have := (List.getElem?_eq_some_iff.mp eu).1
      simpa using this
    refine wpAny_pyNext_enum_itemD D q1 ⟨q2, tp1⟩ li ne (by simp [ne, ae.symm]) fun x' g tk px out st2 tup gs keepg => ?_
    have ux : x' = u := by
      have h1 : us.toArray[i]? = some u := by simpa using eu
      exact Option.some.inj (px.symm.trans h1)
    subst ux
    obtain ⟨st2, -⟩ := st2
    refine ⟨_, rfl, wpAny_letOwnedTupleGo_enum (s := { s with heap := g, toks := tk + 1 }) out fun g2 q3 sb => ?_⟩
    obtain ⟨sb1, sb⟩ := sb
    have nw : g2.get? s.heap.objs.size = some { cls := .type "tuple", data := .seq #[.int i tk, x'] } := by rw [← tup]; exact sb _ (Nat.ne_of_gt la)
    have kp : ∀ c o, c ∉ [e, it] → s.heap.get? c = some o → g2.get? c = some o := fun c o nc ec => by
      have c1 : c ≠ e := fun z => nc (by simp [z])
      have c2 : c ≠ it := fun z => nc (by simp [z])
      exact (sb c c1).trans (keepg c o c1 c2 ec)
    have wr : ObjOk X.prog X.w (upd H s.heap.objs.size (.tup [.int (i : Nat), x])) g2 s.heap.objs.size (.tup [.int (i : Nat), x]) := ⟨by show 2 ≤ sizeLine; decide, [.int i tk, x'], .cons ⟨_, rfl⟩ (.cons ru .nil), ⟨_, nw, rfl, _, rfl⟩⟩
    have I2 := I.turnedNew (t' := tk + 1) (ch := [e, it]) kp fps (Nat.le_refl _) wr
    have fr := I.hok.fresh (Nat.le_refl s.heap.objs.size)
    have q4 : IsEnum g2 e it ((i + 1 : Nat) : Int) x' := by
      rw [show ((i + 1 : Nat) : Int) = (i : Int) + 1 by omega]
      exact q3
    refine ⟨.ref s.heap.objs.size, _, I2, rfl, ⟨_, x, rfl, fr, rfl, fun ys hy => (I.tuple_inj hy sq) ▸ ex⟩, ⟨⟨_, q4⟩, st2.at fun o q => (sb it ne.symm).trans q, ne⟩, fun b hb => ?_⟩
    have lt : b < s.heap.objs.size := by
      rcases (show b = e ∨ b = it by simpa using hb) with rfl | rfl
      · exact la
      · exact lb
    rw [upd_ne (Nat.ne_of_lt lt)]
    exact (fps b hb).1
  done := by
    intro X e1 e2 e3 calm i pins s σ H Ex I fps z gg
    subst e1 e2 e3
    rcases z with ⟨⟨y, q1⟩, q2, ne⟩
    rcases gg with ⟨xs, sq, ex⟩
    obtain ⟨us, rv, tp1, _⟩ := I.tuple sq
    have ai : a ≠ it := fun c => by
      obtain ⟨o, p1, p2, _⟩ := q2
      obtain ⟨o', r1, r2, _⟩ := tp1
      rw [c, p1] at r1
      cases r1
      rw [p2] at r2
      exact absurd r2 (by decide)
    obtain ⟨f0, f1, f2, f3, f4, f5⟩ := fps it (by simp)
    have ln := rv.length
    have D : Draws X.prog X.w X.A.in1 it [it, a] 0 (fun _ _ => False) (fun _ h => h.IsTupleIter it a i ∧ h.IsTuple a us.toArray) := {
      live := fun _ _ st => let ⟨o, ho, _⟩ := st.1; ⟨o, ho⟩
      frame := fun _ _ _ st k => ⟨st.1.at fun o q => k it (by simp) o q, st.2.at fun o q => k a (by simp) o q⟩
      item := fun j _ _ _ lt => absurd lt (Nat.not_lt_zero j)
      done := fun s Q E st k => wpAny_nextOf_tuple_end (I.ok.hd calm) st.1 st.2 (by simp; omega) k }
    exact wpAny_pyNext_enum_endD D q1 ⟨q2, tp1⟩ fun g k => ⟨rfl, I.turned (t' := s.toks) (fun b o nb q => k b o nb q) f0 f1 f3 f4 f5⟩
  self := fun B i s Q Ex z k => wpAny_pyIter_enum z.1.choose_spec k
end Pr
/-! loops and comprehensions over anything that gives n things -/
namespace Pr
open PySem PySem.Spec PyProof.Rows L2
/-- while F holds, J goes through n things, as Y tells -/
structure Gives (J : It) (n : Nat) (F : Hp → Prop) (Y : Nat → V → Hp → Hp → Prop) : Prop where
  go : ∀ i H, i < n → F H → J.go i H
  yld : ∀ i H v H', i < n → F H → J.yld i H v H' → Y i v H H'
  stop : ∀ H, F H → J.stop n H
section
variable {K : PySem.W.Frag} {g : TG} {tb : TS} {D : Ends} {σ : L2.St} {H : Hp} {j k : Nat} {te : TE} {tt : TT} {vs : List Nat} {Q : VK} {J : It} {n : Nat} {F : Hp → Prop} {Y : Nat → V → Hp → Hp → Prop}
theorem loop_gen (G : Gives J n F Y) (Pv : Nat → L2.St → Hp → Prop) (h0 : Pv 0 σ H) (hF : ∀ i σ H, i ≤ n → Pv i σ H → F H)
    (hs : ∀ i v σ H H', i < n → Pv i σ H → Y i v H H' → g v σ H' fun σ2 H2 => tb { D with nx := Pv (i + 1), ct := Pv (i + 1), bk := D.nx } σ2 H2) (hd : ∀ σ H, Pv n σ H → D.nx σ H) : tLoop g tb D σ J H := by
  refine ⟨fun i m σ H => m + i = n ∧ Pv i σ H, ⟨n, rfl, h0⟩, fun i m σ H ⟨e, p⟩ => ?_⟩
  have f := hF i σ H (by omega) p
  rcases m with _ | m
  · have e' : i = n := by omega
    subst e'
    exact .inl ⟨G.stop H f, hd σ H p⟩
  · exact .inr ⟨G.go i H (by omega) f, Pv (i + 1), fun σ' H' p' => ⟨m, Nat.lt_succ_self m, by omega, p'⟩, fun v H' y => hs i v σ H H' (by omega) p (G.yld i H v H' (by omega) f y)⟩
theorem lc_gen (G : Gives J n F Y) (Pv : Addr → Nat → Hp → Prop) (h0 : ∀ A, H A = none → Pv A 0 (upd H A (.lst []))) (hF : ∀ A i H, i ≤ n → Pv A i H → F H)
    (hs : ∀ A i v H1 H', H A = none → i < n → Pv A i H1 → Y i v H1 H' → g v (wipe σ vs) H' fun σ2 H2 => wipe σ2 vs = wipe σ vs ∧ tt σ2 H2 fun b H3 =>
      if b = true then te σ2 H3 fun y H4 => ∃ acc, H4 A = some (.lst acc) ∧ acc.length < sizeLine ∧ Pv A (i + 1) (upd H4 A (.lst (acc ++ [y]))) else Pv A (i + 1) H3)
    (hd : ∀ A H', H A = none → Pv A n H' → Q (.ref A) H') : tLcIn g tt te vs σ Q J H := by
  intro A hA
  refine ⟨fun i m H' => m + i = n ∧ Pv A i H', ⟨n, rfl, h0 A hA⟩, fun i m H1 ⟨e, p⟩ => ?_⟩
  have f := hF A i H1 (by omega) p
  rcases m with _ | m
  · have e' : i = n := by omega
    subst e'
    exact .inl ⟨G.stop H1 f, hd A H1 hA p⟩
  · exact .inr ⟨G.go i H1 (by omega) f, Pv A (i + 1), fun H' p' => ⟨m, Nat.lt_succ_self m, by omega, p'⟩, fun v H' y => hs A i v H1 H' hA (by omega) p (G.yld i H1 v H' (by omega) f y)⟩
/-- a new pair of two things, told by R -/
def PY (R : Nat → V → V → Prop) : Nat → V → Hp → Hp → Prop := fun i v H H' => ∃ t x y, v = .ref t ∧ H t = none ∧ H' = upd H t (.tup [x, y]) ∧ R i x y
theorem gives_en {a : Addr} {xs : List V} : Gives (ItT K a) xs.length (fun H => H a = some (.tup xs)) (PY fun i x y => x = .int (i : Nat) ∧ xs[i]? = some y) where
  go := fun i H lt f => ⟨xs, xs[i], sqT_of f, by simp [lt]⟩
  yld := fun i H v H' lt f y => by
    obtain ⟨t, x, e1, e2, e3, e4⟩ := y
    exact ⟨t, _, x, e1, e2, e3, rfl, e4 xs (sqT_of f)⟩
  stop := fun H f => ⟨xs, sqT_of f, Nat.le_refl _⟩
theorem gives_zipT {a b : Addr} {xs ys : List V} (hl : xs.length = ys.length) : Gives (RZ.ItzT K a b) xs.length (fun H => H a = some (.tup xs) ∧ H b = some (.tup ys)) (PY fun i x y => xs[i]? = some x ∧ ys[i]? = some y) where
  go := fun i H lt f => ⟨xs, ys, xs[i], ys[i]'(hl ▸ lt), sqT_of f.1, sqT_of f.2, by simp [lt], by simp [hl ▸ lt]⟩
  yld := fun i H v H' lt f y => by
    obtain ⟨t, x, y, e1, e2, e3, e4, e5⟩ := y
    exact ⟨t, x, y, e1, e2, e3, e4 xs (sqT_of f.1), e5 ys (sqT_of f.2)⟩
  stop := fun H f => ⟨xs, ys, sqT_of f.1, sqT_of f.2, .inl (Nat.le_refl _)⟩
theorem pair_in {R : Nat → V → V → Prop} {u v i : Nat} {x : V} {H1 H' : Hp} {QN : L2.St → Hp → Prop} (y : PY R i x H1 H') (k : ∀ t a b, H1 t = none → R i a b → QN ((σ.set u (some a)).set v (some b)) (upd H1 t (.tup [a, b]))) : gTupH 2 (gCons (gName u) (gCons (gName v) gNil)) x σ H' QN := by
  obtain ⟨t, a, b, rfl, nt, rfl, r⟩ := y
  exact ⟨t, rfl, [a, b], upd_same, rfl, a, [b], rfl, b, [], rfl, rfl, k t a b nt r⟩
theorem loop_pair {R : Nat → V → V → Prop} {u v : Nat} (G : Gives J n F (PY R)) (Pv : Nat → L2.St → Hp → Prop) (h0 : Pv 0 σ H) (hF : ∀ i σ H, i ≤ n → Pv i σ H → F H)
    (hs : ∀ i a b t σ H1, i < n → Pv i σ H1 → H1 t = none → R i a b → tb { D with nx := Pv (i + 1), ct := Pv (i + 1), bk := D.nx } ((σ.set u (some a)).set v (some b)) (upd H1 t (.tup [a, b]))) (hd : ∀ σ H, Pv n σ H → D.nx σ H) :
    tLoop (gTupH 2 (gCons (gName u) (gCons (gName v) gNil))) tb D σ J H :=
  loop_gen G Pv h0 hF (fun i x σ H1 H' hi p y => pair_in y fun t a b nt r => hs i a b t σ H1 hi p nt r) hd
/-- a comprehension over pairs that gives ints -/
theorem lc_pairI {R : Nat → V → V → Prop} {u v : Nat} (G : Gives J n F (PY R)) (f : Nat → Int) (hn : n < 1000000) (hF : ∀ H', Same H H' → F H')
    (hw : ∀ x y, wipe (((wipe σ vs).set u (some x)).set v (some y)) vs = wipe σ vs)
    (he : ∀ i a b H', i < n → R i a b → Same H H' → ∀ Q' : VK, (∀ H'', Same H' H'' → Q' (.int (f i)) H'') → te (((wipe σ vs).set u (some a)).set v (some b)) H' Q')
    (hq : ∀ p H', H p = none → Same H H' → H' p = some (LI ((List.range n).map f)) → Q (.ref p) H') :
    tLcIn (gTupH 2 (gCons (gName u) (gCons (gName v) gNil))) tYes te vs σ Q J H := by
  refine lc_gen G (fun A i H' => Same H H' ∧ H' A = some (LI ((List.range i).map f))) (fun A hA => ⟨same_upd hA, upd_same⟩) (fun A i H' _ p => hF H' p.1) (fun A i x H1 H' hA hi p y => ?_) (fun A H' hA p => hq A H' hA p.1 p.2)
  refine pair_in y fun t a b nt r => ⟨hw a b, ?_⟩
  have s1 := same_upd (o := HO.tup [a, b]) nt
  refine he i a b _ hi r (p.1.trans s1) _ fun H2 s2 => ⟨_, s2 _ _ (s1 _ _ p.2), sz (by simp; omega), same_mut ((p.1.trans s1).trans s2) hA, ?_⟩
  rw [upd_same, List.range_succ, List.map_append]
  simp
theorem lc_tupI {a : Addr} {xs : List V} (f : Nat → Int) (hx : H a = some (.tup xs)) (hn : xs.length < 1000000) (hw : ∀ x, wipe ((wipe σ vs).set j (some x)) vs = wipe σ vs)
    (he : ∀ (i : Nat) x H', xs[i]? = some x → Same H H' → ∀ Q' : VK, (∀ H'', Same H' H'' → Q' (.int (f i)) H'') → te ((wipe σ vs).set j (some x)) H' Q')
    (hq : ∀ p H', H p = none → Same H H' → H' p = some (LI ((List.range xs.length).map f)) → Q (.ref p) H') :
    tLcIn (gName j) tYes te vs σ Q (Itt K a) H := by
  refine lc_gen (n := xs.length) (F := fun H' => H' a = some (.tup xs)) (Y := fun i v H H' => H' = H ∧ xs[i]? = some v) ⟨fun i H lt f => ⟨xs, xs[i], sqT_of f, by simp [lt]⟩, fun i H v H' lt f y => ⟨y.1, y.2 xs (sqT_of f)⟩, fun H f => ⟨xs, sqT_of f, Nat.le_refl _⟩⟩
    (fun A i H' => Same H H' ∧ H' A = some (LI ((List.range i).map f))) (fun A hA => ⟨same_upd hA, upd_same⟩) (fun A i H' _ p => p.1 _ _ hx) (fun A i x H1 H' hA hi p y => ?_) (fun A H' hA p => hq A H' hA p.1 p.2)
  obtain ⟨rfl, y⟩ := y
  refine ⟨hw _, he i x _ y p.1 _ fun H2 s2 => ⟨_, s2 _ _ p.2, sz (by simp; omega), same_mut (p.1.trans s2) hA, ?_⟩⟩
  rw [upd_same, List.range_succ, List.map_append]
  simp
/-- the made list, told another way -/
theorem range_map {f : Nat → Int} {ns : List Int} (h : ∀ i n, ns[i]? = some n → f i = n) : (List.range ns.length).map f = ns := by
  refine List.ext_getElem? fun i => ?_
  rw [List.getElem?_map]
  by_cases hi : i < ns.length
  · rw [List.getElem?_range hi, List.getElem?_eq_getElem hi]
    exact congrArg some (h i _ (List.getElem?_eq_getElem hi))
  · rw [List.getElem?_eq_none (by simpa using hi), List.getElem?_eq_none (by omega)]
    rfl
theorem gives_list {a : Addr} {xs : List V} : Gives (Itl K a) xs.length (fun H => H a = some (.lst xs)) (fun i v H H' => H' = H ∧ xs[i]? = some v) where
  go := fun i H lt f => ⟨xs, xs[i], sqL_of f, by simp [lt]⟩
  yld := fun i H v H' lt f y => ⟨y.1, y.2 xs (sqL_of f)⟩
  stop := fun H f => ⟨xs, sqL_of f, Nat.le_refl _⟩
theorem gives_tup {a : Addr} {xs : List V} : Gives (Itt K a) xs.length (fun H => H a = some (.tup xs)) (fun i v H H' => H' = H ∧ xs[i]? = some v) where
  go := fun i H lt f => ⟨xs, xs[i], sqT_of f, by simp [lt]⟩
  yld := fun i H v H' lt f y => ⟨y.1, y.2 xs (sqT_of f)⟩
  stop := fun H f => ⟨xs, sqT_of f, Nat.le_refl _⟩
end
section
variable {X : Cx}
def iEnT (K : PySem.W.Frag) (ta : TA) : L2.TI := fun σ H R => ta σ H fun vs H1 => ∃ a xs, vs = [.ref a] ∧ SqT K H1 a xs ∧ R (ItT K a) H1
theorem pi_enT {e : Expr} {ta : TA} {p pos tpos : Pos} {elts : List Expr} {kk : Nat} (hg : Gl X "enumerate") (hm : X.mg "enumerate" = none) (ha : PA X [e] ta) (hs : starEach [e] X.env = [(false, eval e X.env)] := by rfl) :
    PI X (.Tuple elts kk tpos) (.Call (.Name "enumerate" p) [e] [] pos) (iEnT X.K ta) := by
  constructor
  intro pins s σ H R I h
  refine Call_ (ld_blt I hg hm boot_enumerate (PyProof.Rows.callWith_type1 (thn (ha.run pos pins s σ H _ I h) fun us z ⟨ws, H1, I1, rel, q⟩ => ?_) hs rfl))
  rcases q with ⟨a, xs, ex, sq, k⟩
  subst ex
  rcases rel with _ | ⟨r, rr⟩
  cases rr
  cases r
  obtain ⟨its, -, tp, -⟩ := I1.tuple sq
  refine en_call (begins_tuple a its.toArray) tp fun g e1 e2 e3 e4 => wpAny_pyIter_enum e1 ?_
  have I2 : Inv X pins σ H1 { z with heap := g } := I1.kept (t' := z.toks) e4
  refine ⟨z.heap.objs.size + 1, [z.heap.objs.size + 1, z.heap.objs.size], _, _, H1, rfl, I2, turn_en a _ z.heap.objs.size, ⟨⟨.none, e1⟩, ⟨_, e2, rfl, rfl⟩, Nat.succ_ne_self _⟩, fun b hb => ?_, k⟩
  have le : z.heap.objs.size ≤ b := by
    rcases (show b = z.heap.objs.size + 1 ∨ b = z.heap.objs.size by simpa using hb) with rfl | rfl
    · exact Nat.le_succ _
    · exact Nat.le_refl _
  exact I1.fpOk le (I1.hok.fresh le)
theorem ap_iEnT {K : PySem.W.Frag} {ta : TA} {σ : L2.St} {H : Hp} {R : It → Hp → Prop} : iEnT K ta σ H R = ta σ H fun vs H1 => ∃ a xs, vs = [.ref a] ∧ SqT K H1 a xs ∧ R (ItT K a) H1 := rfl
theorem ap_iEnL {K : PySem.W.Frag} {ta : TA} {σ : L2.St} {H : Hp} {R : It → Hp → Prop} : iEnum K ta σ H R = ta σ H fun vs H1 => ∃ a xs, vs = [.ref a] ∧ SqL K H1 a xs ∧ R (Ite K a) H1 := rfl
theorem ap_iZipA {K : PySem.W.Frag} {ta : TA} {σ : L2.St} {H : Hp} {R : It → Hp → Prop} : RZ.iZipA K ta σ H R = ta σ H fun vs H1 => ∃ a b xs ys, vs = [.ref a, .ref b] ∧ ((SqL K H1 a xs ∧ SqL K H1 b ys ∧ R (Itz K a b) H1) ∨ (SqT K H1 a xs ∧ SqT K H1 b ys ∧ R (RZ.ItzT K a b) H1)) := rfl
theorem ap_all {K : PySem.W.Frag} {vs : List V} {H : Hp} {Q : VK} : rAll K vs H Q = ∃ (a : Addr) (bs : List Bool), vs = [V.ref a] ∧ SqL K H a (bs.map V.bl) ∧ Q (.bl (bs.all id)) H := rfl
end
section
variable {K : PySem.W.Frag} {g : TG} {D : Ends} {σ : L2.St} {H : Hp} {j : Nat} {te : TE} {vs : List Nat} {Q : VK} {tt : TT}
theorem lc_tupV {a : Addr} {xs : List V} (f : Nat → V) (hx : H a = some (.tup xs)) (hn : xs.length < 1000000) (hw : ∀ x, wipe ((wipe σ vs).set j (some x)) vs = wipe σ vs)
    (he : ∀ (i : Nat) x H', xs[i]? = some x → Same H H' → ∀ Q' : VK, (∀ H'', Same H' H'' → Q' (f i) H'') → te ((wipe σ vs).set j (some x)) H' Q')
    (hq : ∀ p H', H p = none → Same H H' → H' p = some (.lst ((List.range xs.length).map f)) → Q (.ref p) H') :
    tLcIn (gName j) tYes te vs σ Q (Itt K a) H := fun Dl hD => by
  refine lc_tup (g := gName j) (xs := xs) (fun i H' => Same H H' ∧ H' Dl = some (.lst ((List.range i).map f))) ⟨same_upd hD, ?_⟩ (fun i H' hi hP => sqT_of (hP.1 _ _ hx)) (fun i x H' hi hP => ?_) (fun H' hP => hq Dl H' hD hP.1 hP.2)
  · rw [upd_same]
    rfl
  · obtain ⟨sm, ed⟩ := hP
    have hl := (List.getElem?_eq_some_iff.mp hi).1
    refine ⟨hw _, he i x H' hi sm _ fun H'' sm' => ⟨_, sm' _ _ ed, sz (by simp; omega), same_mut (sm.trans sm') hD, ?_⟩⟩
    rw [upd_same, List.range_succ, List.map_append]
    simp
end
section
variable {X : Cx}
/-- tuple(t) of a tuple -/
def rTupT : List V → Hp → VK → Prop := fun vs H Q => ∃ p, vs = [.ref p] ∧ ∃ xs, H p = some (.tup xs) ∧ Q (.ref p) H
theorem cr_tupT : CallR X (.type "tuple") rTupT := callImp call_tupleT fun vs H Q ⟨p, e, xs, h, q⟩ => ⟨p, xs, e, sqT_of h, q⟩
theorem ap_tupT {vs : List V} {H : Hp} {Q : VK} : rTupT vs H Q = ∃ p, vs = [.ref p] ∧ ∃ xs, H p = some (.tup xs) ∧ Q (.ref p) H := rfl
end
end Pr
/-! own operators of a class with plain instances -/
namespace Pr
open PySem PySem.Spec PyProof.Rows L2
section
variable {X : Cx} {CX : CXT} {k : Nat} {C g : Addr} {fd : FuncData} {ps : List Str} {sp : Sp} {E : XK} {op : Operator}
/-- x op y, both of the class at C -/
def rBin (C : Addr) (sp : Sp) (E : XK) : R2 := fun x y H Q => ∃ a dx fs b dy gs, x = .ref a ∧ y = .ref b ∧ H a = some (.ins C dx fs) ∧ H b = some (.ins C dy gs) ∧ sp [x, y] H Q E
theorem op_bin (first : PySem.W.selfFirst X.K C = true) (at_ : PySem.W.findIn X.K (.ref C) (PySem.dunder op.info.2) = some (some (.ref g))) (fn : PySem.W.isFn X.K (.ref g) = true)
    (F : FnOk X.prog X.w X.K X.mg X.base CX k g fd ps sp) (room : Room k X.A) (hb : Binds X.K fd ps []) (pass : Passes CX X E) : OpR X (binaryOp op) (rBin C sp E) := by
  intro pins s σ H x y v u Q I rx ry h
  obtain ⟨a, dx, fs, b, dy, gs, rfl, rfl, ea, eb, q⟩ := h
  cases (show v = Value.ref a from rx)
  cases (show u = Value.ref b from ry)
  obtain ⟨_, O, _⟩ := ins_get I.hok ea
  obtain ⟨_, J, _⟩ := O.look
  obtain ⟨_, O2, _⟩ := ins_get I.hok eb
  obtain ⟨_, J2, _⟩ := O2.look
  obtain ⟨m, fr⟩ := I.fr
  refine PySem.W.binop_K fr I.ok.mod.kin J J2.type first at_ fn (wpAny_mono (run_fn (vs := [.ref a, .ref b]) (us := [.ref a, .ref b]) F room hb .nil pass I (.cons rfl (.cons rfl .nil)) q) (fun z s' r => ?_) fun _ _ e => e)
  obtain ⟨z', H', I', rz, qz⟩ := r
  exact SlX.cmpback rz ⟨z', H', I', rz, qz⟩
/-- x op n, x of the class at C, n an int -/
def rBinI (C : Addr) (sp : Sp) (E : XK) : R2 := fun x y H Q => ∃ a dx fs n, x = .ref a ∧ y = .int n ∧ H a = some (.ins C dx fs) ∧ sp [x, y] H Q E
/-- -x -/
def rNeg (C : Addr) (sp : Sp) (E : XK) : V → Hp → VK → Prop := fun x H Q => ∃ a dx fs, x = .ref a ∧ H a = some (.ins C dx fs) ∧ sp [x] H Q E
/-- x == y, both of the class at C, by its own def; the other instance's class is C too -/
theorem op_eqOwn {cop : CmpOp} (hop : ∀ a b, compareOp cop a b = richCompare cop a b) (not : PySem.W.notFirst X.K C (.ref C) = true) (at_ : PySem.W.findIn X.K (.ref C) (cmpInfo cop).2.1 = some (some (.ref g))) (fn : PySem.W.isFn X.K (.ref g) = true)
    (F : FnOk X.prog X.w X.K X.mg X.base CX k g fd ps sp) (room : Room k X.A) (hb : Binds X.K fd ps []) (pass : Passes CX X E) : OpR X (compareOp cop) (rBin C sp E) := by
  intro pins s σ H x y v u Q I rx ry h
  obtain ⟨a, dx, fs, b, dy, gs, rfl, rfl, ea, eb, q⟩ := h
  cases (show v = Value.ref a from rx)
  cases (show u = Value.ref b from ry)
  obtain ⟨_, O, _⟩ := ins_get I.hok ea
  obtain ⟨_, J, _⟩ := O.look
  obtain ⟨_, O2, _⟩ := ins_get I.hok eb
  obtain ⟨_, J2, _⟩ := O2.look
  obtain ⟨m, fr⟩ := I.fr
  rw [hop]
  refine PySem.W.cmp_K (op := cop) (tb := .ref C) room.units0 fr I.ok.mod.kin J J2.type not at_ fn (wpAny_mono (run_fn (vs := [.ref a, .ref b]) (us := [.ref a, .ref b]) F room hb .nil pass I (.cons rfl (.cons rfl .nil)) q) (fun z s' r => ?_) fun _ _ e => e)
  obtain ⟨z', H', I', rz, qz⟩ := r
  exact SlX.cmpback rz ⟨z', H', I', rz, qz⟩
end
end Pr
/-! shifts, masks, bit lengths, comb, ranges with a step above 0 -/
namespace Pr
open PySem PySem.Spec PyProof.Rows L2
section
variable {X : Cx}
def rShl : R2 := fun x y H Q => ∃ (i : Int) (k : Nat), x = .int i ∧ y = .int (k : Int) ∧ CShl i (k : Int) ∧ Q (.int (i * 2 ^ k)) H
def rShr : R2 := fun x y H Q => ∃ (i : Int) (k : Nat), x = .int i ∧ y = .int (k : Int) ∧ Q (.int (i / 2 ^ k)) H
def rMask : R2 := fun x y H Q => ∃ (i : Int) (k : Nat), x = .int i ∧ y = .int (2 ^ k - 1) ∧ Q (.int (i % 2 ^ k)) H
def rComb : List V → Hp → VK → Prop := fun vs H Q => ∃ i j, vs = [.int i, .int j] ∧ 0 ≤ i ∧ 0 ≤ j ∧ i < 2 ^ 60 ∧ j ≤ 9000 ∧ Q (.int (PySem.W.mcComb i j)) H
end
section
variable {σ : L2.St} {H : Hp} {Q : VK} {x y : V} {R : It → Hp → Prop}
theorem ap_shl : rShl x y H Q = ∃ (i : Int) (k : Nat), x = .int i ∧ y = .int (k : Int) ∧ CShl i (k : Int) ∧ Q (.int (i * 2 ^ k)) H := rfl
theorem ap_shr : rShr x y H Q = ∃ (i : Int) (k : Nat), x = .int i ∧ y = .int (k : Int) ∧ Q (.int (i / 2 ^ k)) H := rfl
theorem ap_mask : rMask x y H Q = ∃ (i : Int) (k : Nat), x = .int i ∧ y = .int (2 ^ k - 1) ∧ Q (.int (i % 2 ^ k)) H := rfl
theorem ap_comb {vs : List V} : rComb vs H Q = ∃ i j, vs = [.int i, .int j] ∧ 0 ≤ i ∧ 0 ≤ j ∧ i < 2 ^ 60 ∧ j ≤ 9000 ∧ Q (.int (PySem.W.mcComb i j)) H := rfl
theorem ap_bits {to : TE} : tBits to σ H Q = to σ H fun x H1 => ∃ i, x = .int i ∧ Q (.int (Builtin.Int.intBits i : Nat)) H1 := rfl
theorem ap_rng3 {ta : TA} : iRng3 ta σ H R = ta σ H fun vs H1 => ∃ (i j c : Int) (n : Nat), vs = [.int i, .int j, .int c] ∧ RgC i j c n ∧ R (Itc i c n) H1 := rfl
end
end Pr
/-! plain instances with one attribute; != by an own __eq__; str and len by own defs; isinstance with an own class -/
namespace Pr
open PySem PySem.Spec PyProof.Rows L2
theorem pe_imp {X : Cx} {e : Expr} {t t' : TE} (h : PE X e t) (i : ∀ σ H Q, t' σ H Q → t σ H Q) : PE X e t' := ⟨fun pins s σ H Q I q => h.run pins s σ H Q I (i σ H Q q)⟩
/-- its attributes: one -/
def FE (f : Str) (t : Addr) : List (Str × V) := [(f, .ref t)]
theorem FE_inj {f : Str} {t u : Addr} : FE f t = FE f u ↔ t = u := by
  unfold FE
  simp
theorem FE_at {f : Str} {t : Addr} : (FE f t).lookup f = some (.ref t) := by
  unfold FE
  simp [List.lookup]
end Pr
namespace PySem.W
open PySem PySem.Spec PySem.Calls PyProof.Rows
section
variable {prog : Program} {w : World} {A : Around} {E : Value → Shared → Prop} {s : Shared} {K : Frag} {x C f : Addr} {ox : Obj} {od : Option Obj}
theorem own_bound_B {M : Model} {name : Str} {id : String} {args : List Value} {Q : Option Value → Shared → Prop} (X : K.In s.heap) (I : InstAt s.heap x ox C od) (hs : findIn K (.ref C) name = some (some (.builtin id)))
    (hb : ∀ self, bindSpecial (.builtin id) self = pure (.builtin id, [self])) (h : wpAny M A (call (.builtin id) (.ref x :: args)) (fun v => Q (some v)) E s) : wpAny M A (callSpecialIfBound? (.ref x) name args) Q E s := by
  simp only [callSpecialIfBound?, bindSpecialIfBound?]
  refine wpAny_holding (wpAny_bind (wpAny_bind (wpAny_bind (I.type.here ((looks_findIn X hs).here ?_)))))
  refine wpAny_bind (wpAny_askSetting (wpAny_ite ?_))
  have fin : wpAny M A (call (.builtin id) ([.ref x] ++ args) >>= fun v => pure (some v)) Q E s := wpAny_bind (wpAny_mono h (fun v s' h' => wpAny_pure h') fun _ _ h' => h')
  split
  · exact wpAny_bind ((Looks.of_pure (hb _)).here (wpAny_pure (by exact fin)))
  · exact wpAny_tryCatch (wpAny_bind ((Looks.of_pure (hb _)).here (wpAny_pure (by exact fin))))
open Builtin in
theorem own_ne_call {b : Value} {Q : Value → Shared → Prop} (hu : A.in1.units < cLine) (X : K.In s.heap) (I : InstAt s.heap x ox C od) (hm : mroIn K C (.type "object") = some true)
    (hs : findIn K (.ref C) "__eq__" = some (some (.ref f))) (hf : isFn K (.ref f) = true)
    (h : wpAny (model prog w) A.in1 (call (.ref f) [.ref x, b]) (fun v s' => ∃ r, v = .bool r ∧ Q (.bool (!r)) s') E s) : wpAny (model prog w) A (call (.builtin "object.__ne__") [.ref x, b]) Q E s := by
  refine wpAny_call (codeAny_call_builtin PySem.F.slot_object_ne.plain PySem.F.entry_object_ne (check_slot (i := "object.__ne__") (owner := "object") (n := "__ne__") (by decide +kernel) (by decide +kernel) (I.type.andThen (looks_mroIn X hm)) (PySem.F.args_object_ne_2 _ _) ?_))
  unfold Builtin.«object.__ne__»
  refine wpAny_bind (m := slotArgs "__ne__" 1 _) (wpAny_pure ?_)
  refine wpAny_bind (m := cRoomFor _ _) (wpAny_cRoomFor hu ?_)
  refine wpAny_bind (m := callSpecialIfBound? (.ref x) (Str.ofString "__eq__") _) (ifBound_K X I hs hf (wpAny_mono h (fun r s' hq => ?_) fun _ _ y => y))
  obtain ⟨r, rfl, hq⟩ := hq
  refine wpAny_bind (m := truthy (.bool r)) (wpAny_pure ?_)
  exact wpAny_pure hq
/-- x != b by the == of x's class -/
theorem own_ne {b tb : Value} {Q : Value → Shared → Prop} {h₀ : Heap} {L : Addr} {m : Str → Option Value} (hu : A.units < cLine) (hu1 : A.in1.units < cLine) (F : Fr h₀ L s.heap m) (X₀ : K.In h₀) (I : InstAt s.heap x ox C od) (hb : Looks (model prog w) s.heap (typeOf b) tb) (hn : notFirst K C tb = true)
    (hm : mroIn K C (.type "object") = some true) (hne : findIn K (.ref C) "__ne__" = some (some (.builtin "object.__ne__"))) (hs : findIn K (.ref C) "__eq__" = some (some (.ref f))) (hf : isFn K (.ref f) = true)
    (h : wpAny (model prog w) A.in1 (call (.ref f) [.ref x, b]) (fun v s' => ∃ r, v = .bool r ∧ Q (.bool (!r)) s') E s) : wpAny (model prog w) A (richCompare .NotEq (.ref x) b) Q E s := by
  have X := X₀.keeps F.keep
  have one : wpAny (model prog w) A (tryCompare (.ref x) (cmpInfo .NotEq).2.1 b) (fun r s' => ∃ v, r = some v ∧ Q v s') E s := by
    unfold tryCompare
    refine wpAny_bind (own_bound_B (name := (cmpInfo .NotEq).2.1) X I hne (fun self => PySem.F.slot_object_ne.bind self) (own_ne_call hu1 X I hm hs hf (wpAny_mono h (fun v s' hv => ?_) fun _ _ e => e)))
    obtain ⟨r, rfl, hq⟩ := hv
    exact ⟨r, rfl, wpAny_pure ⟨_, rfl, hq⟩⟩
  unfold richCompare
  simp only [oneThing_ref]
  refine wpAny_holding (wpAny_bind (wpAny_cRoomFor hu ?_))
  refine wpAny_bind (I.type.here (wpAny_bind (hb.here ?_)))
  split
  · rename_i q
    have e : subIn K tb (.ref C) = some false := by
      rcases Bool.or_eq_true_iff.mp hn with e | e
      · rw [beq_iff_eq.mp e] at q; simp at q
      · exact beq_iff_eq.mp e
    refine wpAny_bind ((looks_subIn X e).here ?_)
    simp only [Bool.false_eq_true, if_false]
    refine wpAny_bind (wpAny_mono one (fun r s' z => ?_) fun _ _ e => e)
    obtain ⟨v, rfl, hq⟩ := z
    exact wpAny_pure hq
  · refine wpAny_bind (wpAny_pure ?_)
    simp only [Bool.false_eq_true, if_false]
    refine wpAny_bind (wpAny_mono one (fun r s' z => ?_) fun _ _ e => e)
    obtain ⟨v, rfl, hq⟩ := z
    exact wpAny_pure hq
end
end PySem.W
namespace Pr
open PySem PySem.Spec PyProof.Rows L2
/-! isinstance with an own class -/
/-- what the class at C must have -/
structure IsC (K : PySem.W.Frag) (C : Addr) : Prop where
  cl : Cls K C
  ha : PySem.W.findIn K (.ref C) "__class__" = some (some (.builtin "object.__class__"))
  hn : PySem.W.specialIn K (.builtin "object.__class__") "__get__" = some (some (.builtin "getset_descriptor.__get__"))
  ht : PySem.W.takesIn K (.builtin "object.__class__") = some true
  hm : PySem.W.mroIn K C (.type "object") = some true
  ty : PySem.W.typeIn K (.ref C) = some (.type "type")
  int : PySem.W.subIn K (.type "int") (.ref C) = some false
  tup : PySem.W.subIn K (.type "tuple") (.ref C) = some false
theorem kit_own {K : PySem.W.Frag} {C : Addr} {t : Value} {b : Bool} (i : IsC K C) (hs : PySem.W.subIn K t (.ref C) = some b) (hne : (t == Value.ref C) = false) : PySem.W.kitOne K t (.ref C) = some b := by
  obtain ⟨cd, hc, _⟩ := PySem.W.any_some i.cl.hd
  unfold PySem.W.kitOne PySem.W.kitCls
  rw [hne]
  show (if ((PySem.W.clsIn K C).isSome && PySem.W.typeIn K (Value.ref C) == some (Value.type "type")) = true then PySem.W.subIn K t (Value.ref C) else none) = some b
  rw [hc, i.ty]
  simp [hs]
/-- whether it is an instance of C -/
inductive ObjIs (C : Addr) (H : Hp) : V → Bool → Prop where
  | obj {p dx : Addr} {fs : List (Str × V)} (h : H p = some (.ins C dx fs)) : ObjIs C H (.ref p) true
  | int (n : Int) : ObjIs C H (.int n) false
  | tup {p : Addr} {xs : List V} (h : H p = some (.tup xs)) : ObjIs C H (.ref p) false
def rIsO (C : Addr) : List V → Hp → VK → Prop := fun xs H Q => ∃ x b, xs = [x, .ref C] ∧ ObjIs C H x b ∧ Q (.bl b) H
theorem cr_isO {X : Cx} {C : Addr} (i : IsC X.K C) : CallR X (.builtin "isinstance") (rIsO C) := callImp call_isi fun vs H Q ⟨x, b, e, o, q⟩ => by
  cases o with
  | @obj p dx fs h =>
    refine ⟨.ref p, .ref C, .ref C, .ref C, true, e, .own C, .base (.ins h i.cl i.ha i.hn i.ht i.hm), ?_, q⟩
    unfold PySem.W.kitOne
    simp
  | int n => exact ⟨.int n, .ref C, .type "int", .ref C, false, e, .own C, .base (.int n), kit_own i i.int rfl, q⟩
  | @tup p xs h => exact ⟨.ref p, .ref C, .type "tuple", .ref C, false, e, .own C, .base (.tup h), kit_own i i.tup rfl, q⟩
/-! a def run one or two calls deeper -/
section
variable {X : Cx} {CX : CXT} {k : Nat} {C g : Addr} {fd : FuncData} {ps : List Str} {sp : Sp} {E : XK} {pins : List (Addr × Obj)} {σ : L2.St} {H : Hp} {s : Shared} {Q : VK} {us : List Value} {vs : List V}
theorem run_in1 (F : FnOk X.prog X.w X.K X.mg X.base CX k g fd ps sp) (hr : Room (k + 1) X.A) (hb : Binds X.K fd ps []) (hx : Passes CX X E) (I : Inv X pins σ H s) (r : Vals vs us) (h : sp vs H Q E) :
    wpAny (model X.prog X.w) X.A.in1 (call (.ref g) us) (EP X pins σ Q) X.xe s := by
  have hl : us.length = ps.length := by
    rw [← F.len _ _ _ _ h]
    exact r.length.symm
  have hb' := hb s us I.kIn (by rw [List.append_nil]; exact hl)
  rw [List.append_nil] at hb'
  refine wpAny_call (codeAny_mono (F.run X.A.in1 X.stack s H ⟨us, []⟩ us vs Q E hr.in1 I.env0.in1 hb' r h) fun r s' hq => ?_)
  cases r with
  | error e => exact hx pins σ H s e s' I hq
  | ok fl =>
    cases fl with
    | ret u => exact I.after hq
    | next => exact False.elim hq
    | brk => exact False.elim hq
    | cont => exact False.elim hq
/-- x != y, both of the class at C, by its own == -/
def rNe (C : Addr) (sp : Sp) (E : XK) : R2 := fun x y H Q => ∃ a dx fs b dy gs, x = .ref a ∧ y = .ref b ∧ H a = some (.ins C dx fs) ∧ H b = some (.ins C dy gs) ∧ sp [x, y] H (fun v H' => ∃ r, v = .bl r ∧ Q (.bl (!r)) H') E
theorem op_neOwn (nf : PySem.W.notFirst X.K C (.ref C) = true) (hm : PySem.W.mroIn X.K C (.type "object") = some true) (hne : PySem.W.findIn X.K (.ref C) "__ne__" = some (some (.builtin "object.__ne__")))
    (at_ : PySem.W.findIn X.K (.ref C) "__eq__" = some (some (.ref g))) (fn : PySem.W.isFn X.K (.ref g) = true)
    (F : FnOk X.prog X.w X.K X.mg X.base CX k g fd ps sp) (room : Room (k + 1) X.A) (hb : Binds X.K fd ps []) (pass : Passes CX X E) : OpR X (compareOp .NotEq) (rNe C sp E) := by
  intro pins s σ H x y v u Q I rx ry h
  obtain ⟨a, dx, fs, b, dy, gs, rfl, rfl, ea, eb, q⟩ := h
  cases (show v = Value.ref a from rx)
  cases (show u = Value.ref b from ry)
  obtain ⟨_, O, _⟩ := ins_get I.hok ea
  obtain ⟨_, J, _⟩ := O.look
  obtain ⟨_, O2, _⟩ := ins_get I.hok eb
  obtain ⟨_, J2, _⟩ := O2.look
  obtain ⟨m, fr⟩ := I.fr
  show wpAny _ _ (richCompare .NotEq (.ref a) (.ref b)) _ _ _
  refine PySem.W.own_ne (tb := .ref C) room.units0 room.in1.units0 fr I.ok.mod.kin J J2.type nf hm hne at_ fn (wpAny_mono (run_in1 (vs := [.ref a, .ref b]) (us := [.ref a, .ref b]) F room hb pass I (.cons rfl (.cons rfl .nil)) q) (fun z s' r => ?_) fun _ _ e => e)
  obtain ⟨z', H', I', rz, b', rfl, qz⟩ := r
  refine ⟨b', rz, .bl (!b'), H', I', rfl, qz⟩
end
/-- o.f, the one attribute -/
def tAtt (C : Addr) (f : Str) (ta : TE) : TE := fun σ H Q => ta σ H fun x H1 => ∃ p dx t, x = .ref p ∧ H1 p = some (.ins C dx (FE f t)) ∧ Q (.ref t) H1
theorem pe_att {X : Cx} {C : Addr} {e : Expr} {f : Str} {pos : Pos} {ta : TE} (h : PE X (.Attribute e f pos) (tFld X.K ta f)) (mono : ∀ σ H (Q Q' : VK), (∀ x H1, Q x H1 → Q' x H1) → ta σ H Q → ta σ H Q') (cl : Cls X.K C) (no : NoAttr X.K C f) : PE X (.Attribute e f pos) (tAtt C f ta) :=
  pe_imp h fun σ H Q q => mono σ H _ _ (fun x H1 ⟨p, dx, t, ex, hp, q1⟩ => ⟨p, C, dx, FE f t, .ref t, ex, hp, cl, no, FE_at, q1⟩) q
section
variable {σ : L2.St} {H : Hp} {Q : VK} {C : Addr} {f : Str} {good : List Int → Prop}
theorem ap_att {ta : TE} : tAtt C f ta σ H Q = ta σ H fun x H1 => ∃ p dx t, x = .ref p ∧ H1 p = some (.ins C dx (FE f t)) ∧ Q (.ref t) H1 := rfl
theorem ap_prop {sp : Sp} {dvs : List V} {E : XK} {ta : TE} : tProp C sp dvs E ta σ H Q = ta σ H fun x H1 => ∃ a dx fs, x = .ref a ∧ H1 a = some (.ins C dx fs) ∧ sp (.ref a :: dvs) H1 Q E := rfl
theorem ap_isO {vs : List V} : rIsO C vs H Q = ∃ x b, vs = [x, .ref C] ∧ ObjIs C H x b ∧ Q (.bl b) H := rfl
theorem ap_bin {sp : Sp} {E : XK} {x y : V} : rBin C sp E x y H Q = ∃ a dx fs b dy gs, x = .ref a ∧ y = .ref b ∧ H a = some (.ins C dx fs) ∧ H b = some (.ins C dy gs) ∧ sp [x, y] H Q E := rfl
theorem ap_ne {sp : Sp} {E : XK} {x y : V} : rNe C sp E x y H Q = ∃ a dx fs b dy gs, x = .ref a ∧ y = .ref b ∧ H a = some (.ins C dx fs) ∧ H b = some (.ins C dy gs) ∧ sp [x, y] H (fun v H' => ∃ r, v = .bl r ∧ Q (.bl (!r)) H') E := rfl
theorem ap_meth {C : Addr} {m : Str} {sp : Sp} {dvs : List V} {E : XK} {ta : TE} {t : TA} : tMeth C m sp dvs E ta t σ H Q = ta σ H fun x H1 => ∃ a dx fs, x = .ref a ∧ H1 a = some (.ins C dx fs) ∧ fs.lookup m = none ∧ t σ H1 fun vs H2 => sp (x :: (vs ++ dvs)) H2 Q E := rfl
end
end Pr
namespace Pr
open PySem PySem.Spec PyProof.Rows L2
/-- what comes of C(..) with the values vs -/
def NewV (C : Addr) (sp : Sp) (dvs : List V) (E : XK) (vs : List V) (H1 : Hp) (Q : VK) : Prop := ∀ x dx, H1 x = none → H1 dx = none → dx ≠ x →
  sp (.ref x :: (vs ++ dvs)) (upd (upd H1 dx (.own x)) x (.ins C dx [])) (fun v H2 => v = .non ∧ Q (.ref x) H2) E
theorem ap_make {σ : L2.St} {H : Hp} {Q : VK} {C : Addr} {sp : Sp} {dvs : List V} {E : XK} {t : TA} : tMake C sp dvs E t σ H Q = t σ H fun vs H1 => NewV C sp dvs E vs H1 Q := rfl
theorem ins_inj {C D dx dy : Addr} {fs gs : List (Str × V)} : HO.ins C dx fs = HO.ins D dy gs ↔ C = D ∧ dx = dy ∧ fs = gs := by
  constructor
  · intro h
    cases h
    exact ⟨rfl, rfl, rfl⟩
  · rintro ⟨rfl, rfl, rfl⟩
    rfl
theorem mono_var {i : Nat} (σ : L2.St) (H : Hp) (Q Q' : VK) (h : ∀ x H1, Q x H1 → Q' x H1) (q : tVar i σ H Q) : tVar i σ H Q' := let ⟨v, e, z⟩ := q; ⟨v, e, h _ _ z⟩
end Pr
/-! slices and sums of tuples of ints, whole ones too -/
namespace Pr
open PySem PySem.Spec PyProof.Rows L2
section
variable {X : Cx}
def cutI (ns : List Int) (lo hi : Option Int) : List Int := (ns.drop (HT.sIx ns.length 0 lo)).take (HT.sIx ns.length ns.length hi - HT.sIx ns.length 0 lo)
theorem cut_map (ns : List Int) (lo hi : Option Int) : cutV (ns.map V.int) lo hi = (cutI ns lo hi).map V.int := by
  unfold cutV cutI
  rw [List.map_take, List.map_drop, List.length_map]
theorem cut_drop (ns : List Int) (k : Nat) : cutI ns (some (k : Int)) none = ns.drop k := by
  unfold cutI
  rw [HT.sIx_nat, HT.sIx_none]
  by_cases h : k ≤ ns.length
  · rw [Nat.min_eq_left h, List.take_of_length_le (by rw [List.length_drop]; omega)]
  · rw [Nat.min_eq_right (by omega), List.drop_length, List.drop_of_length_le (by omega)]
    simp
def rSlI : V → Option Int → Option Int → Hp → VK → Prop := fun x lo hi H Q => ∃ a, x = .ref a ∧ ∃ ns, H a = some (TI ns) ∧ ∀ r H', Same H H' → H' r = some (TI (cutI ns lo hi)) → Q (.ref r) H'
theorem slImp {r r' : V → Option Int → Option Int → Hp → VK → Prop} (h : SlR X r) (i : ∀ x lo hi H Q, r' x lo hi H Q → r x lo hi H Q) : SlR X r' :=
  fun pins s σ H x v vl vu lo hi sl Q I rx hs pl pu q => h pins s σ H x v vl vu lo hi sl Q I rx hs pl pu (i _ _ _ _ _ q)
theorem sl_tupI : SlR X rSlI := slImp sl_tupA fun x lo hi H Q ⟨a, ex, ns, ha, q⟩ => by
  refine ⟨a, ns.map V.int, ex, .inl (.inl ha), fun hw => ?_, fun _ p np => ?_⟩
  · refine q a H (fun _ _ h => h) ?_
    have e : cutI ns lo hi = ns := by
      rw [List.length_map] at hw
      unfold cutI
      rw [hw.1, hw.2, List.drop_zero, Nat.sub_zero, List.take_length]
    rw [e]
    exact ha
  · refine q p _ (fun b o e => by rw [upd_ne (ne_of_none e np)]; exact e) ?_
    rw [upd_same, cut_map]
def rCatI : R2 := fun x y H Q => ∃ a b, x = .ref a ∧ y = .ref b ∧ ∃ ns, H a = some (TI ns) ∧ ∃ ms, H b = some (TI ms) ∧ ns.length + ms.length ≤ 10000 ∧ ∀ r H', Same H H' → H' r = some (TI (ns ++ ms)) → Q (.ref r) H'
end
section
variable {σ : L2.St} {H : Hp} {Q : VK} {x y : V} {lo hi : Option Int}
theorem ap_slI : rSlI x lo hi H Q = ∃ a, x = .ref a ∧ ∃ ns, H a = some (TI ns) ∧ ∀ r H', Same H H' → H' r = some (TI (cutI ns lo hi)) → Q (.ref r) H' := rfl
theorem ap_catI : rCatI x y H Q = ∃ a b, x = .ref a ∧ y = .ref b ∧ ∃ ns, H a = some (TI ns) ∧ ∃ ms, H b = some (TI ms) ∧ ns.length + ms.length ≤ 10000 ∧ ∀ r H', Same H H' → H' r = some (TI (ns ++ ms)) → Q (.ref r) H' := rfl
end
end Pr
/-! perm -/
namespace Pr
open PySem PySem.Spec PyProof.Rows L2
section
variable {X : Cx}
def rPerm : List V → Hp → VK → Prop := fun vs H Q => ∃ i j, vs = [.int i, .int j] ∧ 0 ≤ i ∧ 0 ≤ j ∧ i < 2 ^ 60 ∧ j ≤ 9000 ∧ Q (.int (PySem.W.mcPerm i j)) H
end
theorem ap_perm {vs : List V} {H : Hp} {Q : VK} : rPerm vs H Q = ∃ i j, vs = [.int i, .int j] ∧ 0 ≤ i ∧ 0 ≤ j ∧ i < 2 ^ 60 ∧ j ≤ 9000 ∧ Q (.int (PySem.W.mcPerm i j)) H := rfl
end Pr
namespace Pr
open PySem PySem.Spec PyProof.Rows L2
/-! classmethods read off a class; any of a list of truth values -/
theorem _root_.L2.FnOk.rawN {P : Program} {w : World} {K : PySem.W.Frag} {mg : Str → Option Value} {base : Heap} {CX : CXT} {k : Nat} {f : Addr} {fd : FuncData} {ps : List Str} {sp : Sp}
    (F : FnOk P w K mg base CX k f fd ps sp) (hb : Binds K fd ps []) : FnR P w K mg base CX k f sp :=
  (F.raw hb .nil).imp fun vs H Q E h => by rw [List.append_nil]; exact h
theorem ap_cm {C : Addr} {sp : Sp} {E : XK} {ta : TE} {t : TA} {σ : L2.St} {H : Hp} {Q : VK} : ClX.tCMeth C sp E ta t σ H Q = ta σ H fun x H1 => x = .ref C ∧ t σ H1 fun vs H2 => sp (.ref C :: vs) H2 Q E := rfl
end Pr
/-! len(o), list(o), str(o) of plain instances by own defs; iter of a tuple; repr of a bool; o != t, t a tuple -/
namespace PySem.W
open PySem PySem.Spec PySem.Calls PyProof.Rows
end PySem.W
namespace Pr
open PySem PySem.Spec PyProof.Rows L2
section
variable {X : Cx} {CX : CXT} {k : Nat} {C g : Addr} {fd : FuncData} {ps : List Str} {sp : Sp} {E : XK} {pins : List (Addr × Obj)} {σ : L2.St} {H : Hp} {s : Shared} {Q : VK} {us : List Value} {vs : List V}
/-- a def run by a machine of ours that stands deeper -/
theorem run_sub {A1 : Around} (sb : Sub X k A1) (F : FnOk X.prog X.w X.K X.mg X.base CX k g fd ps sp) (hb : Binds X.K fd ps []) (hx : Passes CX X E) (I : Inv X pins σ H s) (r : Vals vs us) (h : sp vs H Q E) :
    wpAny (model X.prog X.w) A1 (call (.ref g) us) (EP X pins σ Q) X.xe s := by
  have hl : us.length = ps.length := by
    rw [← F.len _ _ _ _ h]
    exact r.length.symm
  have hb' := hb s us I.kIn (by rw [List.append_nil]; exact hl)
  rw [List.append_nil] at hb'
  have e0 : Env0 X.prog X.w X.K X.mg X.base A1 X.stack s H := by
    have e := I.env0
    exact ⟨by rw [sb.fr]; exact e.frames, e.mod, e.bs, e.bsz, e.funs, e.frf, e.hok, e.bare⟩
  refine wpAny_call (codeAny_mono (F.run A1 X.stack s H ⟨us, []⟩ us vs Q E sb.room e0 hb' r h) fun r s' hq => ?_)
  cases r with
  | error e => exact hx pins σ H s e s' I hq
  | ok fl =>
    cases fl with
    | ret u => exact I.after hq
    | next => exact False.elim hq
    | brk => exact False.elim hq
    | cont => exact False.elim hq
/-! ### len(o) -/
def rLenO (C : Addr) (sp : Sp) (E : XK) : List V → Hp → VK → Prop := fun xs H Q => ∃ a dx fs, xs = [.ref a] ∧ H a = some (.ins C dx fs) ∧ sp [.ref a] H (fun v H' => ∃ n : Nat, v = .int n ∧ n < 1000000 ∧ Q (.int n) H') E
/-! ### str(o) -/
def rStrO (C : Addr) (sp : Sp) (E : XK) : List V → Hp → VK → Prop := fun xs H Q => ∃ a dx fs, xs = [.ref a] ∧ H a = some (.ins C dx fs) ∧ sp [.ref a] H (fun v H' => ∃ z, v = .str z ∧ Q (.str z) H') E
theorem cr_strO (at_ : PySem.W.findIn X.K (.ref C) "__str__" = some (some (.ref g))) (fn : PySem.W.isFn X.K (.ref g) = true)
    (F : FnOk X.prog X.w X.K X.mg X.base CX k g fd ps sp) (room : Room (k + 2) X.A) (hb : Binds X.K fd ps []) (pass : Passes CX X E) : CallR X (.type "str") (rStrO C sp E) := by
  intro pins s σ H xs us Q I r h
  obtain ⟨a, dx, fs, rfl, ea, q⟩ := h
  obtain ⟨u, rfl, ru⟩ := r.one
  cases ru
  obtain ⟨_, O, _⟩ := ins_get I.hok ea
  obtain ⟨_, J, _⟩ := O.look
  have sb : Sub X k X.A.in1.in1 := (Sub.in1 (Sub.in1 (⟨room, rfl⟩ : Sub X (k + 2) X.A)))
  refine PySem.W.kso_call sb.room.units0 I.kIn J at_ fn (wpAny_mono (run_sub (vs := [.ref a]) (us := [.ref a]) sb F hb pass I (.cons rfl .nil) q) (fun z s' r => ?_) fun _ _ e => e)
  obtain ⟨z', H', I', rz, y, rfl, qz⟩ := r
  obtain ⟨t, rfl⟩ := (show ∃ t, z = Value.str y t from rz)
  exact ⟨.str y, H', I', ⟨_, rfl⟩, qz⟩
/-! ### repr of a bool -/
def rReprB : List V → Hp → VK → Prop := fun xs H Q => ∃ b, xs = [.bl b] ∧ Q (.str (if b then "True" else "False")) H
theorem cr_reprB : CallR X (.builtin "repr") rReprB := by
  intro pins s σ H xs us Q I r h
  obtain ⟨b, rfl, q⟩ := h
  obtain ⟨u, rfl, ru⟩ := r.one
  cases (show u = Value.bool b from ru)
  refine PySem.P.repr_of_bool ?_
  exact ⟨.str _, H, I.kept (t' := s.toks + 1) (fun _ _ e => e), ⟨_, rfl⟩, q⟩
end
/-! ### o != t, t a tuple, by the own == -/
section
variable {X : Cx} {CX : CXT} {k : Nat} {C g : Addr} {fd : FuncData} {ps : List Str} {sp : Sp} {E : XK}
def rNeT (C : Addr) (sp : Sp) (E : XK) : R2 := fun x y H Q => ∃ a dx fs b xs, x = .ref a ∧ y = .ref b ∧ H a = some (.ins C dx fs) ∧ H b = some (.tup xs) ∧ sp [x, y] H (fun v H' => ∃ r, v = .bl r ∧ Q (.bl (!r)) H') E
theorem op_neOwnT (nf : PySem.W.notFirst X.K C (.type "tuple") = true) (hm : PySem.W.mroIn X.K C (.type "object") = some true) (hne : PySem.W.findIn X.K (.ref C) "__ne__" = some (some (.builtin "object.__ne__")))
    (at_ : PySem.W.findIn X.K (.ref C) "__eq__" = some (some (.ref g))) (fn : PySem.W.isFn X.K (.ref g) = true)
    (F : FnOk X.prog X.w X.K X.mg X.base CX k g fd ps sp) (room : Room (k + 1) X.A) (hb : Binds X.K fd ps []) (pass : Passes CX X E) : OpR X (compareOp .NotEq) (rNeT C sp E) := by
  intro pins s σ H x y v u Q I rx ry h
  obtain ⟨a, dx, fs, b, xs, rfl, rfl, ea, eb, q⟩ := h
  cases (show v = Value.ref a from rx)
  cases (show u = Value.ref b from ry)
  obtain ⟨_, O, _⟩ := ins_get I.hok ea
  obtain ⟨_, J, _⟩ := O.look
  obtain ⟨its, r1, p1, _⟩ := I.tuple (.inl (.inl eb))
  obtain ⟨m, fr⟩ := I.fr
  obtain ⟨ob, hob, hcb, _⟩ := id p1
  show wpAny _ _ (richCompare .NotEq (.ref a) (.ref b)) _ _ _
  refine PySem.W.own_ne (tb := .type "tuple") room.units0 room.in1.units0 fr I.ok.mod.kin J (fun A Q E s k q => wpAny_typeOf_ref (k _ _ hob) (by rw [hcb]; exact q)) nf hm hne at_ fn (wpAny_mono (run_in1 (vs := [.ref a, .ref b]) (us := [.ref a, .ref b]) F room hb pass I (.cons rfl (.cons rfl .nil)) q) (fun z s' r => ?_) fun _ _ e => e)
  obtain ⟨z', H', I', rz, b', rfl, qz⟩ := r
  refine ⟨b', rz, .bl (!b'), H', I', rfl, qz⟩
end
end Pr
/-! iter(t), t a tuple; list(o) of an instance whose own __iter__ gives the iterator of a tuple, and whose own __len__ tells its length -/
namespace Pr
open PySem PySem.Spec PyProof.Rows L2
/-- at it an iterator over the tuple at t, i items are drawn -/
def TtO (t it : Addr) (i : Nat) : HO := .ext fun h => h.IsTupleIter it t i
section
variable {X : Cx}
def rIterT : List V → Hp → VK → Prop := fun xs H Q => ∃ l, xs = [.ref l] ∧ ∃ zs, H l = some (.tup zs) ∧ ∀ it, H it = none → Q (.ref it) (upd H it (TtO l it 0))
end
section
variable {X : Cx} {pins : List (Addr × Obj)} {σ : L2.St} {H : Hp} {s : Shared} {C fi fl a q t it : Addr} {fdI fdL : FuncData} {psI psL : List Str} {A1 : Around} {f : Str} {n : Nat}
/-- list(o) -/
def rListO (C : Addr) (f : Str) : List V → Hp → VK → Prop := fun xs H Q => ∃ a dx t ys, xs = [.ref a] ∧ H a = some (.ins C dx (FE f t)) ∧ H t = some (.tup ys) ∧ ys.length < 1000000 ∧ ∀ q, H q = none → Q (.ref q) (upd H q (.lst ys))
end
section
variable {X : Cx}
/-- xs + ys, two lists -/
def rCatL : R2 := fun x y H Q => ∃ p q, x = .ref p ∧ y = .ref q ∧ ∃ xs, H p = some (.lst xs) ∧ ∃ ys, H q = some (.lst ys) ∧ xs.length + ys.length < 1000000 ∧ ∀ l, H l = none → Q (.ref l) (upd H l (.lst (xs ++ ys)))
theorem op_catL : OpR X (binaryOp .Add) rCatL := opImp op_cat fun x y H Q ⟨p, q, ex, ey, xs, hp, ys, hq, hz, k⟩ =>
  ⟨p, q, xs, ys, ex, ey, hp, hq, Nat.le_of_lt (sz hz), k⟩
/-- (n,) * k -/
def rRepTI : R2 := fun x y H Q => ∃ l k, x = .ref l ∧ y = .int k ∧ ∃ n, H l = some (TI [n]) ∧ 2 ≤ k ∧ k ≤ 1000 ∧ ∀ p, H p = none → Q (.ref p) (upd H p (TI (List.replicate k.toNat n)))
theorem op_repTI : OpR X (binaryOp .Mult) rRepTI := opImp op_repT fun x y H Q ⟨l, k, ex, ey, n, hl, h0, h1, q⟩ =>
  ⟨l, k, [V.int n], ex, ey, .inl (.inl hl), by simp, h0, h1, by simp, fun p hp => by
    rw [flat_rep]
    exact q p hp⟩
end
section
variable {σ : L2.St} {H : Hp} {Q : VK} {C : Addr} {f : Str} {sp : Sp} {E : XK} {vs : List V}
theorem ap_repTI {x y : V} : rRepTI x y H Q = ∃ l k, x = .ref l ∧ y = .int k ∧ ∃ n, H l = some (TI [n]) ∧ 2 ≤ k ∧ k ≤ 1000 ∧ ∀ p, H p = none → Q (.ref p) (upd H p (TI (List.replicate k.toNat n))) := rfl
theorem ap_lenO : rLenO C sp E vs H Q = ∃ a dx fs, vs = [.ref a] ∧ H a = some (.ins C dx fs) ∧ sp [.ref a] H (fun v H' => ∃ n : Nat, v = .int n ∧ n < 1000000 ∧ Q (.int n) H') E := rfl
theorem ap_strO : rStrO C sp E vs H Q = ∃ a dx fs, vs = [.ref a] ∧ H a = some (.ins C dx fs) ∧ sp [.ref a] H (fun v H' => ∃ z, v = .str z ∧ Q (.str z) H') E := rfl
theorem ap_listO : rListO C f vs H Q = ∃ a dx t ys, vs = [.ref a] ∧ H a = some (.ins C dx (FE f t)) ∧ H t = some (.tup ys) ∧ ys.length < 1000000 ∧ ∀ q, H q = none → Q (.ref q) (upd H q (.lst ys)) := rfl
theorem ap_reprB : rReprB vs H Q = ∃ b, vs = [.bl b] ∧ Q (.str (if b then "True" else "False")) H := rfl
theorem ap_iterT : rIterT vs H Q = ∃ l, vs = [.ref l] ∧ ∃ zs, H l = some (.tup zs) ∧ ∀ it, H it = none → Q (.ref it) (upd H it (TtO l it 0)) := rfl
theorem ap_neT {x y : V} : rNeT C sp E x y H Q = ∃ a dx fs b xs, x = .ref a ∧ y = .ref b ∧ H a = some (.ins C dx fs) ∧ H b = some (.tup xs) ∧ sp [x, y] H (fun v H' => ∃ r, v = .bl r ∧ Q (.bl (!r)) H') E := rfl
theorem ap_negO {x : V} : rNeg C sp E x H Q = ∃ a dx fs, x = .ref a ∧ H a = some (.ins C dx fs) ∧ sp [x] H Q E := rfl
theorem ap_binI {x y : V} : rBinI C sp E x y H Q = ∃ a dx fs n, x = .ref a ∧ y = .int n ∧ H a = some (.ins C dx fs) ∧ sp [x, y] H Q E := rfl
theorem ap_catL {x y : V} : rCatL x y H Q = ∃ p q, x = .ref p ∧ y = .ref q ∧ ∃ xs, H p = some (.lst xs) ∧ ∃ ys, H q = some (.lst ys) ∧ xs.length + ys.length < 1000000 ∧ ∀ l, H l = none → Q (.ref l) (upd H l (.lst (xs ++ ys))) := rfl
theorem ap_tM1 {r : V → List V → Hp → VK → Prop} {to te : TE} : tM1 r to te σ H Q = to σ H fun x H1 => (∃ a, x = .str a) ∧ te σ H1 fun y H2 => r x [y] H2 Q := rfl
end
end Pr
/-! list.count of a tuple of ints in a list of such; `in`, set and sorted of tuples of ints -/
namespace Pr
open PySem PySem.Spec PyProof.Rows L2
/-- the tuples of ints at these places -/
def RowsAt (H : Hp) (rs : List Addr) (nss : List (List Int)) : Prop := rs.length = nss.length ∧ ∀ (i : Nat) (r : Addr) (ns : List Int), rs[i]? = some r → nss[i]? = some ns → H r = some (TI ns)
theorem RowsAt.same {H H' : Hp} {rs : List Addr} {nss : List (List Int)} (h : RowsAt H rs nss) (s : Same H H') : RowsAt H' rs nss := ⟨h.1, fun i r ns e1 e2 => s _ _ (h.2 i r ns e1 e2)⟩
theorem RowsAt.nil {H : Hp} : RowsAt H [] [] := ⟨rfl, fun i r ns e => by simp at e⟩
theorem RowsAt.cons {H : Hp} {r : Addr} {rs : List Addr} {n : List Int} {nss : List (List Int)} (h0 : H r = some (TI n)) (h : RowsAt H rs nss) : RowsAt H (r :: rs) (n :: nss) := by
  refine ⟨by simp [h.1], fun i => ?_⟩
  match i with
  | 0 => intro r' ns e1 e2; simp at e1 e2; subst e1 e2; exact h0
  | i + 1 => intro r' ns e1 e2; exact h.2 i r' ns (by simpa using e1) (by simpa using e2)
section
variable {X : Cx}
/-- xs.count(t), tuples of ints -/
def rCountT : V → List V → Hp → VK → Prop := fun x xs H Q => ∃ (a : Addr) (y : Addr), x = V.ref a ∧ xs = [.ref y] ∧ ∃ rs nss ns, H a = some (.lst (rs.map V.ref)) ∧ RowsAt H rs nss ∧ H y = some (TI ns) ∧ Q (.int ((nss.count ns : Nat))) H
/-- t not in xs -/
def rNotInT : R2 := fun x y H Q => ∃ (t a : Addr), x = .ref t ∧ y = .ref a ∧ ∃ rs nss ns, H a = some (.lst (rs.map V.ref)) ∧ RowsAt H rs nss ∧ H t = some (TI ns) ∧ Q (.bl (!decide (ns ∈ nss))) H
/-- [v] * k -/
def rRepL1 : R2 := fun x y H Q => ∃ l k, x = .ref l ∧ y = .int k ∧ ∃ v, H l = some (.lst [v]) ∧ k < 1000000 ∧ -1000000 < k ∧ ∀ p, H p = none → Q (.ref p) (upd H p (.lst (List.replicate k.toNat v)))
end
section
variable {σ : L2.St} {H : Hp} {Q : VK} {K : PySem.W.Frag} {P : Program} {w : World}
theorem ap_countT {x : V} {xs : List V} : rCountT x xs H Q = ∃ (a : Addr) (y : Addr), x = V.ref a ∧ xs = [.ref y] ∧ ∃ rs nss ns, H a = some (.lst (rs.map V.ref)) ∧ RowsAt H rs nss ∧ H y = some (TI ns) ∧ Q (.int ((nss.count ns : Nat))) H := rfl
theorem ap_notInT {x y : V} : rNotInT x y H Q = ∃ (t a : Addr), x = .ref t ∧ y = .ref a ∧ ∃ rs nss ns, H a = some (.lst (rs.map V.ref)) ∧ RowsAt H rs nss ∧ H t = some (TI ns) ∧ Q (.bl (!decide (ns ∈ nss))) H := rfl
theorem ap_repL1 {x y : V} : rRepL1 x y H Q = ∃ l k, x = .ref l ∧ y = .int k ∧ ∃ v, H l = some (.lst [v]) ∧ k < 1000000 ∧ -1000000 < k ∧ ∀ p, H p = none → Q (.ref p) (upd H p (.lst (List.replicate k.toNat v))) := rfl
end
end Pr
/-! sorted(s), s a set of pairs of ints of any sign -/
namespace Pr
open PySem PySem.Spec PyProof.Rows L2
end Pr
namespace Pr
open PySem PySem.Spec PyProof.Rows L2
/-- the number that a value is -/
def intOf : Value → Option Int
  | .int i _ => some i
  | _ => none
theorem vals_ints : ∀ {us : List Value} {ns : List Int}, us.map intOf = ns.map some → Vals (ns.map V.int) us
  | [], [], _ => .nil
  | u :: us, n :: ns, h => by
    rw [List.map_cons, List.map_cons, List.cons.injEq] at h
    refine .cons ?_ (vals_ints h.2)
    match u, h.1 with
    | .int i t, e =>
      have e : some i = some n := e
      cases e
      exact ⟨_, rfl⟩
theorem sqT_const {K : PySem.W.Frag} {H : Hp} {a : Addr} {d : Option Addr} {its : Array Value} {n : Nat} {sl : Array (Option Value)} {ns : List Int} (l : K.lookup a = some ⟨.type "tuple", d, .seq its n, sl⟩) (e : its.toList.map intOf = ns.map some) (hs : ns.length ≤ sizeLine) : SqT K H a (ns.map V.int) := by
  refine .inr ⟨_, its, n, l, rfl, rfl, ?_, vals_ints e⟩
  have := congrArg List.length e
  rw [List.length_map, List.length_map, Array.length_toList] at this
  omega
section
variable {X : Cx}
/-- t + u, two tuples of anything that are not empty -/
def rCatTT : R2 := fun x y H Q => ∃ a b, x = .ref a ∧ y = .ref b ∧ ∃ xs, H a = some (.tup xs) ∧ ∃ ys, H b = some (.tup ys) ∧ xs ≠ [] ∧ ys ≠ [] ∧ xs.length + ys.length < 1000000 ∧ ∀ p, H p = none → Q (.ref p) (upd H p (.tup (xs ++ ys)))
/-- xs.pop(i) for a place within the list -/
def rPopN : V → List V → Hp → VK → Prop := fun x vs H Q => ∃ l xs, ∃ i : Int, x = .ref l ∧ vs = [.int i] ∧ 0 ≤ i ∧ H l = some (.lst xs) ∧ xs.length < 1000000 ∧ ∃ y, xs[i.toNat]? = some y ∧ Q y (upd H l (.lst (xs.eraseIdx i.toNat)))
end
section
variable {σ : L2.St} {H : Hp} {Q : VK} {K : PySem.W.Frag} {P : Program} {w : World}
theorem ap_par3 {i j l : Nat} {ta : TA} {D : Ends} : tPar3 i j l ta D σ H = ta σ H (fun vs H1 => ∃ u v w, vs = [u, v, w] ∧ D.nx (((σ.set i (some u)).set j (some v)).set l (some w)) H1) := rfl
theorem ap_catTT {x y : V} : rCatTT x y H Q = ∃ a b, x = V.ref a ∧ y = V.ref b ∧ ∃ xs, H a = some (.tup xs) ∧ ∃ ys, H b = some (.tup ys) ∧ xs ≠ [] ∧ ys ≠ [] ∧ xs.length + ys.length < 1000000 ∧ ∀ p, H p = none → Q (.ref p) (upd H p (.tup (xs ++ ys))) := rfl
theorem ap_popN {x : V} {vs : List V} : rPopN x vs H Q = ∃ l xs, ∃ i : Int, x = V.ref l ∧ vs = [V.int i] ∧ 0 ≤ i ∧ H l = some (.lst xs) ∧ xs.length < 1000000 ∧ ∃ y, xs[i.toNat]? = some y ∧ Q y (upd H l (.lst (xs.eraseIdx i.toNat))) := rfl
end
end Pr
/-! (n,) * k for k from 1 on: once is the tuple itself -/
namespace Pr
open PySem PySem.Spec PyProof.Rows L2
theorem tuple_mul1 (l : Addr) (items : Array Value) (n : Nat) (dd : Option Addr) (sl : Array (Option Value)) (u : Tok) :
    Meets (Builtin.«tuple.__mul__» ⟨[.ref l, .int 1 u], []⟩) (fun _ R s => s.heap.get? l = some { cls := .type "tuple", dict := dd, data := .seq items n, slots := sl } ∧
      R (.ok (.ret (Value.ref l))) s) :=
  .of_wp fun prog w A R s h => by
    obtain ⟨hp, g, d, tk, os⟩ := s
    obtain ⟨hl, h⟩ := h
    have f1 := AutoSeq1.idx_int
    wp_walk using wpAny_loadPart' hl
    exact ⟨_, rfl, h⟩
section
variable {X : Cx}
/-- t * k of a tuple of one int -/
def rRepTA : R2 := fun x y H Q => ∃ l k, x = .ref l ∧ y = .int k ∧ ∃ n, H l = some (TI [n]) ∧ 1 ≤ k ∧ k ≤ 1000 ∧ ∀ p H', Same H H' → H' p = some (TI (List.replicate k.toNat n)) → Q (.ref p) H'
theorem op_repTA : OpR X (binaryOp .Mult) rRepTA := by
  intro pins s σ H x y v u Q I rx ry h
  obtain ⟨l, k, rfl, rfl, n, hl, h1, h2, q⟩ := h
  by_cases hk : k = 1
  · subst hk
    cases rx
    obtain ⟨t, rfl⟩ := ry
    obtain ⟨its, r, ⟨⟨cls, dd, data, sl⟩, ho, hc, m, hd⟩, hs⟩ := I.tuple (.inl (.inl hl))
    simp only at hc hd
    subst hc hd
    refine wpAny_binaryOp_repeat_ref (T := "tuple") (U := "int") (by decide) ⟨_, ho, rfl⟩ (fun s' => typeIs_int s' 1 t) noFill_tuple_mul F.fills_int_mul F.slot_int_rmul repeat_tuple F.slot_int_index.lookup
      (call_meets F.slot_int_rmul (typeIs_int s 1 t) F.entry_int_rmul (F.args_int_rmul_2 _ _) (int_rmul_tuple 1 t l its.toArray m dd sl)
        ⟨ho, rfl, ⟨_, ho, rfl⟩, call_meets F.slot_tuple_mul ⟨_, ho, rfl⟩ F.entry_tuple_mul (F.args_tuple_mul_2 _ _) (tuple_mul1 l its.toArray m dd sl t) ⟨ho, ?_⟩⟩)
    exact ⟨.ref l, H, I, rfl, q l H (Same.refl H) hl⟩
  · refine op_repTI pins s σ H (.ref l) (.int k) v u Q I rx ry ⟨l, k, rfl, rfl, n, hl, by omega, h2, fun p hp => q p _ (same_upd hp) upd_same⟩
end
theorem ap_repTA {x y : V} {H : Hp} {Q : VK} : rRepTA x y H Q = ∃ l k, x = .ref l ∧ y = .int k ∧ ∃ n, H l = some (TI [n]) ∧ 1 ≤ k ∧ k ≤ 1000 ∧ ∀ p H', Same H H' → H' p = some (TI (List.replicate k.toNat n)) → Q (.ref p) H' := rfl
end Pr
/-! instances with several attributes; a class that a local name holds, called -/
namespace Pr
open PySem PySem.Spec PyProof.Rows L2
/-- o.f, one of several attributes -/
def tAttF (C : Addr) (f : Str) (ta : TE) : TE := fun σ H Q => ta σ H fun x H1 => ∃ p dx fs, x = .ref p ∧ H1 p = some (.ins C dx fs) ∧ ∃ v, fs.lookup f = some v ∧ Q v H1
theorem pe_attF {X : Cx} {C : Addr} {e : Expr} {f : Str} {pos : Pos} {ta : TE} (h : PE X (.Attribute e f pos) (tFld X.K ta f)) (mono : ∀ σ H (Q Q' : VK), (∀ x H1, Q x H1 → Q' x H1) → ta σ H Q → ta σ H Q') (cl : Cls X.K C) (no : NoAttr X.K C f) : PE X (.Attribute e f pos) (tAttF C f ta) :=
  pe_imp h fun σ H Q q => mono σ H _ _ (fun x H1 ⟨p, dx, fs, ex, hp, v, hv, q1⟩ => ⟨p, C, dx, fs, v, ex, hp, cl, no, hv, q1⟩) q
theorem ap_attF {C : Addr} {f : Str} {ta : TE} {σ : L2.St} {H : Hp} {Q : VK} : tAttF C f ta σ H Q = ta σ H fun x H1 => ∃ p dx fs, x = .ref p ∧ H1 p = some (.ins C dx fs) ∧ ∃ v, fs.lookup f = some v ∧ Q v H1 := rfl
/-- the i-th slot holds the class at C, which is called -/
def tMakeL (i : Nat) (C : Addr) (sp : Sp) (dvs : List V) (E : XK) (t : TA) : TE := fun σ H Q => σ[i]? = some (some (.ref C)) ∧ tMake C sp dvs E t σ H Q
section
variable {X : Cx} {CX : CXT} {k i : Nat} {f C : Addr} {fd : FuncData} {ps : List Str} {sp : Sp} {dvs : List V} {ds : List Value} {E : XK} {x : Str} {p pos : Pos} {e : Expr} {es : List Expr} {t : TA}
theorem pe_makeL (M : Mk X.K C f) (F : FnOk X.prog X.w X.K X.mg X.base CX k f fd ps sp) (room : Room (k + 1) X.A) (nm : X.N[i]? = some x) (vis : Vis X.env.scope x) (bind : Binds X.K fd ps ds) (dflt : Vals dvs ds) (pass : Passes CX X E) (ha : PA X (e :: es) t)
    (hdb : (x == ("__debug__" : Str)) = false := by decide) (hcd : (x == ("__classdict__" : Str)) = false := by decide)
    (he : starEach (e :: es) X.env = (false, eval e X.env) :: starEach es X.env := by rfl) (hpl : (backTo pos (starEach es X.env)).any (·.1) = false := by rfl) : PE X (.Call (.Name x p) (e :: es) [] pos) (tMakeL i C sp dvs E t) :=
  ⟨fun pins s σ H Q I h => wpAny_Call_Name_kw (thn ((pe_var (pos := p) nm vis hdb hcd).run pins s σ H (fun v H1 => v = .ref C ∧ H1 = H) I ⟨.ref C, h.1, rfl, rfl⟩) fun u s1 ⟨v, H1, I1, r1, q1⟩ => by
    obtain ⟨ev, eH⟩ := q1
    subst ev eH
    have eu : u = Value.ref C := r1
    subst eu
    exact PySem.W.callWith_K (h₀ := X.base) I1.ok.mod.kin M.kp (thn (ha.run pos pins s1 σ _ _ I1 h.2) fun us s2 ⟨vs, H2, I2, r, q⟩ => ⟨I2.kIn, run_make M F room bind dflt pass I2 r q⟩) he hpl)⟩
end
theorem ap_makeL {i : Nat} {C : Addr} {sp : Sp} {dvs : List V} {E : XK} {t : TA} {σ : L2.St} {H : Hp} {Q : VK} : tMakeL i C sp dvs E t σ H Q = (σ[i]? = some (some (.ref C)) ∧ tMake C sp dvs E t σ H Q) := rfl
end Pr
namespace My
open PySem PySem.Spec PyProof.Rows L2 Pr
def topS (i : Nat) : Stmt := PySem.Challenge.pw_sourceforms_k49_whole_forms_over_primes.main.body.getD i (.Pass ⟨0, 0, 0, 0⟩)
abbrev s_wall : Stmt := topS 1
abbrev p_wall : List Str := ["k"]
abbrev s_is_integer : Stmt := topS 12
abbrev n_is_integer : List Str := ["value"]
abbrev p_is_integer : List Str := ["value"]
theorem st_is_integer {v0 : V} : L2.start n_is_integer [v0] = [some v0] := rfl
theorem sc_is_integer : FnScope n_is_integer p_is_integer (defScope s_is_integer) := ⟨rfl, rfl, rfl, by decide +kernel, rfl, by decide +kernel, by decide +kernel⟩
abbrev s_is_within : Stmt := topS 14
abbrev p_is_within : List Str := ["value", "low", "high"]
abbrev s_need_number : Stmt := topS 15
abbrev p_need_number : List Str := ["value", "low", "high"]
abbrev s_is_row : Stmt := topS 16
abbrev n_is_row : List Str := ["value", "part"]
abbrev p_is_row : List Str := ["value"]
theorem st_is_row {v0 : V} : L2.start n_is_row [v0] = [some v0, none] := rfl
theorem sc_is_row : FnScope n_is_row p_is_row (defScope s_is_row) := ⟨rfl, rfl, rfl, by decide +kernel, rfl, by decide +kernel, by decide +kernel⟩
abbrev s_is_pair : Stmt := topS 17
abbrev n_is_pair : List Str := ["value"]
abbrev p_is_pair : List Str := ["value"]
theorem st_is_pair {v0 : V} : L2.start n_is_pair [v0] = [some v0] := rfl
theorem sc_is_pair : FnScope n_is_pair p_is_pair (defScope s_is_pair) := ⟨rfl, rfl, rfl, by decide +kernel, rfl, by decide +kernel, by decide +kernel⟩
abbrev s_is_change : Stmt := topS 18
abbrev n_is_change : List Str := ["value", "row"]
abbrev p_is_change : List Str := ["value"]
theorem st_is_change {v0 : V} : L2.start n_is_change [v0] = [some v0, none] := rfl
theorem sc_is_change : FnScope n_is_change p_is_change (defScope s_is_change) := ⟨rfl, rfl, rfl, by decide +kernel, rfl, by decide +kernel, by decide +kernel⟩
abbrev s_lead_of : Stmt := topS 19
abbrev n_lead_of : List Str := ["row", "index", "number"]
abbrev p_lead_of : List Str := ["row"]
theorem st_lead_of {v0 : V} : L2.start n_lead_of [v0] = [some v0, none, none] := rfl
theorem sc_lead_of : FnScope n_lead_of p_lead_of (defScope s_lead_of) := ⟨rfl, rfl, rfl, by decide +kernel, rfl, by decide +kernel, by decide +kernel⟩
abbrev s_powers_of : Stmt := topS 20
abbrev p_powers_of : List Str := ["number", "most"]
abbrev s_need_form : Stmt := topS 23
abbrev n_need_form : List Str := ["value"]
abbrev p_need_form : List Str := ["value"]
theorem st_need_form {v0 : V} : L2.start n_need_form [v0] = [some v0] := rfl
theorem sc_need_form : FnScope n_need_form p_need_form (defScope s_need_form) := ⟨rfl, rfl, rfl, by decide +kernel, rfl, by decide +kernel, by decide +kernel⟩
abbrev s_product_row : Stmt := topS 24
abbrev n_product_row : List Str := ["one", "other", "found", "i", "first", "j", "second", "_"]
abbrev p_product_row : List Str := ["one", "other"]
theorem st_product_row {v0 : V} {v1 : V} : L2.start n_product_row [v0, v1] = [some v0, some v1, none, none, none, none, none, none] := rfl
theorem sc_product_row : FnScope n_product_row p_product_row (defScope s_product_row) := ⟨rfl, rfl, rfl, by decide +kernel, rfl, by decide +kernel, by decide +kernel⟩
abbrev s_sum_row : Stmt := topS 25
abbrev n_sum_row : List Str := ["one", "other", "first", "second"]
abbrev p_sum_row : List Str := ["one", "other"]
theorem st_sum_row {v0 : V} {v1 : V} : L2.start n_sum_row [v0, v1] = [some v0, some v1, none, none] := rfl
theorem sc_sum_row : FnScope n_sum_row p_sum_row (defScope s_sum_row) := ⟨rfl, rfl, rfl, by decide +kernel, rfl, by decide +kernel, by decide +kernel⟩
abbrev s_multiple_row : Stmt := topS 26
abbrev n_multiple_row : List Str := ["row", "number", "entry"]
abbrev p_multiple_row : List Str := ["row", "number"]
theorem st_multiple_row {v0 : V} {v1 : V} : L2.start n_multiple_row [v0, v1] = [some v0, some v1, none] := rfl
theorem sc_multiple_row : FnScope n_multiple_row p_multiple_row (defScope s_multiple_row) := ⟨rfl, rfl, rfl, by decide +kernel, rfl, by decide +kernel, by decide +kernel⟩
abbrev s_changed_row : Stmt := topS 27
abbrev n_changed_row : List Str := ["row", "table", "first", "second", "total", "power", "entry"]
abbrev p_changed_row : List Str := ["row", "table"]
theorem st_changed_row {v0 : V} {v1 : V} : L2.start n_changed_row [v0, v1] = [some v0, some v1, none, none, none, none, none] := rfl
theorem sc_changed_row : FnScope n_changed_row p_changed_row (defScope s_changed_row) := ⟨rfl, rfl, rfl, by decide +kernel, rfl, by decide +kernel, by decide +kernel⟩
abbrev s_power_row : Stmt := topS 28
abbrev p_power_row : List Str := ["first", "second", "degree"]
abbrev s_row_value : Stmt := topS 29
abbrev p_row_value : List Str := ["row", "x", "y"]
abbrev s_made_form : Stmt := topS 30
abbrev p_made_form : List Str := ["entries"]
abbrev s_need_one_degree : Stmt := topS 32
abbrev p_need_one_degree : List Str := ["one", "other"]
abbrev s_modulo : Stmt := topS 34
abbrev n_modulo : List Str := ["row", "prime", "number"]
abbrev p_modulo : List Str := ["row", "prime"]
theorem st_modulo {v0 : V} {v1 : V} : L2.start n_modulo [v0, v1] = [some v0, some v1, none] := rfl
theorem sc_modulo : FnScope n_modulo p_modulo (defScope s_modulo) := ⟨rfl, rfl, rfl, by decide +kernel, rfl, by decide +kernel, by decide +kernel⟩
abbrev s_power_of : Stmt := topS 35
abbrev n_power_of : List Str := ["number", "exponent", "prime", "found", "square", "left"]
abbrev p_power_of : List Str := ["number", "exponent", "prime"]
theorem st_power_of {v0 : V} {v1 : V} {v2 : V} : L2.start n_power_of [v0, v1, v2] = [some v0, some v1, some v2, none, none, none] := rfl
theorem sc_power_of : FnScope n_power_of p_power_of (defScope s_power_of) := ⟨rfl, rfl, rfl, by decide +kernel, rfl, by decide +kernel, by decide +kernel⟩
abbrev s_inverse_of : Stmt := topS 36
abbrev n_inverse_of : List Str := ["number", "prime"]
abbrev p_inverse_of : List Str := ["number", "prime"]
theorem st_inverse_of {v0 : V} {v1 : V} : L2.start n_inverse_of [v0, v1] = [some v0, some v1] := rfl
theorem sc_inverse_of : FnScope n_inverse_of p_inverse_of (defScope s_inverse_of) := ⟨rfl, rfl, rfl, by decide +kernel, rfl, by decide +kernel, by decide +kernel⟩
abbrev s_plain_row : Stmt := topS 37
abbrev n_plain_row : List Str := ["row", "prime", "lead", "factor", "number"]
abbrev p_plain_row : List Str := ["row", "prime"]
theorem st_plain_row {v0 : V} {v1 : V} : L2.start n_plain_row [v0, v1] = [some v0, some v1, none, none, none] := rfl
theorem sc_plain_row : FnScope n_plain_row p_plain_row (defScope s_plain_row) := ⟨rfl, rfl, rfl, by decide +kernel, rfl, by decide +kernel, by decide +kernel⟩
abbrev s_need_prime : Stmt := topS 41
abbrev n_need_prime : List Str := ["value"]
abbrev p_need_prime : List Str := ["value"]
theorem st_need_prime {v0 : V} : L2.start n_need_prime [v0] = [some v0] := rfl
theorem sc_need_prime : FnScope n_need_prime p_need_prime (defScope s_need_prime) := ⟨rfl, rfl, rfl, by decide +kernel, rfl, by decide +kernel, by decide +kernel⟩
abbrev s_determinant_of : Stmt := topS 42
abbrev n_determinant_of : List Str := ["table"]
abbrev p_determinant_of : List Str := ["table"]
theorem st_determinant_of {v0 : V} : L2.start n_determinant_of [v0] = [some v0] := rfl
theorem sc_determinant_of : FnScope n_determinant_of p_determinant_of (defScope s_determinant_of) := ⟨rfl, rfl, rfl, by decide +kernel, rfl, by decide +kernel, by decide +kernel⟩
abbrev s_need_prime_table : Stmt := topS 43
abbrev n_need_prime_table : List Str := ["value", "prime"]
abbrev p_need_prime_table : List Str := ["value", "prime"]
theorem st_need_prime_table {v0 : V} {v1 : V} : L2.start n_need_prime_table [v0, v1] = [some v0, some v1] := rfl
theorem sc_need_prime_table : FnScope n_need_prime_table p_need_prime_table (defScope s_need_prime_table) := ⟨rfl, rfl, rfl, by decide +kernel, rfl, by decide +kernel, by decide +kernel⟩
abbrev s_value_at : Stmt := topS 44
abbrev n_value_at : List Str := ["entries", "x", "y", "prime", "total", "power", "entry"]
abbrev p_value_at : List Str := ["entries", "x", "y", "prime"]
theorem st_value_at {v0 : V} {v1 : V} {v2 : V} {v3 : V} : L2.start n_value_at [v0, v1, v2, v3] = [some v0, some v1, some v2, some v3, none, none, none] := rfl
theorem sc_value_at : FnScope n_value_at p_value_at (defScope s_value_at) := ⟨rfl, rfl, rfl, by decide +kernel, rfl, by decide +kernel, by decide +kernel⟩
abbrev s_changed_modulo : Stmt := topS 45
abbrev n_changed_modulo : List Str := ["entries", "table", "prime", "small"]
abbrev p_changed_modulo : List Str := ["entries", "table", "prime"]
theorem st_changed_modulo {v0 : V} {v1 : V} {v2 : V} : L2.start n_changed_modulo [v0, v1, v2] = [some v0, some v1, some v2, none] := rfl
theorem sc_changed_modulo : FnScope n_changed_modulo p_changed_modulo (defScope s_changed_modulo) := ⟨rfl, rfl, rfl, by decide +kernel, rfl, by decide +kernel, by decide +kernel⟩
abbrev s_need_like : Stmt := topS 47
abbrev n_need_like : List Str := ["one", "value"]
abbrev p_need_like : List Str := ["one", "value"]
theorem st_need_like {v0 : V} {v1 : V} : L2.start n_need_like [v0, v1] = [some v0, some v1] := rfl
theorem sc_need_like : FnScope n_need_like p_need_like (defScope s_need_like) := ⟨rfl, rfl, rfl, by decide +kernel, rfl, by decide +kernel, by decide +kernel⟩
abbrev s_law_dice : Stmt := topS 49
abbrev n_law_dice : List Str := ["_law_script", "_law_spot", "_law_cell", "_law_left"]
abbrev p_law_dice : List Str := ["_law_script", "_law_spot"]
theorem st_law_dice {v0 : V} {v1 : V} : L2.start n_law_dice [v0, v1] = [some v0, some v1, none, none] := rfl
theorem sc_law_dice : FnScope n_law_dice p_law_dice (defScope s_law_dice) := ⟨rfl, rfl, rfl, by decide +kernel, rfl, by decide +kernel, by decide +kernel⟩
abbrev s_law_roll : Stmt := topS 50
abbrev n_law_roll : List Str := ["_law_dice_here", "_law_total", "_law_found", "_law_one", "_law_two"]
abbrev p_law_roll : List Str := ["_law_dice_here", "_law_total"]
theorem st_law_roll {v0 : V} {v1 : V} : L2.start n_law_roll [v0, v1] = [some v0, some v1, none, none, none] := rfl
theorem sc_law_roll : FnScope n_law_roll p_law_roll (defScope s_law_roll) := ⟨rfl, rfl, rfl, by decide +kernel, rfl, by decide +kernel, by decide +kernel⟩
abbrev s_law_pick : Stmt := topS 51
abbrev n_law_pick : List Str := ["_law_dice_here", "_law_items"]
abbrev p_law_pick : List Str := ["_law_dice_here", "_law_items"]
theorem st_law_pick {v0 : V} {v1 : V} : L2.start n_law_pick [v0, v1] = [some v0, some v1] := rfl
theorem sc_law_pick : FnScope n_law_pick p_law_pick (defScope s_law_pick) := ⟨rfl, rfl, rfl, by decide +kernel, rfl, by decide +kernel, by decide +kernel⟩
abbrev s_law_near : Stmt := topS 52
abbrev n_law_near : List Str := ["_law_dice_here", "_law_most"]
abbrev p_law_near : List Str := ["_law_dice_here", "_law_most"]
theorem st_law_near {v0 : V} {v1 : V} : L2.start n_law_near [v0, v1] = [some v0, some v1] := rfl
theorem sc_law_near : FnScope n_law_near p_law_near (defScope s_law_near) := ⟨rfl, rfl, rfl, by decide +kernel, rfl, by decide +kernel, by decide +kernel⟩
abbrev s_law_gcd : Stmt := topS 53
abbrev n_law_gcd : List Str := ["_law_one", "_law_other"]
abbrev p_law_gcd : List Str := ["_law_one", "_law_other"]
theorem st_law_gcd {v0 : V} {v1 : V} : L2.start n_law_gcd [v0, v1] = [some v0, some v1] := rfl
theorem sc_law_gcd : FnScope n_law_gcd p_law_gcd (defScope s_law_gcd) := ⟨rfl, rfl, rfl, by decide +kernel, rfl, by decide +kernel, by decide +kernel⟩
abbrev s_law_shared : Stmt := topS 54
abbrev n_law_shared : List Str := ["_law_numbers", "_law_found", "_law_number"]
abbrev p_law_shared : List Str := ["_law_numbers"]
theorem st_law_shared {v0 : V} : L2.start n_law_shared [v0] = [some v0, none, none] := rfl
theorem sc_law_shared : FnScope n_law_shared p_law_shared (defScope s_law_shared) := ⟨rfl, rfl, rfl, by decide +kernel, rfl, by decide +kernel, by decide +kernel⟩
abbrev s_law_plus : Stmt := topS 55
abbrev n_law_plus : List Str := ["_law_one", "_law_other", "_law_first", "_law_second"]
abbrev p_law_plus : List Str := ["_law_one", "_law_other"]
theorem st_law_plus {v0 : V} {v1 : V} : L2.start n_law_plus [v0, v1] = [some v0, some v1, none, none] := rfl
theorem sc_law_plus : FnScope n_law_plus p_law_plus (defScope s_law_plus) := ⟨rfl, rfl, rfl, by decide +kernel, rfl, by decide +kernel, by decide +kernel⟩
abbrev s_law_scaled : Stmt := topS 56
abbrev n_law_scaled : List Str := ["_law_form_here", "_law_factor", "_law_entry"]
abbrev p_law_scaled : List Str := ["_law_form_here", "_law_factor"]
theorem st_law_scaled {v0 : V} {v1 : V} : L2.start n_law_scaled [v0, v1] = [some v0, some v1, none] := rfl
theorem sc_law_scaled : FnScope n_law_scaled p_law_scaled (defScope s_law_scaled) := ⟨rfl, rfl, rfl, by decide +kernel, rfl, by decide +kernel, by decide +kernel⟩
abbrev s_law_product : Stmt := topS 57
abbrev n_law_product : List Str := ["_law_one", "_law_other", "_law_found", "_law_at", "_law_first", "_law_place", "_law_second"]
abbrev p_law_product : List Str := ["_law_one", "_law_other"]
theorem st_law_product {v0 : V} {v1 : V} : L2.start n_law_product [v0, v1] = [some v0, some v1, none, none, none, none, none] := rfl
theorem sc_law_product : FnScope n_law_product p_law_product (defScope s_law_product) := ⟨rfl, rfl, rfl, by decide +kernel, rfl, by decide +kernel, by decide +kernel⟩
abbrev s_law_all_product : Stmt := topS 58
abbrev n_law_all_product : List Str := ["_law_forms", "_law_found", "_law_form_here"]
abbrev p_law_all_product : List Str := ["_law_forms"]
theorem st_law_all_product {v0 : V} : L2.start n_law_all_product [v0] = [some v0, none, none] := rfl
theorem sc_law_all_product : FnScope n_law_all_product p_law_all_product (defScope s_law_all_product) := ⟨rfl, rfl, rfl, by decide +kernel, rfl, by decide +kernel, by decide +kernel⟩
abbrev s_law_power : Stmt := topS 59
abbrev n_law_power : List Str := ["_law_pair", "_law_times", "_law_found", "_law_turn"]
abbrev p_law_power : List Str := ["_law_pair", "_law_times"]
theorem st_law_power {v0 : V} {v1 : V} : L2.start n_law_power [v0, v1] = [some v0, some v1, none, none] := rfl
theorem sc_law_power : FnScope n_law_power p_law_power (defScope s_law_power) := ⟨rfl, rfl, rfl, by decide +kernel, rfl, by decide +kernel, by decide +kernel⟩
abbrev s_law_changed : Stmt := topS 60
abbrev n_law_changed : List Str := ["_law_form_here", "_law_table", "_law_found", "_law_at", "_law_entry", "_law_piece"]
abbrev p_law_changed : List Str := ["_law_form_here", "_law_table"]
theorem st_law_changed {v0 : V} {v1 : V} : L2.start n_law_changed [v0, v1] = [some v0, some v1, none, none, none, none] := rfl
theorem sc_law_changed : FnScope n_law_changed p_law_changed (defScope s_law_changed) := ⟨rfl, rfl, rfl, by decide +kernel, rfl, by decide +kernel, by decide +kernel⟩
abbrev s_law_value : Stmt := topS 61
abbrev n_law_value : List Str := ["_law_form_here", "_law_x", "_law_y", "_law_found", "_law_power_here", "_law_entry"]
abbrev p_law_value : List Str := ["_law_form_here", "_law_x", "_law_y"]
theorem st_law_value {v0 : V} {v1 : V} {v2 : V} : L2.start n_law_value [v0, v1, v2] = [some v0, some v1, some v2, none, none, none] := rfl
theorem sc_law_value : FnScope n_law_value p_law_value (defScope s_law_value) := ⟨rfl, rfl, rfl, by decide +kernel, rfl, by decide +kernel, by decide +kernel⟩
abbrev s_law_plain : Stmt := topS 62
abbrev n_law_plain : List Str := ["_law_form_here", "_law_part", "_law_first", "_law_entry"]
abbrev p_law_plain : List Str := ["_law_form_here"]
theorem st_law_plain {v0 : V} : L2.start n_law_plain [v0] = [some v0, none, none, none] := rfl
theorem sc_law_plain : FnScope n_law_plain p_law_plain (defScope s_law_plain) := ⟨rfl, rfl, rfl, by decide +kernel, rfl, by decide +kernel, by decide +kernel⟩
abbrev s_law_line : Stmt := topS 63
abbrev n_law_line : List Str := ["_law_point_here"]
abbrev p_law_line : List Str := ["_law_point_here"]
theorem st_law_line {v0 : V} : L2.start n_law_line [v0] = [some v0] := rfl
theorem sc_law_line : FnScope n_law_line p_law_line (defScope s_law_line) := ⟨rfl, rfl, rfl, by decide +kernel, rfl, by decide +kernel, by decide +kernel⟩
abbrev s_law_point : Stmt := topS 64
abbrev n_law_point : List Str := ["_law_dice_here", "_law_most", "_law_one", "_law_other"]
abbrev p_law_point : List Str := ["_law_dice_here", "_law_most"]
theorem st_law_point {v0 : V} {v1 : V} : L2.start n_law_point [v0, v1] = [some v0, some v1, none, none] := rfl
theorem sc_law_point : FnScope n_law_point p_law_point (defScope s_law_point) := ⟨rfl, rfl, rfl, by decide +kernel, rfl, by decide +kernel, by decide +kernel⟩
abbrev s_law_small_form : Stmt := topS 65
abbrev n_law_small_form : List Str := ["_law_dice_here", "_law_degree", "_law_most", "_law_place"]
abbrev p_law_small_form : List Str := ["_law_dice_here", "_law_degree", "_law_most"]
theorem st_law_small_form {v0 : V} {v1 : V} {v2 : V} : L2.start n_law_small_form [v0, v1, v2] = [some v0, some v1, some v2, none] := rfl
theorem sc_law_small_form : FnScope n_law_small_form p_law_small_form (defScope s_law_small_form) := ⟨rfl, rfl, rfl, by decide +kernel, rfl, by decide +kernel, by decide +kernel⟩
abbrev s_law_form : Stmt := topS 66
abbrev n_law_form : List Str := ["_law_dice_here", "_law_degree", "_law_way", "_law_line_here", "_law_often", "_law_found", "_law_turn", "_law_place"]
abbrev p_law_form : List Str := ["_law_dice_here", "_law_degree"]
theorem st_law_form {v0 : V} {v1 : V} : L2.start n_law_form [v0, v1] = [some v0, some v1, none, none, none, none, none, none] := rfl
theorem sc_law_form : FnScope n_law_form p_law_form (defScope s_law_form) := ⟨rfl, rfl, rfl, by decide +kernel, rfl, by decide +kernel, by decide +kernel⟩
abbrev s_law_joined : Stmt := topS 67
abbrev n_law_joined : List Str := ["_law_one", "_law_other", "_law_rows", "_law_first", "_law_second", "_law_at"]
abbrev p_law_joined : List Str := ["_law_one", "_law_other"]
theorem st_law_joined {v0 : V} {v1 : V} : L2.start n_law_joined [v0, v1] = [some v0, some v1, none, none, none, none] := rfl
theorem sc_law_joined : FnScope n_law_joined p_law_joined (defScope s_law_joined) := ⟨rfl, rfl, rfl, by decide +kernel, rfl, by decide +kernel, by decide +kernel⟩
abbrev s_law_det : Stmt := topS 68
abbrev n_law_det : List Str := ["_law_table"]
abbrev p_law_det : List Str := ["_law_table"]
theorem st_law_det {v0 : V} : L2.start n_law_det [v0] = [some v0] := rfl
theorem sc_law_det : FnScope n_law_det p_law_det (defScope s_law_det) := ⟨rfl, rfl, rfl, by decide +kernel, rfl, by decide +kernel, by decide +kernel⟩
abbrev s_law_left_by : Stmt := topS 69
abbrev n_law_left_by : List Str := ["_law_entries", "_law_prime", "_law_entry"]
abbrev p_law_left_by : List Str := ["_law_entries", "_law_prime"]
theorem st_law_left_by {v0 : V} {v1 : V} : L2.start n_law_left_by [v0, v1] = [some v0, some v1, none] := rfl
theorem sc_law_left_by : FnScope n_law_left_by p_law_left_by (defScope s_law_left_by) := ⟨rfl, rfl, rfl, by decide +kernel, rfl, by decide +kernel, by decide +kernel⟩
abbrev s_law_undo_by : Stmt := topS 70
abbrev n_law_undo_by : List Str := ["_law_number", "_law_prime", "_law_found", "_law_base", "_law_left"]
abbrev p_law_undo_by : List Str := ["_law_number", "_law_prime"]
theorem st_law_undo_by {v0 : V} {v1 : V} : L2.start n_law_undo_by [v0, v1] = [some v0, some v1, none, none, none] := rfl
theorem sc_law_undo_by : FnScope n_law_undo_by p_law_undo_by (defScope s_law_undo_by) := ⟨rfl, rfl, rfl, by decide +kernel, rfl, by decide +kernel, by decide +kernel⟩
abbrev s_law_first_one : Stmt := topS 71
abbrev n_law_first_one : List Str := ["_law_entries", "_law_prime", "_law_some", "_law_entry"]
abbrev p_law_first_one : List Str := ["_law_entries", "_law_prime"]
theorem st_law_first_one {v0 : V} {v1 : V} : L2.start n_law_first_one [v0, v1] = [some v0, some v1, none, none] := rfl
theorem sc_law_first_one : FnScope n_law_first_one p_law_first_one (defScope s_law_first_one) := ⟨rfl, rfl, rfl, by decide +kernel, rfl, by decide +kernel, by decide +kernel⟩
abbrev s_law_some_prime : Stmt := topS 72
abbrev n_law_some_prime : List Str := ["_law_dice_here"]
abbrev p_law_some_prime : List Str := ["_law_dice_here"]
theorem st_law_some_prime {v0 : V} : L2.start n_law_some_prime [v0] = [some v0] := rfl
theorem sc_law_some_prime : FnScope n_law_some_prime p_law_some_prime (defScope s_law_some_prime) := ⟨rfl, rfl, rfl, by decide +kernel, rfl, by decide +kernel, by decide +kernel⟩
abbrev s_law_prime_table : Stmt := topS 73
abbrev n_law_prime_table : List Str := ["_law_dice_here", "_law_prime", "_law_most", "_law_found", "_law_row"]
abbrev p_law_prime_table : List Str := ["_law_dice_here", "_law_prime"]
theorem st_law_prime_table {v0 : V} {v1 : V} : L2.start n_law_prime_table [v0, v1] = [some v0, some v1, none, none, none] := rfl
theorem sc_law_prime_table : FnScope n_law_prime_table p_law_prime_table (defScope s_law_prime_table) := ⟨rfl, rfl, rfl, by decide +kernel, rfl, by decide +kernel, by decide +kernel⟩
abbrev s_law_is_told : Stmt := topS 74
abbrev n_law_is_told : List Str := ["_law_form_here", "_law_prime", "_law_entries", "_law_due", "_law_text", "_law_entry"]
abbrev p_law_is_told : List Str := ["_law_form_here", "_law_prime", "_law_entries"]
theorem st_law_is_told {v0 : V} {v1 : V} {v2 : V} : L2.start n_law_is_told [v0, v1, v2] = [some v0, some v1, some v2, none, none, none] := rfl
theorem sc_law_is_told : FnScope n_law_is_told p_law_is_told (defScope s_law_is_told) := ⟨rfl, rfl, rfl, by decide +kernel, rfl, by decide +kernel, by decide +kernel⟩
abbrev s_law_right : Stmt := topS 75
abbrev n_law_right : List Str := ["_law_dice_here", "_law_prime", "_law_one", "_law_other", "_law_first", "_law_second", "_law_both", "_law_x", "_law_y", "_law_here", "_law_there", "_law_table", "_law_more", "_law_told"]
abbrev p_law_right : List Str := ["_law_dice_here"]
theorem st_law_right {v0 : V} : L2.start n_law_right [v0] = [some v0, none, none, none, none, none, none, none, none, none, none, none, none, none] := rfl
theorem sc_law_right : FnScope n_law_right p_law_right (defScope s_law_right) := ⟨rfl, rfl, rfl, by decide +kernel, rfl, by decide +kernel, by decide +kernel⟩
abbrev s_law : Stmt := topS 76
abbrev n_law : List Str := ["_law_script", "_law_spot", "_law_small", "_law_large", "_law_told"]
abbrev p_law : List Str := ["_law_script"]
theorem st_law {v0 : V} : L2.start n_law [v0] = [some v0, none, none, none, none] := rfl
theorem sc_law : FnScope n_law p_law (defScope s_law) := ⟨rfl, rfl, rfl, by decide +kernel, rfl, by decide +kernel, by decide +kernel⟩
abbrev s_Form___init__ : Stmt := inClass (topS 31) 0
abbrev n_Form___init__ : List Str := ["self", "entries"]
abbrev p_Form___init__ : List Str := ["self", "entries"]
theorem st_Form___init__ {v0 : V} {v1 : V} : L2.start n_Form___init__ [v0, v1] = [some v0, some v1] := rfl
theorem sc_Form___init__ : FnScope n_Form___init__ p_Form___init__ (defScope s_Form___init__) := ⟨rfl, rfl, rfl, by decide +kernel, rfl, by decide +kernel, by decide +kernel⟩
abbrev s_Form_entries : Stmt := inClass (topS 31) 3
abbrev n_Form_entries : List Str := ["self"]
abbrev p_Form_entries : List Str := ["self"]
theorem st_Form_entries {v0 : V} : L2.start n_Form_entries [v0] = [some v0] := rfl
theorem sc_Form_entries : FnScope n_Form_entries p_Form_entries (defScope s_Form_entries) := ⟨rfl, rfl, rfl, by decide +kernel, rfl, by decide +kernel, by decide +kernel⟩
abbrev s_Form_degree : Stmt := inClass (topS 31) 4
abbrev n_Form_degree : List Str := ["self"]
abbrev p_Form_degree : List Str := ["self"]
theorem st_Form_degree {v0 : V} : L2.start n_Form_degree [v0] = [some v0] := rfl
theorem sc_Form_degree : FnScope n_Form_degree p_Form_degree (defScope s_Form_degree) := ⟨rfl, rfl, rfl, by decide +kernel, rfl, by decide +kernel, by decide +kernel⟩
abbrev s_PrimeForm___init__ : Stmt := inClass (topS 46) 0
abbrev n_PrimeForm___init__ : List Str := ["self", "prime", "entries"]
abbrev p_PrimeForm___init__ : List Str := ["self", "prime", "entries"]
theorem st_PrimeForm___init__ {v0 : V} {v1 : V} {v2 : V} : L2.start n_PrimeForm___init__ [v0, v1, v2] = [some v0, some v1, some v2] := rfl
theorem sc_PrimeForm___init__ : FnScope n_PrimeForm___init__ p_PrimeForm___init__ (defScope s_PrimeForm___init__) := ⟨rfl, rfl, rfl, by decide +kernel, rfl, by decide +kernel, by decide +kernel⟩
abbrev s_PrimeForm_of_form : Stmt := inClass (topS 46) 1
abbrev n_PrimeForm_of_form : List Str := ["cls", "form", "prime"]
abbrev p_PrimeForm_of_form : List Str := ["cls", "form", "prime"]
theorem st_PrimeForm_of_form {v0 : V} {v1 : V} {v2 : V} : L2.start n_PrimeForm_of_form [v0, v1, v2] = [some v0, some v1, some v2] := rfl
theorem sc_PrimeForm_of_form : FnScope n_PrimeForm_of_form p_PrimeForm_of_form (defScope s_PrimeForm_of_form) := ⟨rfl, rfl, rfl, by decide +kernel, rfl, by decide +kernel, by decide +kernel⟩
abbrev s_PrimeForm_prime : Stmt := inClass (topS 46) 2
abbrev n_PrimeForm_prime : List Str := ["self"]
abbrev p_PrimeForm_prime : List Str := ["self"]
theorem st_PrimeForm_prime {v0 : V} : L2.start n_PrimeForm_prime [v0] = [some v0] := rfl
theorem sc_PrimeForm_prime : FnScope n_PrimeForm_prime p_PrimeForm_prime (defScope s_PrimeForm_prime) := ⟨rfl, rfl, rfl, by decide +kernel, rfl, by decide +kernel, by decide +kernel⟩
abbrev s_PrimeForm_entries : Stmt := inClass (topS 46) 3
abbrev n_PrimeForm_entries : List Str := ["self"]
abbrev p_PrimeForm_entries : List Str := ["self"]
theorem st_PrimeForm_entries {v0 : V} : L2.start n_PrimeForm_entries [v0] = [some v0] := rfl
theorem sc_PrimeForm_entries : FnScope n_PrimeForm_entries p_PrimeForm_entries (defScope s_PrimeForm_entries) := ⟨rfl, rfl, rfl, by decide +kernel, rfl, by decide +kernel, by decide +kernel⟩
abbrev s_PrimeForm_degree : Stmt := inClass (topS 46) 4
abbrev n_PrimeForm_degree : List Str := ["self"]
abbrev p_PrimeForm_degree : List Str := ["self"]
theorem st_PrimeForm_degree {v0 : V} : L2.start n_PrimeForm_degree [v0] = [some v0] := rfl
theorem sc_PrimeForm_degree : FnScope n_PrimeForm_degree p_PrimeForm_degree (defScope s_PrimeForm_degree) := ⟨rfl, rfl, rfl, by decide +kernel, rfl, by decide +kernel, by decide +kernel⟩
abbrev s_PrimeForm_is_zero : Stmt := inClass (topS 46) 5
abbrev n_PrimeForm_is_zero : List Str := ["self"]
abbrev p_PrimeForm_is_zero : List Str := ["self"]
theorem st_PrimeForm_is_zero {v0 : V} : L2.start n_PrimeForm_is_zero [v0] = [some v0] := rfl
theorem sc_PrimeForm_is_zero : FnScope n_PrimeForm_is_zero p_PrimeForm_is_zero (defScope s_PrimeForm_is_zero) := ⟨rfl, rfl, rfl, by decide +kernel, rfl, by decide +kernel, by decide +kernel⟩
abbrev s_PrimeForm_plain : Stmt := inClass (topS 46) 6
abbrev n_PrimeForm_plain : List Str := ["self"]
abbrev p_PrimeForm_plain : List Str := ["self"]
theorem st_PrimeForm_plain {v0 : V} : L2.start n_PrimeForm_plain [v0] = [some v0] := rfl
theorem sc_PrimeForm_plain : FnScope n_PrimeForm_plain p_PrimeForm_plain (defScope s_PrimeForm_plain) := ⟨rfl, rfl, rfl, by decide +kernel, rfl, by decide +kernel, by decide +kernel⟩
abbrev s_PrimeForm_value : Stmt := inClass (topS 46) 7
abbrev n_PrimeForm_value : List Str := ["self", "x", "y"]
abbrev p_PrimeForm_value : List Str := ["self", "x", "y"]
theorem st_PrimeForm_value {v0 : V} {v1 : V} {v2 : V} : L2.start n_PrimeForm_value [v0, v1, v2] = [some v0, some v1, some v2] := rfl
theorem sc_PrimeForm_value : FnScope n_PrimeForm_value p_PrimeForm_value (defScope s_PrimeForm_value) := ⟨rfl, rfl, rfl, by decide +kernel, rfl, by decide +kernel, by decide +kernel⟩
abbrev s_PrimeForm_changed : Stmt := inClass (topS 46) 8
abbrev n_PrimeForm_changed : List Str := ["self", "table"]
abbrev p_PrimeForm_changed : List Str := ["self", "table"]
theorem st_PrimeForm_changed {v0 : V} {v1 : V} : L2.start n_PrimeForm_changed [v0, v1] = [some v0, some v1] := rfl
theorem sc_PrimeForm_changed : FnScope n_PrimeForm_changed p_PrimeForm_changed (defScope s_PrimeForm_changed) := ⟨rfl, rfl, rfl, by decide +kernel, rfl, by decide +kernel, by decide +kernel⟩
abbrev s_PrimeForm___mul__ : Stmt := inClass (topS 46) 13
abbrev n_PrimeForm___mul__ : List Str := ["self", "other"]
abbrev p_PrimeForm___mul__ : List Str := ["self", "other"]
theorem st_PrimeForm___mul__ {v0 : V} {v1 : V} : L2.start n_PrimeForm___mul__ [v0, v1] = [some v0, some v1] := rfl
theorem sc_PrimeForm___mul__ : FnScope n_PrimeForm___mul__ p_PrimeForm___mul__ (defScope s_PrimeForm___mul__) := ⟨rfl, rfl, rfl, by decide +kernel, rfl, by decide +kernel, by decide +kernel⟩
abbrev s_PrimeForm___eq__ : Stmt := inClass (topS 46) 14
abbrev n_PrimeForm___eq__ : List Str := ["self", "other"]
abbrev p_PrimeForm___eq__ : List Str := ["self", "other"]
theorem st_PrimeForm___eq__ {v0 : V} {v1 : V} : L2.start n_PrimeForm___eq__ [v0, v1] = [some v0, some v1] := rfl
theorem sc_PrimeForm___eq__ : FnScope n_PrimeForm___eq__ p_PrimeForm___eq__ (defScope s_PrimeForm___eq__) := ⟨rfl, rfl, rfl, by decide +kernel, rfl, by decide +kernel, by decide +kernel⟩
abbrev s_PrimeForm___str__ : Stmt := inClass (topS 46) 15
abbrev n_PrimeForm___str__ : List Str := ["self", "told", "entry"]
abbrev p_PrimeForm___str__ : List Str := ["self"]
theorem st_PrimeForm___str__ {v0 : V} : L2.start n_PrimeForm___str__ [v0] = [some v0, none, none] := rfl
theorem sc_PrimeForm___str__ : FnScope n_PrimeForm___str__ p_PrimeForm___str__ (defScope s_PrimeForm___str__) := ⟨rfl, rfl, rfl, by decide +kernel, rfl, by decide +kernel, by decide +kernel⟩
set_option genInjectivity false in
set_option genSizeOf false in
structure Tx (K : PySem.W.Frag) (mg : Str → Option Value) where
  f_wall : Addr
  d_wall : FuncData
  F_wall : Fun K "_wall" "_wall" s_wall f_wall d_wall
  b_wall : Binds K d_wall p_wall []
  m_wall : mg "_wall" = some (.ref f_wall)
  f_is_integer : Addr
  d_is_integer : FuncData
  F_is_integer : Fun K "is_integer" "is_integer" s_is_integer f_is_integer d_is_integer
  b_is_integer : Binds K d_is_integer p_is_integer []
  m_is_integer : mg "is_integer" = some (.ref f_is_integer)
  f_is_within : Addr
  d_is_within : FuncData
  F_is_within : Fun K "is_within" "is_within" s_is_within f_is_within d_is_within
  b_is_within : Binds K d_is_within p_is_within []
  m_is_within : mg "is_within" = some (.ref f_is_within)
  f_need_number : Addr
  d_need_number : FuncData
  F_need_number : Fun K "need_number" "need_number" s_need_number f_need_number d_need_number
  b_need_number : Binds K d_need_number p_need_number []
  m_need_number : mg "need_number" = some (.ref f_need_number)
  f_is_row : Addr
  d_is_row : FuncData
  F_is_row : Fun K "is_row" "is_row" s_is_row f_is_row d_is_row
  b_is_row : Binds K d_is_row p_is_row []
  m_is_row : mg "is_row" = some (.ref f_is_row)
  f_is_pair : Addr
  d_is_pair : FuncData
  F_is_pair : Fun K "is_pair" "is_pair" s_is_pair f_is_pair d_is_pair
  b_is_pair : Binds K d_is_pair p_is_pair []
  m_is_pair : mg "is_pair" = some (.ref f_is_pair)
  f_is_change : Addr
  d_is_change : FuncData
  F_is_change : Fun K "is_change" "is_change" s_is_change f_is_change d_is_change
  b_is_change : Binds K d_is_change p_is_change []
  m_is_change : mg "is_change" = some (.ref f_is_change)
  f_lead_of : Addr
  d_lead_of : FuncData
  F_lead_of : Fun K "lead_of" "lead_of" s_lead_of f_lead_of d_lead_of
  b_lead_of : Binds K d_lead_of p_lead_of []
  m_lead_of : mg "lead_of" = some (.ref f_lead_of)
  f_powers_of : Addr
  d_powers_of : FuncData
  F_powers_of : Fun K "powers_of" "powers_of" s_powers_of f_powers_of d_powers_of
  b_powers_of : Binds K d_powers_of p_powers_of []
  m_powers_of : mg "powers_of" = some (.ref f_powers_of)
  f_need_form : Addr
  d_need_form : FuncData
  F_need_form : Fun K "need_form" "need_form" s_need_form f_need_form d_need_form
  b_need_form : Binds K d_need_form p_need_form []
  m_need_form : mg "need_form" = some (.ref f_need_form)
  f_product_row : Addr
  d_product_row : FuncData
  F_product_row : Fun K "product_row" "product_row" s_product_row f_product_row d_product_row
  b_product_row : Binds K d_product_row p_product_row []
  m_product_row : mg "product_row" = some (.ref f_product_row)
  f_sum_row : Addr
  d_sum_row : FuncData
  F_sum_row : Fun K "sum_row" "sum_row" s_sum_row f_sum_row d_sum_row
  b_sum_row : Binds K d_sum_row p_sum_row []
  m_sum_row : mg "sum_row" = some (.ref f_sum_row)
  f_multiple_row : Addr
  d_multiple_row : FuncData
  F_multiple_row : Fun K "multiple_row" "multiple_row" s_multiple_row f_multiple_row d_multiple_row
  b_multiple_row : Binds K d_multiple_row p_multiple_row []
  m_multiple_row : mg "multiple_row" = some (.ref f_multiple_row)
  f_changed_row : Addr
  d_changed_row : FuncData
  F_changed_row : Fun K "changed_row" "changed_row" s_changed_row f_changed_row d_changed_row
  b_changed_row : Binds K d_changed_row p_changed_row []
  m_changed_row : mg "changed_row" = some (.ref f_changed_row)
  f_power_row : Addr
  d_power_row : FuncData
  F_power_row : Fun K "power_row" "power_row" s_power_row f_power_row d_power_row
  b_power_row : Binds K d_power_row p_power_row []
  m_power_row : mg "power_row" = some (.ref f_power_row)
  f_row_value : Addr
  d_row_value : FuncData
  F_row_value : Fun K "row_value" "row_value" s_row_value f_row_value d_row_value
  b_row_value : Binds K d_row_value p_row_value []
  m_row_value : mg "row_value" = some (.ref f_row_value)
  f_made_form : Addr
  d_made_form : FuncData
  F_made_form : Fun K "made_form" "made_form" s_made_form f_made_form d_made_form
  b_made_form : Binds K d_made_form p_made_form []
  m_made_form : mg "made_form" = some (.ref f_made_form)
  f_need_one_degree : Addr
  d_need_one_degree : FuncData
  F_need_one_degree : Fun K "need_one_degree" "need_one_degree" s_need_one_degree f_need_one_degree d_need_one_degree
  b_need_one_degree : Binds K d_need_one_degree p_need_one_degree []
  m_need_one_degree : mg "need_one_degree" = some (.ref f_need_one_degree)
  f_modulo : Addr
  d_modulo : FuncData
  F_modulo : Fun K "modulo" "modulo" s_modulo f_modulo d_modulo
  b_modulo : Binds K d_modulo p_modulo []
  m_modulo : mg "modulo" = some (.ref f_modulo)
  f_power_of : Addr
  d_power_of : FuncData
  F_power_of : Fun K "power_of" "power_of" s_power_of f_power_of d_power_of
  b_power_of : Binds K d_power_of p_power_of []
  m_power_of : mg "power_of" = some (.ref f_power_of)
  f_inverse_of : Addr
  d_inverse_of : FuncData
  F_inverse_of : Fun K "inverse_of" "inverse_of" s_inverse_of f_inverse_of d_inverse_of
  b_inverse_of : Binds K d_inverse_of p_inverse_of []
  m_inverse_of : mg "inverse_of" = some (.ref f_inverse_of)
  f_plain_row : Addr
  d_plain_row : FuncData
  F_plain_row : Fun K "plain_row" "plain_row" s_plain_row f_plain_row d_plain_row
  b_plain_row : Binds K d_plain_row p_plain_row []
  m_plain_row : mg "plain_row" = some (.ref f_plain_row)
  f_need_prime : Addr
  d_need_prime : FuncData
  F_need_prime : Fun K "need_prime" "need_prime" s_need_prime f_need_prime d_need_prime
  b_need_prime : Binds K d_need_prime p_need_prime []
  m_need_prime : mg "need_prime" = some (.ref f_need_prime)
  f_determinant_of : Addr
  d_determinant_of : FuncData
  F_determinant_of : Fun K "determinant_of" "determinant_of" s_determinant_of f_determinant_of d_determinant_of
  b_determinant_of : Binds K d_determinant_of p_determinant_of []
  m_determinant_of : mg "determinant_of" = some (.ref f_determinant_of)
  f_need_prime_table : Addr
  d_need_prime_table : FuncData
  F_need_prime_table : Fun K "need_prime_table" "need_prime_table" s_need_prime_table f_need_prime_table d_need_prime_table
  b_need_prime_table : Binds K d_need_prime_table p_need_prime_table []
  m_need_prime_table : mg "need_prime_table" = some (.ref f_need_prime_table)
  f_value_at : Addr
  d_value_at : FuncData
  F_value_at : Fun K "value_at" "value_at" s_value_at f_value_at d_value_at
  b_value_at : Binds K d_value_at p_value_at []
  m_value_at : mg "value_at" = some (.ref f_value_at)
  f_changed_modulo : Addr
  d_changed_modulo : FuncData
  F_changed_modulo : Fun K "changed_modulo" "changed_modulo" s_changed_modulo f_changed_modulo d_changed_modulo
  b_changed_modulo : Binds K d_changed_modulo p_changed_modulo []
  m_changed_modulo : mg "changed_modulo" = some (.ref f_changed_modulo)
  f_need_like : Addr
  d_need_like : FuncData
  F_need_like : Fun K "need_like" "need_like" s_need_like f_need_like d_need_like
  b_need_like : Binds K d_need_like p_need_like []
  m_need_like : mg "need_like" = some (.ref f_need_like)
  f_law_dice : Addr
  d_law_dice : FuncData
  F_law_dice : Fun K "_law_dice" "_law_dice" s_law_dice f_law_dice d_law_dice
  b_law_dice : Binds K d_law_dice p_law_dice []
  m_law_dice : mg "_law_dice" = some (.ref f_law_dice)
  f_law_roll : Addr
  d_law_roll : FuncData
  F_law_roll : Fun K "_law_roll" "_law_roll" s_law_roll f_law_roll d_law_roll
  b_law_roll : Binds K d_law_roll p_law_roll []
  m_law_roll : mg "_law_roll" = some (.ref f_law_roll)
  f_law_pick : Addr
  d_law_pick : FuncData
  F_law_pick : Fun K "_law_pick" "_law_pick" s_law_pick f_law_pick d_law_pick
  b_law_pick : Binds K d_law_pick p_law_pick []
  m_law_pick : mg "_law_pick" = some (.ref f_law_pick)
  f_law_near : Addr
  d_law_near : FuncData
  F_law_near : Fun K "_law_near" "_law_near" s_law_near f_law_near d_law_near
  b_law_near : Binds K d_law_near p_law_near []
  m_law_near : mg "_law_near" = some (.ref f_law_near)
  f_law_gcd : Addr
  d_law_gcd : FuncData
  F_law_gcd : Fun K "_law_gcd" "_law_gcd" s_law_gcd f_law_gcd d_law_gcd
  b_law_gcd : Binds K d_law_gcd p_law_gcd []
  m_law_gcd : mg "_law_gcd" = some (.ref f_law_gcd)
  f_law_shared : Addr
  d_law_shared : FuncData
  F_law_shared : Fun K "_law_shared" "_law_shared" s_law_shared f_law_shared d_law_shared
  b_law_shared : Binds K d_law_shared p_law_shared []
  m_law_shared : mg "_law_shared" = some (.ref f_law_shared)
  f_law_plus : Addr
  d_law_plus : FuncData
  F_law_plus : Fun K "_law_plus" "_law_plus" s_law_plus f_law_plus d_law_plus
  b_law_plus : Binds K d_law_plus p_law_plus []
  m_law_plus : mg "_law_plus" = some (.ref f_law_plus)
  f_law_scaled : Addr
  d_law_scaled : FuncData
  F_law_scaled : Fun K "_law_scaled" "_law_scaled" s_law_scaled f_law_scaled d_law_scaled
  b_law_scaled : Binds K d_law_scaled p_law_scaled []
  m_law_scaled : mg "_law_scaled" = some (.ref f_law_scaled)
  f_law_product : Addr
  d_law_product : FuncData
  F_law_product : Fun K "_law_product" "_law_product" s_law_product f_law_product d_law_product
  b_law_product : Binds K d_law_product p_law_product []
  m_law_product : mg "_law_product" = some (.ref f_law_product)
  f_law_all_product : Addr
  d_law_all_product : FuncData
  F_law_all_product : Fun K "_law_all_product" "_law_all_product" s_law_all_product f_law_all_product d_law_all_product
  b_law_all_product : Binds K d_law_all_product p_law_all_product []
  m_law_all_product : mg "_law_all_product" = some (.ref f_law_all_product)
  f_law_power : Addr
  d_law_power : FuncData
  F_law_power : Fun K "_law_power" "_law_power" s_law_power f_law_power d_law_power
  b_law_power : Binds K d_law_power p_law_power []
  m_law_power : mg "_law_power" = some (.ref f_law_power)
  f_law_changed : Addr
  d_law_changed : FuncData
  F_law_changed : Fun K "_law_changed" "_law_changed" s_law_changed f_law_changed d_law_changed
  b_law_changed : Binds K d_law_changed p_law_changed []
  m_law_changed : mg "_law_changed" = some (.ref f_law_changed)
  f_law_value : Addr
  d_law_value : FuncData
  F_law_value : Fun K "_law_value" "_law_value" s_law_value f_law_value d_law_value
  b_law_value : Binds K d_law_value p_law_value []
  m_law_value : mg "_law_value" = some (.ref f_law_value)
  f_law_plain : Addr
  d_law_plain : FuncData
  F_law_plain : Fun K "_law_plain" "_law_plain" s_law_plain f_law_plain d_law_plain
  b_law_plain : Binds K d_law_plain p_law_plain []
  m_law_plain : mg "_law_plain" = some (.ref f_law_plain)
  f_law_line : Addr
  d_law_line : FuncData
  F_law_line : Fun K "_law_line" "_law_line" s_law_line f_law_line d_law_line
  b_law_line : Binds K d_law_line p_law_line []
  m_law_line : mg "_law_line" = some (.ref f_law_line)
  f_law_point : Addr
  d_law_point : FuncData
  F_law_point : Fun K "_law_point" "_law_point" s_law_point f_law_point d_law_point
  b_law_point : Binds K d_law_point p_law_point []
  m_law_point : mg "_law_point" = some (.ref f_law_point)
  f_law_small_form : Addr
  d_law_small_form : FuncData
  F_law_small_form : Fun K "_law_small_form" "_law_small_form" s_law_small_form f_law_small_form d_law_small_form
  b_law_small_form : Binds K d_law_small_form p_law_small_form []
  m_law_small_form : mg "_law_small_form" = some (.ref f_law_small_form)
  f_law_form : Addr
  d_law_form : FuncData
  F_law_form : Fun K "_law_form" "_law_form" s_law_form f_law_form d_law_form
  b_law_form : Binds K d_law_form p_law_form []
  m_law_form : mg "_law_form" = some (.ref f_law_form)
  f_law_joined : Addr
  d_law_joined : FuncData
  F_law_joined : Fun K "_law_joined" "_law_joined" s_law_joined f_law_joined d_law_joined
  b_law_joined : Binds K d_law_joined p_law_joined []
  m_law_joined : mg "_law_joined" = some (.ref f_law_joined)
  f_law_det : Addr
  d_law_det : FuncData
  F_law_det : Fun K "_law_det" "_law_det" s_law_det f_law_det d_law_det
  b_law_det : Binds K d_law_det p_law_det []
  m_law_det : mg "_law_det" = some (.ref f_law_det)
  f_law_left_by : Addr
  d_law_left_by : FuncData
  F_law_left_by : Fun K "_law_left_by" "_law_left_by" s_law_left_by f_law_left_by d_law_left_by
  b_law_left_by : Binds K d_law_left_by p_law_left_by []
  m_law_left_by : mg "_law_left_by" = some (.ref f_law_left_by)
  f_law_undo_by : Addr
  d_law_undo_by : FuncData
  F_law_undo_by : Fun K "_law_undo_by" "_law_undo_by" s_law_undo_by f_law_undo_by d_law_undo_by
  b_law_undo_by : Binds K d_law_undo_by p_law_undo_by []
  m_law_undo_by : mg "_law_undo_by" = some (.ref f_law_undo_by)
  f_law_first_one : Addr
  d_law_first_one : FuncData
  F_law_first_one : Fun K "_law_first_one" "_law_first_one" s_law_first_one f_law_first_one d_law_first_one
  b_law_first_one : Binds K d_law_first_one p_law_first_one []
  m_law_first_one : mg "_law_first_one" = some (.ref f_law_first_one)
  f_law_some_prime : Addr
  d_law_some_prime : FuncData
  F_law_some_prime : Fun K "_law_some_prime" "_law_some_prime" s_law_some_prime f_law_some_prime d_law_some_prime
  b_law_some_prime : Binds K d_law_some_prime p_law_some_prime []
  m_law_some_prime : mg "_law_some_prime" = some (.ref f_law_some_prime)
  f_law_prime_table : Addr
  d_law_prime_table : FuncData
  F_law_prime_table : Fun K "_law_prime_table" "_law_prime_table" s_law_prime_table f_law_prime_table d_law_prime_table
  b_law_prime_table : Binds K d_law_prime_table p_law_prime_table []
  m_law_prime_table : mg "_law_prime_table" = some (.ref f_law_prime_table)
  f_law_is_told : Addr
  d_law_is_told : FuncData
  F_law_is_told : Fun K "_law_is_told" "_law_is_told" s_law_is_told f_law_is_told d_law_is_told
  b_law_is_told : Binds K d_law_is_told p_law_is_told []
  m_law_is_told : mg "_law_is_told" = some (.ref f_law_is_told)
  f_law_right : Addr
  d_law_right : FuncData
  F_law_right : Fun K "_law_right" "_law_right" s_law_right f_law_right d_law_right
  b_law_right : Binds K d_law_right p_law_right []
  m_law_right : mg "_law_right" = some (.ref f_law_right)
  f_law : Addr
  d_law : FuncData
  F_law : Fun K "law" "law" s_law f_law d_law
  b_law : Binds K d_law p_law []
  m_law : mg "law" = some (.ref f_law)
  f_Form___init__ : Addr
  d_Form___init__ : FuncData
  F_Form___init__ : Fun K "__init__" "Form.__init__" s_Form___init__ f_Form___init__ d_Form___init__
  b_Form___init__ : Binds K d_Form___init__ p_Form___init__ []
  f_Form_entries : Addr
  d_Form_entries : FuncData
  F_Form_entries : Fun K "entries" "Form.entries" s_Form_entries f_Form_entries d_Form_entries
  b_Form_entries : Binds K d_Form_entries p_Form_entries []
  f_Form_degree : Addr
  d_Form_degree : FuncData
  F_Form_degree : Fun K "degree" "Form.degree" s_Form_degree f_Form_degree d_Form_degree
  b_Form_degree : Binds K d_Form_degree p_Form_degree []
  f_PrimeForm___init__ : Addr
  d_PrimeForm___init__ : FuncData
  F_PrimeForm___init__ : Fun K "__init__" "PrimeForm.__init__" s_PrimeForm___init__ f_PrimeForm___init__ d_PrimeForm___init__
  b_PrimeForm___init__ : Binds K d_PrimeForm___init__ p_PrimeForm___init__ []
  f_PrimeForm_of_form : Addr
  d_PrimeForm_of_form : FuncData
  F_PrimeForm_of_form : Fun K "of_form" "PrimeForm.of_form" s_PrimeForm_of_form f_PrimeForm_of_form d_PrimeForm_of_form
  b_PrimeForm_of_form : Binds K d_PrimeForm_of_form p_PrimeForm_of_form []
  f_PrimeForm_prime : Addr
  d_PrimeForm_prime : FuncData
  F_PrimeForm_prime : Fun K "prime" "PrimeForm.prime" s_PrimeForm_prime f_PrimeForm_prime d_PrimeForm_prime
  b_PrimeForm_prime : Binds K d_PrimeForm_prime p_PrimeForm_prime []
  f_PrimeForm_entries : Addr
  d_PrimeForm_entries : FuncData
  F_PrimeForm_entries : Fun K "entries" "PrimeForm.entries" s_PrimeForm_entries f_PrimeForm_entries d_PrimeForm_entries
  b_PrimeForm_entries : Binds K d_PrimeForm_entries p_PrimeForm_entries []
  f_PrimeForm_degree : Addr
  d_PrimeForm_degree : FuncData
  F_PrimeForm_degree : Fun K "degree" "PrimeForm.degree" s_PrimeForm_degree f_PrimeForm_degree d_PrimeForm_degree
  b_PrimeForm_degree : Binds K d_PrimeForm_degree p_PrimeForm_degree []
  f_PrimeForm_is_zero : Addr
  d_PrimeForm_is_zero : FuncData
  F_PrimeForm_is_zero : Fun K "is_zero" "PrimeForm.is_zero" s_PrimeForm_is_zero f_PrimeForm_is_zero d_PrimeForm_is_zero
  b_PrimeForm_is_zero : Binds K d_PrimeForm_is_zero p_PrimeForm_is_zero []
  f_PrimeForm_plain : Addr
  d_PrimeForm_plain : FuncData
  F_PrimeForm_plain : Fun K "plain" "PrimeForm.plain" s_PrimeForm_plain f_PrimeForm_plain d_PrimeForm_plain
  b_PrimeForm_plain : Binds K d_PrimeForm_plain p_PrimeForm_plain []
  f_PrimeForm_value : Addr
  d_PrimeForm_value : FuncData
  F_PrimeForm_value : Fun K "value" "PrimeForm.value" s_PrimeForm_value f_PrimeForm_value d_PrimeForm_value
  b_PrimeForm_value : Binds K d_PrimeForm_value p_PrimeForm_value []
  f_PrimeForm_changed : Addr
  d_PrimeForm_changed : FuncData
  F_PrimeForm_changed : Fun K "changed" "PrimeForm.changed" s_PrimeForm_changed f_PrimeForm_changed d_PrimeForm_changed
  b_PrimeForm_changed : Binds K d_PrimeForm_changed p_PrimeForm_changed []
  f_PrimeForm___mul__ : Addr
  d_PrimeForm___mul__ : FuncData
  F_PrimeForm___mul__ : Fun K "__mul__" "PrimeForm.__mul__" s_PrimeForm___mul__ f_PrimeForm___mul__ d_PrimeForm___mul__
  b_PrimeForm___mul__ : Binds K d_PrimeForm___mul__ p_PrimeForm___mul__ []
  f_PrimeForm___eq__ : Addr
  d_PrimeForm___eq__ : FuncData
  F_PrimeForm___eq__ : Fun K "__eq__" "PrimeForm.__eq__" s_PrimeForm___eq__ f_PrimeForm___eq__ d_PrimeForm___eq__
  b_PrimeForm___eq__ : Binds K d_PrimeForm___eq__ p_PrimeForm___eq__ []
  f_PrimeForm___str__ : Addr
  d_PrimeForm___str__ : FuncData
  F_PrimeForm___str__ : Fun K "__str__" "PrimeForm.__str__" s_PrimeForm___str__ f_PrimeForm___str__ d_PrimeForm___str__
  b_PrimeForm___str__ : Binds K d_PrimeForm___str__ p_PrimeForm___str__ []
  C_Form : Addr
  mg_Form : mg "Form" = some (.ref C_Form)
  cl_Form : Cls K C_Form
  mk_Form : Mk K C_Form f_Form___init__
  sf_Form : PySem.W.selfFirst K C_Form = true
  nf_Form : PySem.W.notFirst K C_Form (.ref C_Form) = true
  no_Form_entries : NoAttr K C_Form "_entries"
  me_Form___init__ : Meth K C_Form "__init__" f_Form___init__
  pa_Form_entries : Addr
  pr_Form_entries : PropOf K C_Form "entries" pa_Form_entries f_Form_entries
  pa_Form_degree : Addr
  pr_Form_degree : PropOf K C_Form "degree" pa_Form_degree f_Form_degree
  x_int : PySem.W.subIn K (.type "int") (.ref C_Form) = some false
  x_tup : PySem.W.subIn K (.type "tuple") (.ref C_Form) = some false
  x_ty : PySem.W.typeIn K (.ref C_Form) = some (.type "type")
  x_obj : PySem.W.mroIn K C_Form (.type "object") = some true
  x_cls : PySem.W.findIn K (.ref C_Form) "__class__" = some (some (.builtin "object.__class__"))
  x_get : PySem.W.specialIn K (.builtin "object.__class__") "__get__" = some (some (.builtin "getset_descriptor.__get__"))
  x_tak : PySem.W.takesIn K (.builtin "object.__class__") = some true
  x_rmul : PySem.W.findIn K (.ref C_Form) "__rmul__" = some none
  x_imul : PySem.W.findIn K (.type "int") "__mul__" = some (some (.builtin "int.__mul__"))
  x_irmul : PySem.W.findIn K (.type "int") "__rmul__" = some (some (.builtin "int.__rmul__"))
  x_ne : PySem.W.findIn K (.ref C_Form) "__ne__" = some (some (.builtin "object.__ne__"))
  C_PrimeForm : Addr
  mg_PrimeForm : mg "PrimeForm" = some (.ref C_PrimeForm)
  cl_PrimeForm : Cls K C_PrimeForm
  mk_PrimeForm : Mk K C_PrimeForm f_PrimeForm___init__
  sf_PrimeForm : PySem.W.selfFirst K C_PrimeForm = true
  nf_PrimeForm : PySem.W.notFirst K C_PrimeForm (.ref C_PrimeForm) = true
  no_PrimeForm_prime : NoAttr K C_PrimeForm "_prime"
  no_PrimeForm_entries : NoAttr K C_PrimeForm "_entries"
  me_PrimeForm___init__ : Meth K C_PrimeForm "__init__" f_PrimeForm___init__
  cr_PrimeForm : ClX.CRead K C_PrimeForm (.type "type")
  pa_PrimeForm_of_form : Addr
  cm_PrimeForm_of_form : ClX.CMet K C_PrimeForm (.type "type") "of_form" pa_PrimeForm_of_form f_PrimeForm_of_form
  pa_PrimeForm_prime : Addr
  pr_PrimeForm_prime : PropOf K C_PrimeForm "prime" pa_PrimeForm_prime f_PrimeForm_prime
  pa_PrimeForm_entries : Addr
  pr_PrimeForm_entries : PropOf K C_PrimeForm "entries" pa_PrimeForm_entries f_PrimeForm_entries
  pa_PrimeForm_degree : Addr
  pr_PrimeForm_degree : PropOf K C_PrimeForm "degree" pa_PrimeForm_degree f_PrimeForm_degree
  pa_PrimeForm_is_zero : Addr
  pr_PrimeForm_is_zero : PropOf K C_PrimeForm "is_zero" pa_PrimeForm_is_zero f_PrimeForm_is_zero
  pa_PrimeForm_plain : Addr
  pr_PrimeForm_plain : PropOf K C_PrimeForm "plain" pa_PrimeForm_plain f_PrimeForm_plain
  me_PrimeForm_value : Meth K C_PrimeForm "value" f_PrimeForm_value
  me_PrimeForm_changed : Meth K C_PrimeForm "changed" f_PrimeForm_changed
  me_PrimeForm___mul__ : Meth K C_PrimeForm "__mul__" f_PrimeForm___mul__
  me_PrimeForm___eq__ : Meth K C_PrimeForm "__eq__" f_PrimeForm___eq__
  me_PrimeForm___str__ : Meth K C_PrimeForm "__str__" f_PrimeForm___str__
  px_int : PySem.W.subIn K (.type "int") (.ref C_PrimeForm) = some false
  px_tup : PySem.W.subIn K (.type "tuple") (.ref C_PrimeForm) = some false
  px_ty : PySem.W.typeIn K (.ref C_PrimeForm) = some (.type "type")
  px_ne : PySem.W.findIn K (.ref C_PrimeForm) "__ne__" = some (some (.builtin "object.__ne__"))
  px_obj : PySem.W.mroIn K C_PrimeForm (.type "object") = some true
  px_nft : PySem.W.notFirst K C_PrimeForm (.type "tuple") = true
  px_cls : PySem.W.findIn K (.ref C_PrimeForm) "__class__" = some (some (.builtin "object.__class__"))
  px_get : PySem.W.specialIn K (.builtin "object.__class__") "__get__" = some (some (.builtin "getset_descriptor.__get__"))
  px_tak : PySem.W.takesIn K (.builtin "object.__class__") = some true
  z_NotImplemented : mg "NotImplemented" = none
  z_abs : mg "abs" = none
  z_all : mg "all" = none
  z_bool : mg "bool" = none
  z_classmethod : mg "classmethod" = none
  z_enumerate : mg "enumerate" = none
  z_int : mg "int" = none
  z_isinstance : mg "isinstance" = none
  z_len : mg "len" = none
  z_max : mg "max" = none
  z_min : mg "min" = none
  z_property : mg "property" = none
  z_range : mg "range" = none
  z_repr : mg "repr" = none
  z_str : mg "str" = none
  z_tuple : mg "tuple" = none
  z_zip : mg "zip" = none
  i_comb : mg "comb" = some (.builtin "math.comb")
  t_TOO_LONG : Tok
  c_TOO_LONG : mg "TOO_LONG" = some (.int 1000000000000000000000000000000000000000000000000000000000000 t_TOO_LONG)
  t_MAX_DEGREE : Tok
  c_MAX_DEGREE : mg "MAX_DEGREE" = some (.int 40 t_MAX_DEGREE)
  t_MOST_DEGREE : Tok
  c_MOST_DEGREE : mg "MOST_DEGREE" = some (.int 12 t_MOST_DEGREE)
  o_PRIMES : Addr
  c_PRIMES : mg "PRIMES" = some (.ref o_PRIMES)
  v_PRIMES : ∀ H, SqT K H o_PRIMES (([13, 17, 19, 23, 29, 31, 37, 41, 43, 47, 53, 59, 61, 67, 71, 73, 79, 83, 89, 97, 101] : List Int).map V.int)
end My
namespace My
open PySem PySem.Spec PyProof.Rows L2 Pr
section
variable {P : Program} {w : World} {K : PySem.W.Frag} {mg : Str → Option Value} {base : Heap}
def isI : V → Bool
  | .int i => decide (-(10 ^ 60) < i ∧ i < 10 ^ 60)
  | _ => false
def sp_is_integer : Sp := fun vs H Q _ => ∃ x, vs = [x] ∧ (∃ t, tyOf x H = some t) ∧ Q (.bl (isI x)) H
theorem kit_ii : kitB "int" "int" = some true := by decide +kernel
theorem kit_ib : kitB "int" "bool" = some false := by decide +kernel
theorem kit_bi : kitB "bool" "int" = some true := by decide +kernel
theorem kit_bb : kitB "bool" "bool" = some true := by decide +kernel
theorem kit_ni : kitB "NoneType" "int" = some false := by decide +kernel
theorem kit_si : kitB "str" "int" = some false := by decide +kernel
theorem kit_li : kitB "list" "int" = some false := by decide +kernel
theorem kit_ti : kitB "tuple" "int" = some false := by decide +kernel
theorem kit_di : kitB "dict" "int" = some false := by decide +kernel
theorem kit_tt : kitB "tuple" "tuple" = some true := by decide +kernel
theorem ok_is_integer (T : Tx K mg) : FnOk P w K mg base CX0 1 T.f_is_integer T.d_is_integer p_is_integer sp_is_integer := by
  refine T.F_is_integer.ok sc_is_integer (fun vs H Q E h => ?_) (fun cdv A outer s H vs Q E hr h => ?_)
  · obtain ⟨i, rfl, _⟩ := h
    rfl
  · obtain ⟨x, rfl, ⟨t, ht⟩, q⟩ := h
    refine ⟨_, (pss_cons (ps_if (PW.pt (pw_or (pt_not (pt_val (pe_callB cr_isiS (by rfl) T.z_isinstance (by decide +kernel) (pa_cons (pv 0) (pa_cons (pe_bltn (v := .ty "int") (by rfl) T.z_int (by decide +kernel) rfl) pa_nil))))) (pw_or1 (pt_val (pe_callB cr_isiS (by rfl) T.z_isinstance (by decide +kernel) (pa_cons (pv 0) (pa_cons (pe_bltn (v := .ty "bool") (by rfl) T.z_bool (by decide +kernel) rfl) pa_nil))))))) (pss_one (ps_ret pe_bl)) pss_nil)
      (pss_one (ps_ret (pe_chain op_lt op_lt (pe_un un_neg (pe_glob (v := .int 1000000000000000000000000000000000000000000000000000000000000) (by rfl) T.c_TOO_LONG ⟨_, rfl⟩)) (pv 0) (pe_glob (v := .int 1000000000000000000000000000000000000000000000000000000000000) (by rfl) T.c_TOO_LONG ⟨_, rfl⟩))))), ?_⟩
    rw [st_is_integer]
    rcases ty_cases ht with rfl | ⟨b, rfl⟩ | ⟨i, rfl⟩ | ⟨x, rfl⟩ | ⟨a, rfl, ht2⟩
    · simp only [ap_seq, ap_next, ap_asg, ap_gName, ap_ret, ap_retN, ap_drop, ap_ifS, ap_break, ap_cont, ap_par, ap_aug, ap_ip, ap_gSub, ap_gTup, ap_gNil, ap_gCons, ap_var, ap_c, ap_op, ap_un, ap_if, ap_test, ap_B, ap_and, ap_or, ap_not, ap_andV, ap_orV, ap_notV, ap_nil, ap_cons, ap_tup, ap_lst, ap_cb, ap_bm, ap_call, ap_chain, ap_rI, ap_rI0, ap_rU, ap_rEq, ap_rNe, ap_revT, ap_sl, ap_part, ap_noPart, ap_ixLI, ap_ixTI, ap_ixLV, ap_ixTV, ap_len, ap_setLI, ap_setLV, ap_appI, ap_appV, ap_tupL, ap_listS, ap_sumLI, ap_sumTI, ap_repLI, ap_intI, ap_intB, ap_eqTI, ap_neTI, ap_eqLI, ap_neLI, ap_isi, ap_for, ap_rng1, ap_rng2, ap_iList, ap_iTup, ap_lc, ap_yes, ap_cut, ap_gTupH, ap_fmt, ap_jsn, ap_jsc, ap_gcd, ap_isqrt, ap_ixL, tyV_l, wipe_nil, wipe_cons, upd_same, ap_iEnT, ap_iEnL, ap_iZipA, ap_all, ap_tupT, ap_attF, ap_makeL, ap_att, ap_prop, ap_isO, ap_bin, ap_ne, ap_meth, ap_make, ins_inj, FE_inj, ap_slI, ap_catI, ap_perm, ap_lenO, ap_strO, ap_listO, ap_reprB, ap_iterT, ap_neT, ap_negO, ap_binI, ap_catL, ap_tM1, ap_repTI, ap_popN, ap_par3, ap_catTT, ap_repTA, ap_countT, ap_notInT, ap_repL1, ap_cm, ap_shl, ap_shr, ap_mask, ap_comb, ap_bits, ap_rng3, List.set_cons_zero, List.set_cons_succ, List.getElem?_cons_zero, List.getElem?_cons_succ, List.cons_append, List.nil_append, List.append_nil, Option.some.injEq, V.int.injEq, V.ref.injEq, V.bl.injEq, V.str.injEq, V.ty.injEq, Bool.not_true, Bool.not_false, HO.lst.injEq, HO.tup.injEq, reduceCtorEq, Int.reduceToNat, Int.reduceLT, Int.reduceLE, Nat.reduceAdd, Int.cast_ofNat_Int, gi_c0, gi_c1, gi_c2, gi_c3, Int.natCast_inj, map_int_inj, map_nil_iff, List.cons.injEq, exists_eq_left, exists_eq_left', exists_eq, exists_eq', exists_and_left, exists_and_right, exists_const, and_assoc, and_true, true_and, and_false, false_and, or_false, false_or, or_true, true_or, ite_true, ite_false, if_true, if_false, Bool.false_eq_true, own_cons, own_nil, le1, le2, le3, le4, me_cons, me_nil, List.length_map, List.length_cons, List.length_nil, ne_eq, not_false_eq_true, not_true_eq_false, decide_eq_true_eq, ty_non, kit_ni]
      exact q
    · simp only [ap_seq, ap_next, ap_asg, ap_gName, ap_ret, ap_retN, ap_drop, ap_ifS, ap_break, ap_cont, ap_par, ap_aug, ap_ip, ap_gSub, ap_gTup, ap_gNil, ap_gCons, ap_var, ap_c, ap_op, ap_un, ap_if, ap_test, ap_B, ap_and, ap_or, ap_not, ap_andV, ap_orV, ap_notV, ap_nil, ap_cons, ap_tup, ap_lst, ap_cb, ap_bm, ap_call, ap_chain, ap_rI, ap_rI0, ap_rU, ap_rEq, ap_rNe, ap_revT, ap_sl, ap_part, ap_noPart, ap_ixLI, ap_ixTI, ap_ixLV, ap_ixTV, ap_len, ap_setLI, ap_setLV, ap_appI, ap_appV, ap_tupL, ap_listS, ap_sumLI, ap_sumTI, ap_repLI, ap_intI, ap_intB, ap_eqTI, ap_neTI, ap_eqLI, ap_neLI, ap_isi, ap_for, ap_rng1, ap_rng2, ap_iList, ap_iTup, ap_lc, ap_yes, ap_cut, ap_gTupH, ap_fmt, ap_jsn, ap_jsc, ap_gcd, ap_isqrt, ap_ixL, tyV_l, wipe_nil, wipe_cons, upd_same, ap_iEnT, ap_iEnL, ap_iZipA, ap_all, ap_tupT, ap_attF, ap_makeL, ap_att, ap_prop, ap_isO, ap_bin, ap_ne, ap_meth, ap_make, ins_inj, FE_inj, ap_slI, ap_catI, ap_perm, ap_lenO, ap_strO, ap_listO, ap_reprB, ap_iterT, ap_neT, ap_negO, ap_binI, ap_catL, ap_tM1, ap_repTI, ap_popN, ap_par3, ap_catTT, ap_repTA, ap_countT, ap_notInT, ap_repL1, ap_cm, ap_shl, ap_shr, ap_mask, ap_comb, ap_bits, ap_rng3, List.set_cons_zero, List.set_cons_succ, List.getElem?_cons_zero, List.getElem?_cons_succ, List.cons_append, List.nil_append, List.append_nil, Option.some.injEq, V.int.injEq, V.ref.injEq, V.bl.injEq, V.str.injEq, V.ty.injEq, Bool.not_true, Bool.not_false, HO.lst.injEq, HO.tup.injEq, reduceCtorEq, Int.reduceToNat, Int.reduceLT, Int.reduceLE, Nat.reduceAdd, Int.cast_ofNat_Int, gi_c0, gi_c1, gi_c2, gi_c3, Int.natCast_inj, map_int_inj, map_nil_iff, List.cons.injEq, exists_eq_left, exists_eq_left', exists_eq, exists_eq', exists_and_left, exists_and_right, exists_const, and_assoc, and_true, true_and, and_false, false_and, or_false, false_or, or_true, true_or, ite_true, ite_false, if_true, if_false, Bool.false_eq_true, own_cons, own_nil, le1, le2, le3, le4, me_cons, me_nil, List.length_map, List.length_cons, List.length_nil, ne_eq, not_false_eq_true, not_true_eq_false, decide_eq_true_eq, ty_bl, kit_bi, kit_bb]
      exact q
    · simp only [ap_seq, ap_next, ap_asg, ap_gName, ap_ret, ap_retN, ap_drop, ap_ifS, ap_break, ap_cont, ap_par, ap_aug, ap_ip, ap_gSub, ap_gTup, ap_gNil, ap_gCons, ap_var, ap_c, ap_op, ap_un, ap_if, ap_test, ap_B, ap_and, ap_or, ap_not, ap_andV, ap_orV, ap_notV, ap_nil, ap_cons, ap_tup, ap_lst, ap_cb, ap_bm, ap_call, ap_chain, ap_rI, ap_rI0, ap_rU, ap_rEq, ap_rNe, ap_revT, ap_sl, ap_part, ap_noPart, ap_ixLI, ap_ixTI, ap_ixLV, ap_ixTV, ap_len, ap_setLI, ap_setLV, ap_appI, ap_appV, ap_tupL, ap_listS, ap_sumLI, ap_sumTI, ap_repLI, ap_intI, ap_intB, ap_eqTI, ap_neTI, ap_eqLI, ap_neLI, ap_isi, ap_for, ap_rng1, ap_rng2, ap_iList, ap_iTup, ap_lc, ap_yes, ap_cut, ap_gTupH, ap_fmt, ap_jsn, ap_jsc, ap_gcd, ap_isqrt, ap_ixL, tyV_l, wipe_nil, wipe_cons, upd_same, ap_iEnT, ap_iEnL, ap_iZipA, ap_all, ap_tupT, ap_attF, ap_makeL, ap_att, ap_prop, ap_isO, ap_bin, ap_ne, ap_meth, ap_make, ins_inj, FE_inj, ap_slI, ap_catI, ap_perm, ap_lenO, ap_strO, ap_listO, ap_reprB, ap_iterT, ap_neT, ap_negO, ap_binI, ap_catL, ap_tM1, ap_repTI, ap_popN, ap_par3, ap_catTT, ap_repTA, ap_countT, ap_notInT, ap_repL1, ap_cm, ap_shl, ap_shr, ap_mask, ap_comb, ap_bits, ap_rng3, List.set_cons_zero, List.set_cons_succ, List.getElem?_cons_zero, List.getElem?_cons_succ, List.cons_append, List.nil_append, List.append_nil, Option.some.injEq, V.int.injEq, V.ref.injEq, V.bl.injEq, V.str.injEq, V.ty.injEq, Bool.not_true, Bool.not_false, HO.lst.injEq, HO.tup.injEq, reduceCtorEq, Int.reduceToNat, Int.reduceLT, Int.reduceLE, Nat.reduceAdd, Int.cast_ofNat_Int, gi_c0, gi_c1, gi_c2, gi_c3, Int.natCast_inj, map_int_inj, map_nil_iff, List.cons.injEq, exists_eq_left, exists_eq_left', exists_eq, exists_eq', exists_and_left, exists_and_right, exists_const, and_assoc, and_true, true_and, and_false, false_and, or_false, false_or, or_true, true_or, ite_true, ite_false, if_true, if_false, Bool.false_eq_true, own_cons, own_nil, le1, le2, le3, le4, me_cons, me_nil, List.length_map, List.length_cons, List.length_nil, ne_eq, not_false_eq_true, not_true_eq_false, decide_eq_true_eq, ty_int, kit_ii, kit_ib]
      have e : isI (.int i) = decide (-(10 ^ 60) < i ∧ i < 10 ^ 60) := rfl
      refine iteC (fun c => ?_) (fun c => ?_)
      · have : decide (i < 1000000000000000000000000000000000000000000000000000000000000) = isI (.int i) := by
          rw [e]
          exact decide_eq_decide.mpr (by omega)
        rw [this]
        exact q
      · have : false = isI (.int i) := by
          rw [e, decide_eq_false (by omega)]
        rw [this]
        exact q
    · simp only [ap_seq, ap_next, ap_asg, ap_gName, ap_ret, ap_retN, ap_drop, ap_ifS, ap_break, ap_cont, ap_par, ap_aug, ap_ip, ap_gSub, ap_gTup, ap_gNil, ap_gCons, ap_var, ap_c, ap_op, ap_un, ap_if, ap_test, ap_B, ap_and, ap_or, ap_not, ap_andV, ap_orV, ap_notV, ap_nil, ap_cons, ap_tup, ap_lst, ap_cb, ap_bm, ap_call, ap_chain, ap_rI, ap_rI0, ap_rU, ap_rEq, ap_rNe, ap_revT, ap_sl, ap_part, ap_noPart, ap_ixLI, ap_ixTI, ap_ixLV, ap_ixTV, ap_len, ap_setLI, ap_setLV, ap_appI, ap_appV, ap_tupL, ap_listS, ap_sumLI, ap_sumTI, ap_repLI, ap_intI, ap_intB, ap_eqTI, ap_neTI, ap_eqLI, ap_neLI, ap_isi, ap_for, ap_rng1, ap_rng2, ap_iList, ap_iTup, ap_lc, ap_yes, ap_cut, ap_gTupH, ap_fmt, ap_jsn, ap_jsc, ap_gcd, ap_isqrt, ap_ixL, tyV_l, wipe_nil, wipe_cons, upd_same, ap_iEnT, ap_iEnL, ap_iZipA, ap_all, ap_tupT, ap_attF, ap_makeL, ap_att, ap_prop, ap_isO, ap_bin, ap_ne, ap_meth, ap_make, ins_inj, FE_inj, ap_slI, ap_catI, ap_perm, ap_lenO, ap_strO, ap_listO, ap_reprB, ap_iterT, ap_neT, ap_negO, ap_binI, ap_catL, ap_tM1, ap_repTI, ap_popN, ap_par3, ap_catTT, ap_repTA, ap_countT, ap_notInT, ap_repL1, ap_cm, ap_shl, ap_shr, ap_mask, ap_comb, ap_bits, ap_rng3, List.set_cons_zero, List.set_cons_succ, List.getElem?_cons_zero, List.getElem?_cons_succ, List.cons_append, List.nil_append, List.append_nil, Option.some.injEq, V.int.injEq, V.ref.injEq, V.bl.injEq, V.str.injEq, V.ty.injEq, Bool.not_true, Bool.not_false, HO.lst.injEq, HO.tup.injEq, reduceCtorEq, Int.reduceToNat, Int.reduceLT, Int.reduceLE, Nat.reduceAdd, Int.cast_ofNat_Int, gi_c0, gi_c1, gi_c2, gi_c3, Int.natCast_inj, map_int_inj, map_nil_iff, List.cons.injEq, exists_eq_left, exists_eq_left', exists_eq, exists_eq', exists_and_left, exists_and_right, exists_const, and_assoc, and_true, true_and, and_false, false_and, or_false, false_or, or_true, true_or, ite_true, ite_false, if_true, if_false, Bool.false_eq_true, own_cons, own_nil, le1, le2, le3, le4, me_cons, me_nil, List.length_map, List.length_cons, List.length_nil, ne_eq, not_false_eq_true, not_true_eq_false, decide_eq_true_eq, ty_str, kit_si]
      exact q
    · rcases ht2 with rfl | rfl | rfl
      · simp only [ap_seq, ap_next, ap_asg, ap_gName, ap_ret, ap_retN, ap_drop, ap_ifS, ap_break, ap_cont, ap_par, ap_aug, ap_ip, ap_gSub, ap_gTup, ap_gNil, ap_gCons, ap_var, ap_c, ap_op, ap_un, ap_if, ap_test, ap_B, ap_and, ap_or, ap_not, ap_andV, ap_orV, ap_notV, ap_nil, ap_cons, ap_tup, ap_lst, ap_cb, ap_bm, ap_call, ap_chain, ap_rI, ap_rI0, ap_rU, ap_rEq, ap_rNe, ap_revT, ap_sl, ap_part, ap_noPart, ap_ixLI, ap_ixTI, ap_ixLV, ap_ixTV, ap_len, ap_setLI, ap_setLV, ap_appI, ap_appV, ap_tupL, ap_listS, ap_sumLI, ap_sumTI, ap_repLI, ap_intI, ap_intB, ap_eqTI, ap_neTI, ap_eqLI, ap_neLI, ap_isi, ap_for, ap_rng1, ap_rng2, ap_iList, ap_iTup, ap_lc, ap_yes, ap_cut, ap_gTupH, ap_fmt, ap_jsn, ap_jsc, ap_gcd, ap_isqrt, ap_ixL, tyV_l, wipe_nil, wipe_cons, upd_same, ap_iEnT, ap_iEnL, ap_iZipA, ap_all, ap_tupT, ap_attF, ap_makeL, ap_att, ap_prop, ap_isO, ap_bin, ap_ne, ap_meth, ap_make, ins_inj, FE_inj, ap_slI, ap_catI, ap_perm, ap_lenO, ap_strO, ap_listO, ap_reprB, ap_iterT, ap_neT, ap_negO, ap_binI, ap_catL, ap_tM1, ap_repTI, ap_popN, ap_par3, ap_catTT, ap_repTA, ap_countT, ap_notInT, ap_repL1, ap_cm, ap_shl, ap_shr, ap_mask, ap_comb, ap_bits, ap_rng3, List.set_cons_zero, List.set_cons_succ, List.getElem?_cons_zero, List.getElem?_cons_succ, List.cons_append, List.nil_append, List.append_nil, Option.some.injEq, V.int.injEq, V.ref.injEq, V.bl.injEq, V.str.injEq, V.ty.injEq, Bool.not_true, Bool.not_false, HO.lst.injEq, HO.tup.injEq, reduceCtorEq, Int.reduceToNat, Int.reduceLT, Int.reduceLE, Nat.reduceAdd, Int.cast_ofNat_Int, gi_c0, gi_c1, gi_c2, gi_c3, Int.natCast_inj, map_int_inj, map_nil_iff, List.cons.injEq, exists_eq_left, exists_eq_left', exists_eq, exists_eq', exists_and_left, exists_and_right, exists_const, and_assoc, and_true, true_and, and_false, false_and, or_false, false_or, or_true, true_or, ite_true, ite_false, if_true, if_false, Bool.false_eq_true, own_cons, own_nil, le1, le2, le3, le4, me_cons, me_nil, List.length_map, List.length_cons, List.length_nil, ne_eq, not_false_eq_true, not_true_eq_false, decide_eq_true_eq, ht, kit_li]
        exact q
      · simp only [ap_seq, ap_next, ap_asg, ap_gName, ap_ret, ap_retN, ap_drop, ap_ifS, ap_break, ap_cont, ap_par, ap_aug, ap_ip, ap_gSub, ap_gTup, ap_gNil, ap_gCons, ap_var, ap_c, ap_op, ap_un, ap_if, ap_test, ap_B, ap_and, ap_or, ap_not, ap_andV, ap_orV, ap_notV, ap_nil, ap_cons, ap_tup, ap_lst, ap_cb, ap_bm, ap_call, ap_chain, ap_rI, ap_rI0, ap_rU, ap_rEq, ap_rNe, ap_revT, ap_sl, ap_part, ap_noPart, ap_ixLI, ap_ixTI, ap_ixLV, ap_ixTV, ap_len, ap_setLI, ap_setLV, ap_appI, ap_appV, ap_tupL, ap_listS, ap_sumLI, ap_sumTI, ap_repLI, ap_intI, ap_intB, ap_eqTI, ap_neTI, ap_eqLI, ap_neLI, ap_isi, ap_for, ap_rng1, ap_rng2, ap_iList, ap_iTup, ap_lc, ap_yes, ap_cut, ap_gTupH, ap_fmt, ap_jsn, ap_jsc, ap_gcd, ap_isqrt, ap_ixL, tyV_l, wipe_nil, wipe_cons, upd_same, ap_iEnT, ap_iEnL, ap_iZipA, ap_all, ap_tupT, ap_attF, ap_makeL, ap_att, ap_prop, ap_isO, ap_bin, ap_ne, ap_meth, ap_make, ins_inj, FE_inj, ap_slI, ap_catI, ap_perm, ap_lenO, ap_strO, ap_listO, ap_reprB, ap_iterT, ap_neT, ap_negO, ap_binI, ap_catL, ap_tM1, ap_repTI, ap_popN, ap_par3, ap_catTT, ap_repTA, ap_countT, ap_notInT, ap_repL1, ap_cm, ap_shl, ap_shr, ap_mask, ap_comb, ap_bits, ap_rng3, List.set_cons_zero, List.set_cons_succ, List.getElem?_cons_zero, List.getElem?_cons_succ, List.cons_append, List.nil_append, List.append_nil, Option.some.injEq, V.int.injEq, V.ref.injEq, V.bl.injEq, V.str.injEq, V.ty.injEq, Bool.not_true, Bool.not_false, HO.lst.injEq, HO.tup.injEq, reduceCtorEq, Int.reduceToNat, Int.reduceLT, Int.reduceLE, Nat.reduceAdd, Int.cast_ofNat_Int, gi_c0, gi_c1, gi_c2, gi_c3, Int.natCast_inj, map_int_inj, map_nil_iff, List.cons.injEq, exists_eq_left, exists_eq_left', exists_eq, exists_eq', exists_and_left, exists_and_right, exists_const, and_assoc, and_true, true_and, and_false, false_and, or_false, false_or, or_true, true_or, ite_true, ite_false, if_true, if_false, Bool.false_eq_true, own_cons, own_nil, le1, le2, le3, le4, me_cons, me_nil, List.length_map, List.length_cons, List.length_nil, ne_eq, not_false_eq_true, not_true_eq_false, decide_eq_true_eq, ht, kit_ti]
        exact q
      · simp only [ap_seq, ap_next, ap_asg, ap_gName, ap_ret, ap_retN, ap_drop, ap_ifS, ap_break, ap_cont, ap_par, ap_aug, ap_ip, ap_gSub, ap_gTup, ap_gNil, ap_gCons, ap_var, ap_c, ap_op, ap_un, ap_if, ap_test, ap_B, ap_and, ap_or, ap_not, ap_andV, ap_orV, ap_notV, ap_nil, ap_cons, ap_tup, ap_lst, ap_cb, ap_bm, ap_call, ap_chain, ap_rI, ap_rI0, ap_rU, ap_rEq, ap_rNe, ap_revT, ap_sl, ap_part, ap_noPart, ap_ixLI, ap_ixTI, ap_ixLV, ap_ixTV, ap_len, ap_setLI, ap_setLV, ap_appI, ap_appV, ap_tupL, ap_listS, ap_sumLI, ap_sumTI, ap_repLI, ap_intI, ap_intB, ap_eqTI, ap_neTI, ap_eqLI, ap_neLI, ap_isi, ap_for, ap_rng1, ap_rng2, ap_iList, ap_iTup, ap_lc, ap_yes, ap_cut, ap_gTupH, ap_fmt, ap_jsn, ap_jsc, ap_gcd, ap_isqrt, ap_ixL, tyV_l, wipe_nil, wipe_cons, upd_same, ap_iEnT, ap_iEnL, ap_iZipA, ap_all, ap_tupT, ap_attF, ap_makeL, ap_att, ap_prop, ap_isO, ap_bin, ap_ne, ap_meth, ap_make, ins_inj, FE_inj, ap_slI, ap_catI, ap_perm, ap_lenO, ap_strO, ap_listO, ap_reprB, ap_iterT, ap_neT, ap_negO, ap_binI, ap_catL, ap_tM1, ap_repTI, ap_popN, ap_par3, ap_catTT, ap_repTA, ap_countT, ap_notInT, ap_repL1, ap_cm, ap_shl, ap_shr, ap_mask, ap_comb, ap_bits, ap_rng3, List.set_cons_zero, List.set_cons_succ, List.getElem?_cons_zero, List.getElem?_cons_succ, List.cons_append, List.nil_append, List.append_nil, Option.some.injEq, V.int.injEq, V.ref.injEq, V.bl.injEq, V.str.injEq, V.ty.injEq, Bool.not_true, Bool.not_false, HO.lst.injEq, HO.tup.injEq, reduceCtorEq, Int.reduceToNat, Int.reduceLT, Int.reduceLE, Nat.reduceAdd, Int.cast_ofNat_Int, gi_c0, gi_c1, gi_c2, gi_c3, Int.natCast_inj, map_int_inj, map_nil_iff, List.cons.injEq, exists_eq_left, exists_eq_left', exists_eq, exists_eq', exists_and_left, exists_and_right, exists_const, and_assoc, and_true, true_and, and_false, false_and, or_false, false_or, or_true, true_or, ite_true, ite_false, if_true, if_false, Bool.false_eq_true, own_cons, own_nil, le1, le2, le3, le4, me_cons, me_nil, List.length_map, List.length_cons, List.length_nil, ne_eq, not_false_eq_true, not_true_eq_false, decide_eq_true_eq, ht, kit_di]
        exact q
/-- an int of less than sixty digits -/
def Sm (n : Int) : Prop := -(10 ^ 60) < n ∧ n < 10 ^ 60
def Wd (n : Int) : Prop := -(2 ^ 250) ^ 16 < n ∧ n < (2 ^ 250) ^ 16
def sp_is_row : Sp := fun vs H Q _ => ∃ (p : Addr) (ns : List Int), vs = [.ref p] ∧ H p = some (TI ns) ∧ ns.length < 1000 ∧ (∀ n ∈ ns, Sm n) ∧ ∀ H', Same H H' → Q (.bl true) H'
theorem ok_is_row (T : Tx K mg) : FnOk P w K mg base CX0 4 T.f_is_row T.d_is_row p_is_row sp_is_row := by
  refine T.F_is_row.ok sc_is_row (fun vs H Q E h => ?_) (fun cdv A outer s H vs Q E hr h => ?_)
  · obtain ⟨p, ns, rfl, _⟩ := h
    rfl
  · obtain ⟨p, ns, rfl, hp, hl, hn, q⟩ := h
    refine ⟨_, (pss_one (ps_ret (pe_and (pe_callB cr_isiS (by rfl) T.z_isinstance (by decide +kernel) (pa_cons (pv 0) (pa_cons (pe_bltn (v := .ty "tuple") (by rfl) T.z_tuple (by decide +kernel) rfl) pa_nil))) (pe_one (pe_callB (cr_all rfl) (by rfl) T.z_all (by decide +kernel) (pa_cons (pe_lc (own := [("part", 1)]) (g := gName 1) (tt := tYes) rfl sc_is_row.nd (pi_tup (pv 0)) (blkOk_by (N := n_is_row) (sc := defScope s_is_row) (by decide +kernel)) (fun _ _ _ _ _ => (pg_name (i := 1) sc_is_row.nd rfl (by first | exact .inl rfl | exact .inr rfl))) (fun _ _ _ _ _ => pts_nil) (fun _ _ _ _ _ => (pe_call (ok_is_integer T) (hr.mono (by decide)) (by rfl) T.m_is_integer T.F_is_integer.kp T.b_is_integer .nil pass0 (pa_cons (pv 1) pa_nil)))) pa_nil)))))), ?_⟩
    rw [st_is_row]
    have ht := ty_tup hp
    simp only [ap_seq, ap_next, ap_asg, ap_gName, ap_ret, ap_retN, ap_drop, ap_ifS, ap_break, ap_cont, ap_par, ap_aug, ap_ip, ap_gSub, ap_gTup, ap_gNil, ap_gCons, ap_var, ap_c, ap_op, ap_un, ap_if, ap_test, ap_B, ap_and, ap_or, ap_not, ap_andV, ap_orV, ap_notV, ap_nil, ap_cons, ap_tup, ap_lst, ap_cb, ap_bm, ap_call, ap_chain, ap_rI, ap_rI0, ap_rU, ap_rEq, ap_rNe, ap_revT, ap_sl, ap_part, ap_noPart, ap_ixLI, ap_ixTI, ap_ixLV, ap_ixTV, ap_len, ap_setLI, ap_setLV, ap_appI, ap_appV, ap_tupL, ap_listS, ap_sumLI, ap_sumTI, ap_repLI, ap_intI, ap_intB, ap_eqTI, ap_neTI, ap_eqLI, ap_neLI, ap_isi, ap_for, ap_rng1, ap_rng2, ap_iList, ap_iTup, ap_lc, ap_yes, ap_cut, ap_gTupH, ap_fmt, ap_jsn, ap_jsc, ap_gcd, ap_isqrt, ap_ixL, tyV_l, wipe_nil, wipe_cons, upd_same, ap_iEnT, ap_iEnL, ap_iZipA, ap_all, ap_tupT, ap_attF, ap_makeL, ap_att, ap_prop, ap_isO, ap_bin, ap_ne, ap_meth, ap_make, ins_inj, FE_inj, ap_slI, ap_catI, ap_perm, ap_lenO, ap_strO, ap_listO, ap_reprB, ap_iterT, ap_neT, ap_negO, ap_binI, ap_catL, ap_tM1, ap_repTI, ap_popN, ap_par3, ap_catTT, ap_repTA, ap_countT, ap_notInT, ap_repL1, ap_cm, ap_shl, ap_shr, ap_mask, ap_comb, ap_bits, ap_rng3, List.set_cons_zero, List.set_cons_succ, List.getElem?_cons_zero, List.getElem?_cons_succ, List.cons_append, List.nil_append, List.append_nil, Option.some.injEq, V.int.injEq, V.ref.injEq, V.bl.injEq, V.str.injEq, V.ty.injEq, Bool.not_true, Bool.not_false, HO.lst.injEq, HO.tup.injEq, reduceCtorEq, Int.reduceToNat, Int.reduceLT, Int.reduceLE, Nat.reduceAdd, Int.cast_ofNat_Int, gi_c0, gi_c1, gi_c2, gi_c3, Int.natCast_inj, map_int_inj, map_nil_iff, List.cons.injEq, exists_eq_left, exists_eq_left', exists_eq, exists_eq', exists_and_left, exists_and_right, exists_const, and_assoc, and_true, true_and, and_false, false_and, or_false, false_or, or_true, true_or, ite_true, ite_false, if_true, if_false, Bool.false_eq_true, own_cons, own_nil, le1, le2, le3, le4, me_cons, me_nil, List.length_map, List.length_cons, List.length_nil, ne_eq, not_false_eq_true, not_true_eq_false, decide_eq_true_eq, ht, kit_tt, sp_is_integer]
    refine ⟨⟨_, sqT_of hp⟩, lc_tupV (fun _ => .bl true) hp (by rw [List.length_map]; omega) (fun x => rfl) (fun i x G hx sm Q' hq => ?_) (fun D G nD sm eD => ?_)⟩
    · obtain ⟨n, hn1, rfl⟩ : ∃ n, n ∈ ns ∧ x = .int n := by
        rw [List.getElem?_map, Option.map_eq_some_iff] at hx
        obtain ⟨n, e1, e2⟩ := hx
        exact ⟨n, List.mem_of_getElem? e1, e2.symm⟩
      simp only [ap_seq, ap_next, ap_asg, ap_gName, ap_ret, ap_retN, ap_drop, ap_ifS, ap_break, ap_cont, ap_par, ap_aug, ap_ip, ap_gSub, ap_gTup, ap_gNil, ap_gCons, ap_var, ap_c, ap_op, ap_un, ap_if, ap_test, ap_B, ap_and, ap_or, ap_not, ap_andV, ap_orV, ap_notV, ap_nil, ap_cons, ap_tup, ap_lst, ap_cb, ap_bm, ap_call, ap_chain, ap_rI, ap_rI0, ap_rU, ap_rEq, ap_rNe, ap_revT, ap_sl, ap_part, ap_noPart, ap_ixLI, ap_ixTI, ap_ixLV, ap_ixTV, ap_len, ap_setLI, ap_setLV, ap_appI, ap_appV, ap_tupL, ap_listS, ap_sumLI, ap_sumTI, ap_repLI, ap_intI, ap_intB, ap_eqTI, ap_neTI, ap_eqLI, ap_neLI, ap_isi, ap_for, ap_rng1, ap_rng2, ap_iList, ap_iTup, ap_lc, ap_yes, ap_cut, ap_gTupH, ap_fmt, ap_jsn, ap_jsc, ap_gcd, ap_isqrt, ap_ixL, tyV_l, wipe_nil, wipe_cons, upd_same, ap_iEnT, ap_iEnL, ap_iZipA, ap_all, ap_tupT, ap_attF, ap_makeL, ap_att, ap_prop, ap_isO, ap_bin, ap_ne, ap_meth, ap_make, ins_inj, FE_inj, ap_slI, ap_catI, ap_perm, ap_lenO, ap_strO, ap_listO, ap_reprB, ap_iterT, ap_neT, ap_negO, ap_binI, ap_catL, ap_tM1, ap_repTI, ap_popN, ap_par3, ap_catTT, ap_repTA, ap_countT, ap_notInT, ap_repL1, ap_cm, ap_shl, ap_shr, ap_mask, ap_comb, ap_bits, ap_rng3, List.set_cons_zero, List.set_cons_succ, List.getElem?_cons_zero, List.getElem?_cons_succ, List.cons_append, List.nil_append, List.append_nil, Option.some.injEq, V.int.injEq, V.ref.injEq, V.bl.injEq, V.str.injEq, V.ty.injEq, Bool.not_true, Bool.not_false, HO.lst.injEq, HO.tup.injEq, reduceCtorEq, Int.reduceToNat, Int.reduceLT, Int.reduceLE, Nat.reduceAdd, Int.cast_ofNat_Int, gi_c0, gi_c1, gi_c2, gi_c3, Int.natCast_inj, map_int_inj, map_nil_iff, List.cons.injEq, exists_eq_left, exists_eq_left', exists_eq, exists_eq', exists_and_left, exists_and_right, exists_const, and_assoc, and_true, true_and, and_false, false_and, or_false, false_or, or_true, true_or, ite_true, ite_false, if_true, if_false, Bool.false_eq_true, own_cons, own_nil, le1, le2, le3, le4, me_cons, me_nil, List.length_map, List.length_cons, List.length_nil, ne_eq, not_false_eq_true, not_true_eq_false, decide_eq_true_eq]
      have e : isI (.int n) = true := decide_eq_true (hn n hn1)
      refine ⟨_, rfl, ⟨_, rfl⟩, ?_⟩
      rw [e]
      exact hq G (Same.refl G)
    · refine ⟨_, rfl, (List.range ns.length).map fun _ => true, sqL_of ?_, ?_⟩
      · rw [eD, List.length_map, List.map_map]
        rfl
      · have e : ((List.range ns.length).map fun _ => true).all id = true := by simp
        rw [e]
        exact q G sm
/-- the place of the first entry other than 0 -/
def leadV (ns : List Int) : V := match ns.findIdx? (fun n => decide (n ≠ 0)) with
  | none => .non
  | some i => .int (i : Nat)
theorem free_of {H H' : Hp} {l : Addr} (s : Same H H') (n : H' l = none) : H l = none := by
  rcases e : H l with _ | o
  · rfl
  · rw [s _ _ e] at n
    cases n
theorem leadV_none {ns : List Int} (h : ∀ n ∈ ns.take ns.length, n = 0) : leadV ns = .non := by
  rw [List.take_length] at h
  have e : ns.findIdx? (fun n => decide (n ≠ 0)) = none := by
    rw [List.findIdx?_eq_none_iff]
    intro n hn
    simp [h n hn]
  unfold leadV
  rw [e]
theorem leadV_some {ns : List Int} {i : Nat} {n : Int} (h : ∀ n ∈ ns.take i, n = 0) (e : ns[i]? = some n) (hn : n ≠ 0) : leadV ns = .int (i : Nat) := by
  obtain ⟨hi, e2⟩ := List.getElem?_eq_some_iff.mp e
  have e : ns.findIdx? (fun n => decide (n ≠ 0)) = some i := by
    rw [List.findIdx?_eq_some_iff_getElem]
    refine ⟨hi, by simp [e2, hn], fun j hj => ?_⟩
    have : ns[j] = 0 := h _ (List.mem_take_iff_getElem.mpr ⟨j, by omega, rfl⟩)
    simp [this]
  unfold leadV
  rw [e]
theorem at_int {ns : List Int} {i : Nat} {x : V} (h : (ns.map V.int)[i]? = some x) : ∃ n, x = .int n ∧ ns[i]? = some n := by
  rw [List.getElem?_map, Option.map_eq_some_iff] at h
  obtain ⟨n, e1, e2⟩ := h
  exact ⟨n, e2.symm, e1⟩
theorem take_step {ns : List Int} {i : Nat} {n : Int} {p : Int → Prop} (h : ∀ m ∈ ns.take i, p m) (e : ns[i]? = some n) (hn : p n) : ∀ m ∈ ns.take (i + 1), p m := by
  rw [List.take_succ, e]
  intro m hm
  rcases List.mem_append.mp hm with h1 | h1
  · exact h m h1
  · rw [show m = n by simpa using h1]
    exact hn
def sp_lead_of : Sp := fun vs H Q _ => ∃ (p : Addr) (ns : List Int), vs = [.ref p] ∧ H p = some (TI ns) ∧ ∀ H', Same H H' → Q (leadV ns) H'
theorem ok_lead_of (T : Tx K mg) : FnOk P w K mg base CX0 1 T.f_lead_of T.d_lead_of p_lead_of sp_lead_of := by
  refine T.F_lead_of.ok sc_lead_of (fun vs H Q E h => ?_) (fun cdv A outer s H vs Q E hr h => ?_)
  · obtain ⟨p, ns, rfl, _⟩ := h
    rfl
  · obtain ⟨p, ns, rfl, hp, q⟩ := h
    refine ⟨_, (pss_cons (ps_for PassesOwn.never rfl (pi_enT (by rfl) T.z_enumerate (pa_cons (pv 0) pa_nil)) (pg_tupH (n := 2) (by rfl) (pgs_cons (pg_name (i := 1) sc_lead_of.nd rfl (by first | exact .inl rfl | exact .inr rfl)) (pgs_cons (pg_name (i := 2) sc_lead_of.nd rfl (by first | exact .inl rfl | exact .inr rfl)) pgs_nil)))
      (pss_one (ps_if (pt_cmpR op_ne (pv 2) pe_int (nomark _)) (pss_one (ps_ret (pv 1))) pss_nil)))
      (pss_one (ps_ret pe_non))), ?_⟩
    rw [st_lead_of]
    simp only [ap_seq, ap_next, ap_asg, ap_gName, ap_ret, ap_retN, ap_drop, ap_ifS, ap_break, ap_cont, ap_par, ap_aug, ap_ip, ap_gSub, ap_gTup, ap_gNil, ap_gCons, ap_var, ap_c, ap_op, ap_un, ap_if, ap_test, ap_B, ap_and, ap_or, ap_not, ap_andV, ap_orV, ap_notV, ap_nil, ap_cons, ap_tup, ap_lst, ap_cb, ap_bm, ap_call, ap_chain, ap_rI, ap_rI0, ap_rU, ap_rEq, ap_rNe, ap_revT, ap_sl, ap_part, ap_noPart, ap_ixLI, ap_ixTI, ap_ixLV, ap_ixTV, ap_len, ap_setLI, ap_setLV, ap_appI, ap_appV, ap_tupL, ap_listS, ap_sumLI, ap_sumTI, ap_repLI, ap_intI, ap_intB, ap_eqTI, ap_neTI, ap_eqLI, ap_neLI, ap_isi, ap_for, ap_rng1, ap_rng2, ap_iList, ap_iTup, ap_lc, ap_yes, ap_cut, ap_gTupH, ap_fmt, ap_jsn, ap_jsc, ap_gcd, ap_isqrt, ap_ixL, tyV_l, wipe_nil, wipe_cons, upd_same, ap_iEnT, ap_iEnL, ap_iZipA, ap_all, ap_tupT, ap_attF, ap_makeL, ap_att, ap_prop, ap_isO, ap_bin, ap_ne, ap_meth, ap_make, ins_inj, FE_inj, ap_slI, ap_catI, ap_perm, ap_lenO, ap_strO, ap_listO, ap_reprB, ap_iterT, ap_neT, ap_negO, ap_binI, ap_catL, ap_tM1, ap_repTI, ap_popN, ap_par3, ap_catTT, ap_repTA, ap_countT, ap_notInT, ap_repL1, ap_cm, ap_shl, ap_shr, ap_mask, ap_comb, ap_bits, ap_rng3, List.set_cons_zero, List.set_cons_succ, List.getElem?_cons_zero, List.getElem?_cons_succ, List.cons_append, List.nil_append, List.append_nil, Option.some.injEq, V.int.injEq, V.ref.injEq, V.bl.injEq, V.str.injEq, V.ty.injEq, Bool.not_true, Bool.not_false, HO.lst.injEq, HO.tup.injEq, reduceCtorEq, Int.reduceToNat, Int.reduceLT, Int.reduceLE, Nat.reduceAdd, Int.cast_ofNat_Int, gi_c0, gi_c1, gi_c2, gi_c3, Int.natCast_inj, map_int_inj, map_nil_iff, List.cons.injEq, exists_eq_left, exists_eq_left', exists_eq, exists_eq', exists_and_left, exists_and_right, exists_const, and_assoc, and_true, true_and, and_false, false_and, or_false, false_or, or_true, true_or, ite_true, ite_false, if_true, if_false, Bool.false_eq_true, own_cons, own_nil, le1, le2, le3, le4, me_cons, me_nil, List.length_map, List.length_cons, List.length_nil, ne_eq, not_false_eq_true, not_true_eq_false, decide_eq_true_eq]
    refine ⟨⟨_, sqT_of hp⟩, loop_pair gives_en (fun i σ' H' => (∃ y z, σ' = [some (V.ref p), y, z]) ∧ Same H H' ∧ ∀ n ∈ ns.take i, n = 0) ⟨⟨_, _, rfl⟩, Same.refl H, by simp⟩ (fun i σ' H' hi hP => hP.2.1 _ _ hp) (fun i v x t σ' G hi hP nt hy => ?_) (fun σ' G hP => ?_)⟩
    · obtain ⟨⟨y, z, e⟩, sm, hz⟩ := hP
      obtain ⟨rfl, hx⟩ := hy
      obtain ⟨n, rfl, en⟩ := at_int hx
      subst e
      simp only [ap_seq, ap_next, ap_asg, ap_gName, ap_ret, ap_retN, ap_drop, ap_ifS, ap_break, ap_cont, ap_par, ap_aug, ap_ip, ap_gSub, ap_gTup, ap_gNil, ap_gCons, ap_var, ap_c, ap_op, ap_un, ap_if, ap_test, ap_B, ap_and, ap_or, ap_not, ap_andV, ap_orV, ap_notV, ap_nil, ap_cons, ap_tup, ap_lst, ap_cb, ap_bm, ap_call, ap_chain, ap_rI, ap_rI0, ap_rU, ap_rEq, ap_rNe, ap_revT, ap_sl, ap_part, ap_noPart, ap_ixLI, ap_ixTI, ap_ixLV, ap_ixTV, ap_len, ap_setLI, ap_setLV, ap_appI, ap_appV, ap_tupL, ap_listS, ap_sumLI, ap_sumTI, ap_repLI, ap_intI, ap_intB, ap_eqTI, ap_neTI, ap_eqLI, ap_neLI, ap_isi, ap_for, ap_rng1, ap_rng2, ap_iList, ap_iTup, ap_lc, ap_yes, ap_cut, ap_gTupH, ap_fmt, ap_jsn, ap_jsc, ap_gcd, ap_isqrt, ap_ixL, tyV_l, wipe_nil, wipe_cons, upd_same, ap_iEnT, ap_iEnL, ap_iZipA, ap_all, ap_tupT, ap_attF, ap_makeL, ap_att, ap_prop, ap_isO, ap_bin, ap_ne, ap_meth, ap_make, ins_inj, FE_inj, ap_slI, ap_catI, ap_perm, ap_lenO, ap_strO, ap_listO, ap_reprB, ap_iterT, ap_neT, ap_negO, ap_binI, ap_catL, ap_tM1, ap_repTI, ap_popN, ap_par3, ap_catTT, ap_repTA, ap_countT, ap_notInT, ap_repL1, ap_cm, ap_shl, ap_shr, ap_mask, ap_comb, ap_bits, ap_rng3, List.set_cons_zero, List.set_cons_succ, List.getElem?_cons_zero, List.getElem?_cons_succ, List.cons_append, List.nil_append, List.append_nil, Option.some.injEq, V.int.injEq, V.ref.injEq, V.bl.injEq, V.str.injEq, V.ty.injEq, Bool.not_true, Bool.not_false, HO.lst.injEq, HO.tup.injEq, reduceCtorEq, Int.reduceToNat, Int.reduceLT, Int.reduceLE, Nat.reduceAdd, Int.cast_ofNat_Int, gi_c0, gi_c1, gi_c2, gi_c3, Int.natCast_inj, map_int_inj, map_nil_iff, List.cons.injEq, exists_eq_left, exists_eq_left', exists_eq, exists_eq', exists_and_left, exists_and_right, exists_const, and_assoc, and_true, true_and, and_false, false_and, or_false, false_or, or_true, true_or, ite_true, ite_false, if_true, if_false, Bool.false_eq_true, own_cons, own_nil, le1, le2, le3, le4, me_cons, me_nil, List.length_map, List.length_cons, List.length_nil, ne_eq, not_false_eq_true, not_true_eq_false, decide_eq_true_eq]
      have s2 := sm.trans (same_upd (o := HO.tup [V.int (i : Nat), V.int n]) nt)
      refine ⟨rfl, iteC (fun c => ?_) (fun c => ⟨s2, take_step hz en (by simpa using c)⟩)⟩
      have q2 := q _ s2
      rw [leadV_some hz en (by simpa using c)] at q2
      exact q2
    · obtain ⟨⟨y, z, e⟩, sm, hz⟩ := hP
      subst e
      rw [List.length_map] at hz
      simp only [ap_seq, ap_next, ap_asg, ap_gName, ap_ret, ap_retN, ap_drop, ap_ifS, ap_break, ap_cont, ap_par, ap_aug, ap_ip, ap_gSub, ap_gTup, ap_gNil, ap_gCons, ap_var, ap_c, ap_op, ap_un, ap_if, ap_test, ap_B, ap_and, ap_or, ap_not, ap_andV, ap_orV, ap_notV, ap_nil, ap_cons, ap_tup, ap_lst, ap_cb, ap_bm, ap_call, ap_chain, ap_rI, ap_rI0, ap_rU, ap_rEq, ap_rNe, ap_revT, ap_sl, ap_part, ap_noPart, ap_ixLI, ap_ixTI, ap_ixLV, ap_ixTV, ap_len, ap_setLI, ap_setLV, ap_appI, ap_appV, ap_tupL, ap_listS, ap_sumLI, ap_sumTI, ap_repLI, ap_intI, ap_intB, ap_eqTI, ap_neTI, ap_eqLI, ap_neLI, ap_isi, ap_for, ap_rng1, ap_rng2, ap_iList, ap_iTup, ap_lc, ap_yes, ap_cut, ap_gTupH, ap_fmt, ap_jsn, ap_jsc, ap_gcd, ap_isqrt, ap_ixL, tyV_l, wipe_nil, wipe_cons, upd_same, ap_iEnT, ap_iEnL, ap_iZipA, ap_all, ap_tupT, ap_attF, ap_makeL, ap_att, ap_prop, ap_isO, ap_bin, ap_ne, ap_meth, ap_make, ins_inj, FE_inj, ap_slI, ap_catI, ap_perm, ap_lenO, ap_strO, ap_listO, ap_reprB, ap_iterT, ap_neT, ap_negO, ap_binI, ap_catL, ap_tM1, ap_repTI, ap_popN, ap_par3, ap_catTT, ap_repTA, ap_countT, ap_notInT, ap_repL1, ap_cm, ap_shl, ap_shr, ap_mask, ap_comb, ap_bits, ap_rng3, List.set_cons_zero, List.set_cons_succ, List.getElem?_cons_zero, List.getElem?_cons_succ, List.cons_append, List.nil_append, List.append_nil, Option.some.injEq, V.int.injEq, V.ref.injEq, V.bl.injEq, V.str.injEq, V.ty.injEq, Bool.not_true, Bool.not_false, HO.lst.injEq, HO.tup.injEq, reduceCtorEq, Int.reduceToNat, Int.reduceLT, Int.reduceLE, Nat.reduceAdd, Int.cast_ofNat_Int, gi_c0, gi_c1, gi_c2, gi_c3, Int.natCast_inj, map_int_inj, map_nil_iff, List.cons.injEq, exists_eq_left, exists_eq_left', exists_eq, exists_eq', exists_and_left, exists_and_right, exists_const, and_assoc, and_true, true_and, and_false, false_and, or_false, false_or, or_true, true_or, ite_true, ite_false, if_true, if_false, Bool.false_eq_true, own_cons, own_nil, le1, le2, le3, le4, me_cons, me_nil, List.length_map, List.length_cons, List.length_nil, ne_eq, not_false_eq_true, not_true_eq_false, decide_eq_true_eq]
      have q2 := q _ sm
      rw [leadV_none hz] at q2
      exact q2
/-- the greatest common divisor of all -/
def gcdL (ns : List Int) : Int := ns.foldl (fun a b => (Int.gcd a b : Nat)) 0
def sp_sum_row : Sp := fun vs H Q _ => ∃ (p q : Addr) (ns ms : List Int), vs = [.ref p, .ref q] ∧ H p = some (TI ns) ∧ H q = some (TI ms) ∧ ns.length = ms.length ∧ ns.length < 1000 ∧
  ∀ H' r, Same H H' → H r = none → H' r = some (TI (List.zipWith (· + ·) ns ms)) → Q (.ref r) H'
theorem ok_sum_row (T : Tx K mg) : FnOk P w K mg base CX0 1 T.f_sum_row T.d_sum_row p_sum_row sp_sum_row := by
  refine T.F_sum_row.ok sc_sum_row (fun vs H Q E h => ?_) (fun cdv A outer s H vs Q E hr h => ?_)
  · obtain ⟨p, q, ns, ms, rfl, _⟩ := h
    rfl
  · obtain ⟨p, q, ns, ms, rfl, hp, hq, hl, h1, k⟩ := h
    refine ⟨_, (pss_one (ps_ret (pe_callTy cr_tupL (by rfl) T.z_tuple (by decide +kernel) (pa_cons (pe_lc (own := [("first", 2), ("second", 3)]) (tt := tYes) rfl sc_sum_row.nd (RZ.pi_zipA (by rfl) T.z_zip (pa_cons (pv 0) (pa_cons (pv 1) pa_nil))) (blkOk_by (N := n_sum_row) (sc := defScope s_sum_row) (by decide +kernel)) (fun _ _ _ _ _ => (pg_tupH (n := 2) (by rfl) (pgs_cons (pg_name (i := 2) sc_sum_row.nd rfl (by first | exact .inl rfl | exact .inr rfl)) (pgs_cons (pg_name (i := 3) sc_sum_row.nd rfl (by first | exact .inl rfl | exact .inr rfl)) pgs_nil)))) (fun _ _ _ _ _ => pts_nil) (fun _ _ _ _ _ => (pe_op op_add (pv 2) (pv 3)))) pa_nil)))), ?_⟩
    rw [st_sum_row]
    simp only [ap_seq, ap_next, ap_asg, ap_gName, ap_ret, ap_retN, ap_drop, ap_ifS, ap_break, ap_cont, ap_par, ap_aug, ap_ip, ap_gSub, ap_gTup, ap_gNil, ap_gCons, ap_var, ap_c, ap_op, ap_un, ap_if, ap_test, ap_B, ap_and, ap_or, ap_not, ap_andV, ap_orV, ap_notV, ap_nil, ap_cons, ap_tup, ap_lst, ap_cb, ap_bm, ap_call, ap_chain, ap_rI, ap_rI0, ap_rU, ap_rEq, ap_rNe, ap_revT, ap_sl, ap_part, ap_noPart, ap_ixLI, ap_ixTI, ap_ixLV, ap_ixTV, ap_len, ap_setLI, ap_setLV, ap_appI, ap_appV, ap_tupL, ap_listS, ap_sumLI, ap_sumTI, ap_repLI, ap_intI, ap_intB, ap_eqTI, ap_neTI, ap_eqLI, ap_neLI, ap_isi, ap_for, ap_rng1, ap_rng2, ap_iList, ap_iTup, ap_lc, ap_yes, ap_cut, ap_gTupH, ap_fmt, ap_jsn, ap_jsc, ap_gcd, ap_isqrt, ap_ixL, tyV_l, wipe_nil, wipe_cons, upd_same, ap_iEnT, ap_iEnL, ap_iZipA, ap_all, ap_tupT, ap_attF, ap_makeL, ap_att, ap_prop, ap_isO, ap_bin, ap_ne, ap_meth, ap_make, ins_inj, FE_inj, ap_slI, ap_catI, ap_perm, ap_lenO, ap_strO, ap_listO, ap_reprB, ap_iterT, ap_neT, ap_negO, ap_binI, ap_catL, ap_tM1, ap_repTI, ap_popN, ap_par3, ap_catTT, ap_repTA, ap_countT, ap_notInT, ap_repL1, ap_cm, ap_shl, ap_shr, ap_mask, ap_comb, ap_bits, ap_rng3, List.set_cons_zero, List.set_cons_succ, List.getElem?_cons_zero, List.getElem?_cons_succ, List.cons_append, List.nil_append, List.append_nil, Option.some.injEq, V.int.injEq, V.ref.injEq, V.bl.injEq, V.str.injEq, V.ty.injEq, Bool.not_true, Bool.not_false, HO.lst.injEq, HO.tup.injEq, reduceCtorEq, Int.reduceToNat, Int.reduceLT, Int.reduceLE, Nat.reduceAdd, Int.cast_ofNat_Int, gi_c0, gi_c1, gi_c2, gi_c3, Int.natCast_inj, map_int_inj, map_nil_iff, List.cons.injEq, exists_eq_left, exists_eq_left', exists_eq, exists_eq', exists_and_left, exists_and_right, exists_const, and_assoc, and_true, true_and, and_false, false_and, or_false, false_or, or_true, true_or, ite_true, ite_false, if_true, if_false, Bool.false_eq_true, own_cons, own_nil, le1, le2, le3, le4, me_cons, me_nil, List.length_map, List.length_cons, List.length_nil, ne_eq, not_false_eq_true, not_true_eq_false, decide_eq_true_eq]
    refine ⟨_, _, .inr ⟨sqT_of hp, sqT_of hq, lc_pairI (gives_zipT (by simpa using hl)) (fun i => ns.getD i 0 + ms.getD i 0) (by rw [List.length_map]; omega) (fun H' s => ⟨s _ _ hp, s _ _ hq⟩) (fun x y => rfl) (fun i a b H' hi r sm Q' k' => ?_) (fun A H' hA sm e => ?_)⟩⟩
    · obtain ⟨r1, r2⟩ := r
      obtain ⟨n, rfl, en⟩ := at_int r1
      obtain ⟨m, rfl, em⟩ := at_int r2
      simp only [ap_seq, ap_next, ap_asg, ap_gName, ap_ret, ap_retN, ap_drop, ap_ifS, ap_break, ap_cont, ap_par, ap_aug, ap_ip, ap_gSub, ap_gTup, ap_gNil, ap_gCons, ap_var, ap_c, ap_op, ap_un, ap_if, ap_test, ap_B, ap_and, ap_or, ap_not, ap_andV, ap_orV, ap_notV, ap_nil, ap_cons, ap_tup, ap_lst, ap_cb, ap_bm, ap_call, ap_chain, ap_rI, ap_rI0, ap_rU, ap_rEq, ap_rNe, ap_revT, ap_sl, ap_part, ap_noPart, ap_ixLI, ap_ixTI, ap_ixLV, ap_ixTV, ap_len, ap_setLI, ap_setLV, ap_appI, ap_appV, ap_tupL, ap_listS, ap_sumLI, ap_sumTI, ap_repLI, ap_intI, ap_intB, ap_eqTI, ap_neTI, ap_eqLI, ap_neLI, ap_isi, ap_for, ap_rng1, ap_rng2, ap_iList, ap_iTup, ap_lc, ap_yes, ap_cut, ap_gTupH, ap_fmt, ap_jsn, ap_jsc, ap_gcd, ap_isqrt, ap_ixL, tyV_l, wipe_nil, wipe_cons, upd_same, ap_iEnT, ap_iEnL, ap_iZipA, ap_all, ap_tupT, ap_attF, ap_makeL, ap_att, ap_prop, ap_isO, ap_bin, ap_ne, ap_meth, ap_make, ins_inj, FE_inj, ap_slI, ap_catI, ap_perm, ap_lenO, ap_strO, ap_listO, ap_reprB, ap_iterT, ap_neT, ap_negO, ap_binI, ap_catL, ap_tM1, ap_repTI, ap_popN, ap_par3, ap_catTT, ap_repTA, ap_countT, ap_notInT, ap_repL1, ap_cm, ap_shl, ap_shr, ap_mask, ap_comb, ap_bits, ap_rng3, List.set_cons_zero, List.set_cons_succ, List.getElem?_cons_zero, List.getElem?_cons_succ, List.cons_append, List.nil_append, List.append_nil, Option.some.injEq, V.int.injEq, V.ref.injEq, V.bl.injEq, V.str.injEq, V.ty.injEq, Bool.not_true, Bool.not_false, HO.lst.injEq, HO.tup.injEq, reduceCtorEq, Int.reduceToNat, Int.reduceLT, Int.reduceLE, Nat.reduceAdd, Int.cast_ofNat_Int, gi_c0, gi_c1, gi_c2, gi_c3, Int.natCast_inj, map_int_inj, map_nil_iff, List.cons.injEq, exists_eq_left, exists_eq_left', exists_eq, exists_eq', exists_and_left, exists_and_right, exists_const, and_assoc, and_true, true_and, and_false, false_and, or_false, false_or, or_true, true_or, ite_true, ite_false, if_true, if_false, Bool.false_eq_true, own_cons, own_nil, le1, le2, le3, le4, me_cons, me_nil, List.length_map, List.length_cons, List.length_nil, ne_eq, not_false_eq_true, not_true_eq_false, decide_eq_true_eq]
      rw [List.getD_eq_getElem?_getD, List.getD_eq_getElem?_getD, en, em] at k'
      exact k' _ (Same.refl _)
    · refine ⟨A, rfl, _, e, fun l nl => k _ l (sm.trans (same_upd nl)) (free_of sm nl) ?_⟩
      rw [upd_same, List.length_map]
      have el : (List.zipWith (· + ·) ns ms).length = ns.length := by simp [hl]
      have e2 : (List.range ns.length).map (fun i => ns.getD i 0 + ms.getD i 0) = List.zipWith (· + ·) ns ms := by
        rw [← el]
        refine range_map fun i n hn => ?_
        rw [List.getElem?_zipWith] at hn
        rw [List.getD_eq_getElem?_getD, List.getD_eq_getElem?_getD]
        rcases h1 : ns[i]? with _ | a
        · rw [h1] at hn
          simp at hn
        · rcases h2 : ms[i]? with _ | b
          · rw [h1, h2] at hn
            simp at hn
          · rw [h1, h2] at hn
            exact Option.some.inj hn
      rw [e2]
def sp_multiple_row : Sp := fun vs H Q _ => ∃ (p : Addr) (ns : List Int) (m : Int), vs = [.ref p, .int m] ∧ H p = some (TI ns) ∧ ns.length < 1000 ∧ (∀ n ∈ ns, Wd n) ∧ Wd m ∧
  ∀ H' r, Same H H' → H r = none → H' r = some (TI (ns.map (· * m))) → Q (.ref r) H'
theorem ok_multiple_row (T : Tx K mg) : FnOk P w K mg base CX0 1 T.f_multiple_row T.d_multiple_row p_multiple_row sp_multiple_row := by
  refine T.F_multiple_row.ok sc_multiple_row (fun vs H Q E h => ?_) (fun cdv A outer s H vs Q E hr h => ?_)
  · obtain ⟨p, ns, m, rfl, _⟩ := h
    rfl
  · obtain ⟨p, ns, m, rfl, hp, hl, hn, hm, k⟩ := h
    refine ⟨_, (pss_one (ps_ret (pe_callTy cr_tupL (by rfl) T.z_tuple (by decide +kernel) (pa_cons (pe_lc (own := [("entry", 2)]) (g := gName 2) (tt := tYes) rfl sc_multiple_row.nd (pi_tup (pv 0)) (blkOk_by (N := n_multiple_row) (sc := defScope s_multiple_row) (by decide +kernel)) (fun _ _ _ _ _ => (pg_name (i := 2) sc_multiple_row.nd rfl (by first | exact .inl rfl | exact .inr rfl))) (fun _ _ _ _ _ => pts_nil) (fun _ _ _ _ _ => (pe_op op_mulB (pv 2) (pv 1)))) pa_nil)))), ?_⟩
    rw [st_multiple_row]
    simp only [ap_seq, ap_next, ap_asg, ap_gName, ap_ret, ap_retN, ap_drop, ap_ifS, ap_break, ap_cont, ap_par, ap_aug, ap_ip, ap_gSub, ap_gTup, ap_gNil, ap_gCons, ap_var, ap_c, ap_op, ap_un, ap_if, ap_test, ap_B, ap_and, ap_or, ap_not, ap_andV, ap_orV, ap_notV, ap_nil, ap_cons, ap_tup, ap_lst, ap_cb, ap_bm, ap_call, ap_chain, ap_rI, ap_rI0, ap_rU, ap_rEq, ap_rNe, ap_revT, ap_sl, ap_part, ap_noPart, ap_ixLI, ap_ixTI, ap_ixLV, ap_ixTV, ap_len, ap_setLI, ap_setLV, ap_appI, ap_appV, ap_tupL, ap_listS, ap_sumLI, ap_sumTI, ap_repLI, ap_intI, ap_intB, ap_eqTI, ap_neTI, ap_eqLI, ap_neLI, ap_isi, ap_for, ap_rng1, ap_rng2, ap_iList, ap_iTup, ap_lc, ap_yes, ap_cut, ap_gTupH, ap_fmt, ap_jsn, ap_jsc, ap_gcd, ap_isqrt, ap_ixL, tyV_l, wipe_nil, wipe_cons, upd_same, ap_iEnT, ap_iEnL, ap_iZipA, ap_all, ap_tupT, ap_attF, ap_makeL, ap_att, ap_prop, ap_isO, ap_bin, ap_ne, ap_meth, ap_make, ins_inj, FE_inj, ap_slI, ap_catI, ap_perm, ap_lenO, ap_strO, ap_listO, ap_reprB, ap_iterT, ap_neT, ap_negO, ap_binI, ap_catL, ap_tM1, ap_repTI, ap_popN, ap_par3, ap_catTT, ap_repTA, ap_countT, ap_notInT, ap_repL1, ap_cm, ap_shl, ap_shr, ap_mask, ap_comb, ap_bits, ap_rng3, List.set_cons_zero, List.set_cons_succ, List.getElem?_cons_zero, List.getElem?_cons_succ, List.cons_append, List.nil_append, List.append_nil, Option.some.injEq, V.int.injEq, V.ref.injEq, V.bl.injEq, V.str.injEq, V.ty.injEq, Bool.not_true, Bool.not_false, HO.lst.injEq, HO.tup.injEq, reduceCtorEq, Int.reduceToNat, Int.reduceLT, Int.reduceLE, Nat.reduceAdd, Int.cast_ofNat_Int, gi_c0, gi_c1, gi_c2, gi_c3, Int.natCast_inj, map_int_inj, map_nil_iff, List.cons.injEq, exists_eq_left, exists_eq_left', exists_eq, exists_eq', exists_and_left, exists_and_right, exists_const, and_assoc, and_true, true_and, and_false, false_and, or_false, false_or, or_true, true_or, ite_true, ite_false, if_true, if_false, Bool.false_eq_true, own_cons, own_nil, le1, le2, le3, le4, me_cons, me_nil, List.length_map, List.length_cons, List.length_nil, ne_eq, not_false_eq_true, not_true_eq_false, decide_eq_true_eq]
    refine ⟨⟨_, sqT_of hp⟩, lc_tupI (fun i => ns.getD i 0 * m) hp (by rw [List.length_map]; omega) (fun x => rfl) (fun i x H' hx sm Q' k' => ?_) (fun A H' hA sm e => ?_)⟩
    · obtain ⟨n, rfl, en⟩ := at_int hx
      have b1 := hn n (List.mem_of_getElem? en)
      unfold Wd at b1 hm
      simp only [ap_seq, ap_next, ap_asg, ap_gName, ap_ret, ap_retN, ap_drop, ap_ifS, ap_break, ap_cont, ap_par, ap_aug, ap_ip, ap_gSub, ap_gTup, ap_gNil, ap_gCons, ap_var, ap_c, ap_op, ap_un, ap_if, ap_test, ap_B, ap_and, ap_or, ap_not, ap_andV, ap_orV, ap_notV, ap_nil, ap_cons, ap_tup, ap_lst, ap_cb, ap_bm, ap_call, ap_chain, ap_rI, ap_rI0, ap_rU, ap_rEq, ap_rNe, ap_revT, ap_sl, ap_part, ap_noPart, ap_ixLI, ap_ixTI, ap_ixLV, ap_ixTV, ap_len, ap_setLI, ap_setLV, ap_appI, ap_appV, ap_tupL, ap_listS, ap_sumLI, ap_sumTI, ap_repLI, ap_intI, ap_intB, ap_eqTI, ap_neTI, ap_eqLI, ap_neLI, ap_isi, ap_for, ap_rng1, ap_rng2, ap_iList, ap_iTup, ap_lc, ap_yes, ap_cut, ap_gTupH, ap_fmt, ap_jsn, ap_jsc, ap_gcd, ap_isqrt, ap_ixL, tyV_l, wipe_nil, wipe_cons, upd_same, ap_iEnT, ap_iEnL, ap_iZipA, ap_all, ap_tupT, ap_attF, ap_makeL, ap_att, ap_prop, ap_isO, ap_bin, ap_ne, ap_meth, ap_make, ins_inj, FE_inj, ap_slI, ap_catI, ap_perm, ap_lenO, ap_strO, ap_listO, ap_reprB, ap_iterT, ap_neT, ap_negO, ap_binI, ap_catL, ap_tM1, ap_repTI, ap_popN, ap_par3, ap_catTT, ap_repTA, ap_countT, ap_notInT, ap_repL1, ap_cm, ap_shl, ap_shr, ap_mask, ap_comb, ap_bits, ap_rng3, List.set_cons_zero, List.set_cons_succ, List.getElem?_cons_zero, List.getElem?_cons_succ, List.cons_append, List.nil_append, List.append_nil, Option.some.injEq, V.int.injEq, V.ref.injEq, V.bl.injEq, V.str.injEq, V.ty.injEq, Bool.not_true, Bool.not_false, HO.lst.injEq, HO.tup.injEq, reduceCtorEq, Int.reduceToNat, Int.reduceLT, Int.reduceLE, Nat.reduceAdd, Int.cast_ofNat_Int, gi_c0, gi_c1, gi_c2, gi_c3, Int.natCast_inj, map_int_inj, map_nil_iff, List.cons.injEq, exists_eq_left, exists_eq_left', exists_eq, exists_eq', exists_and_left, exists_and_right, exists_const, and_assoc, and_true, true_and, and_false, false_and, or_false, false_or, or_true, true_or, ite_true, ite_false, if_true, if_false, Bool.false_eq_true, own_cons, own_nil, le1, le2, le3, le4, me_cons, me_nil, List.length_map, List.length_cons, List.length_nil, ne_eq, not_false_eq_true, not_true_eq_false, decide_eq_true_eq, CMu]
      rw [List.getD_eq_getElem?_getD, en] at k'
      exact ⟨b1.1, b1.2, hm.1, hm.2, k' _ (Same.refl _)⟩
    · refine ⟨A, rfl, _, e, fun l nl => k _ l (sm.trans (same_upd nl)) (free_of sm nl) ?_⟩
      rw [upd_same, List.length_map]
      have el : (ns.map (· * m)).length = ns.length := List.length_map ..
      have e2 : (List.range ns.length).map (fun i => ns.getD i 0 * m) = ns.map (· * m) := by
        rw [← el]
        refine range_map fun i n hn => ?_
        rw [List.getElem?_map] at hn
        rw [List.getD_eq_getElem?_getD]
        rcases h1 : ns[i]? with _ | a
        · rw [h1] at hn
          simp at hn
        · rw [h1] at hn
          exact Option.some.inj hn
      rw [e2]
end
end My
namespace My
open PySem PySem.Spec PyProof.Rows L2 Pr
section
variable {P : Program} {w : World} {K : PySem.W.Frag} {mg : Str → Option Value} {base : Heap}
def Dc (H : Hp) (d : Addr) : Prop := ∃ l m c : Int, H d = some (LI [l, m, c])
/-- all but d stands -/
def Exc (d : Addr) (H H' : Hp) : Prop := ∀ q o, q ≠ d → H q = some o → H' q = some o
theorem Exc.refl {d : Addr} {H : Hp} : Exc d H H := fun _ _ _ h => h
theorem Exc.trans {d : Addr} {H H1 H2 : Hp} (a : Exc d H H1) (b : Exc d H1 H2) : Exc d H H2 := fun q o n h => b q o n (a q o n h)
theorem Exc.same {d : Addr} {H H1 : Hp} (a : Same H H1) : Exc d H H1 := fun q o _ h => a q o h
theorem Exc.upd {d : Addr} {H : Hp} {o : HO} : Exc d H (upd H d o) := fun q o n h => by
  rw [upd_ne n]
  exact h
theorem Dc.same {d : Addr} {H H' : Hp} (a : Same H H') (h : Dc H d) : Dc H' d := by
  obtain ⟨l, m, c, h⟩ := h
  exact ⟨l, m, c, a _ _ h⟩
def sp_law_dice (K : PySem.W.Frag) : Sp := fun vs H Q _ => ∃ (a : Addr) (ns : List Int) (i : Nat), vs = [.ref a, .int i] ∧ SqL K H a (ns.map V.int) ∧ i < 64 ∧
  ∀ H' p, Same H H' → H p = none → Dc H' p → Q (.ref p) H'
theorem ok_law_dice (T : Tx K mg) : FnOk P w K mg base CX0 1 T.f_law_dice T.d_law_dice p_law_dice (sp_law_dice K) := by
  refine T.F_law_dice.ok sc_law_dice (fun vs H Q E h => ?_) (fun cdv A outer s H vs Q E hr h => ?_)
  · obtain ⟨a, ns, i, rfl, _⟩ := h
    rfl
  · obtain ⟨a, ns, i, rfl, hS, hi, q⟩ := h
    refine ⟨_, (pss_cons (ps_set (i := 2) sc_law_dice.nd rfl (Or.inl rfl) (pe_ifExp (pt_cmpR op_lt (pv 1) (pe_callB call_len_seq (by rfl) T.z_len PySem.boot_len (pa_cons (pv 0) pa_nil)) (nomark _)) (pe_callTy cr_intI (by rfl) T.z_int (by decide +kernel) (pa_cons (pe_ix ix_list (pv 0) (pv 1) (fun _ _ => rfl)) pa_nil)) (pe_op op_add (pe_op op_mul pe_int (pv 1)) pe_int)))
      (pss_cons (ps_set (i := 3) sc_law_dice.nd rfl (Or.inl rfl) (pe_op op_mod (pe_callB (call_max2 rfl) (by rfl) T.z_max (by decide +kernel) (pa_cons pe_int (pa_cons (pe_op op_sub (pe_callB call_abs (by rfl) T.z_abs (by decide +kernel) (pa_cons (pv 2) pa_nil)) (pe_op op_pow pe_int pe_int)) pa_nil))) (pe_op op_mulW (pe_op op_pow pe_int pe_int) (pe_op op_pow pe_int pe_int))))
      (pss_one (ps_ret (pe_lst (pa_cons (pv 3) (pa_cons (pe_op op_add (pe_op op_add (pe_op op_add (pe_op op_mul (pe_op op_mod (pe_callB call_abs (by rfl) T.z_abs (by decide +kernel) (pa_cons (pv 2) pa_nil)) pe_int) pe_int) (pe_op op_mul pe_int (pv 1))) (pe_op op_mul pe_int (pe_callTy cr_intB (by rfl) T.z_int (by decide +kernel) (pa_cons (pe_cmpR op_lt (pv 2) pe_int (nomark _)) pa_nil)))) pe_int) (pa_cons pe_int pa_nil)))))))), ?_⟩
    rw [st_law_dice]
    simp only [ap_seq, ap_next, ap_asg, ap_gName, ap_ret, ap_retN, ap_drop, ap_ifS, ap_break, ap_cont, ap_par, ap_aug, ap_ip, ap_gSub, ap_gTup, ap_gNil, ap_gCons, ap_var, ap_c, ap_op, ap_un, ap_if, ap_test, ap_B, ap_and, ap_or, ap_not, ap_andV, ap_orV, ap_notV, ap_nil, ap_cons, ap_tup, ap_lst, ap_cb, ap_bm, ap_call, ap_chain, ap_rI, ap_rI0, ap_rU, ap_rEq, ap_rNe, ap_revT, ap_sl, ap_part, ap_noPart, ap_ixLI, ap_ixTI, ap_ixLV, ap_ixTV, ap_len, ap_setLI, ap_setLV, ap_appI, ap_appV, ap_tupL, ap_listS, ap_sumLI, ap_sumTI, ap_repLI, ap_intI, ap_intB, ap_eqTI, ap_neTI, ap_eqLI, ap_neLI, ap_isi, ap_for, ap_rng1, ap_rng2, ap_iList, ap_iTup, ap_lc, ap_yes, ap_cut, ap_gTupH, ap_fmt, ap_jsn, ap_jsc, ap_gcd, ap_isqrt, ap_ixL, tyV_l, wipe_nil, wipe_cons, upd_same, ap_iEnT, ap_iEnL, ap_iZipA, ap_all, ap_tupT, ap_attF, ap_makeL, ap_att, ap_prop, ap_isO, ap_bin, ap_ne, ap_meth, ap_make, ins_inj, FE_inj, ap_slI, ap_catI, ap_perm, ap_lenO, ap_strO, ap_listO, ap_reprB, ap_iterT, ap_neT, ap_negO, ap_binI, ap_catL, ap_tM1, ap_repTI, ap_popN, ap_par3, ap_catTT, ap_repTA, ap_countT, ap_notInT, ap_repL1, ap_cm, ap_shl, ap_shr, ap_mask, ap_comb, ap_bits, ap_rng3, List.set_cons_zero, List.set_cons_succ, List.getElem?_cons_zero, List.getElem?_cons_succ, List.cons_append, List.nil_append, List.append_nil, Option.some.injEq, V.int.injEq, V.ref.injEq, V.bl.injEq, V.str.injEq, V.ty.injEq, Bool.not_true, Bool.not_false, HO.lst.injEq, HO.tup.injEq, reduceCtorEq, Int.reduceToNat, Int.reduceLT, Int.reduceLE, Nat.reduceAdd, Int.cast_ofNat_Int, gi_c0, gi_c1, gi_c2, gi_c3, Int.natCast_inj, map_int_inj, map_nil_iff, List.cons.injEq, exists_eq_left, exists_eq_left', exists_eq, exists_eq', exists_and_left, exists_and_right, exists_const, and_assoc, and_true, true_and, and_false, false_and, or_false, false_or, or_true, true_or, ite_true, ite_false, if_true, if_false, Bool.false_eq_true, own_cons, own_nil, le1, le2, le3, le4, me_cons, me_nil, List.length_map, List.length_cons, List.length_nil, ne_eq, not_false_eq_true, not_true_eq_false, decide_eq_true_eq]
    refine ⟨_, .inl hS, ?_⟩
    have hl : (ns.map V.int).length = ns.length := List.length_map ..
    have c1 : CPow 10 16 := ⟨by decide, by decide, by decide⟩
    have c2 : CPow 10 60 := ⟨by decide, by decide, by decide⟩
    have c3 : CMulW ((10 : Int) ^ 60) ((10 : Int) ^ 60) := by
      show ((10 : Int) ^ 60).natAbs.log2 + ((10 : Int) ^ 60).natAbs.log2 < 1000000
      decide +kernel
    have c4 : (0 : Int) < 10 ^ 60 * 10 ^ 60 := by decide +kernel
    by_cases c : (i : Int) < ((ns.map V.int).length : Int)
    · rw [if_pos c]
      refine ⟨_, hS, _, at_gi (by omega) (by omega), _, rfl, c1, c2, c2, c3, c4, .inr (by omega), .inl (by omega), .inl (by omega), by decide, fun p np => ?_⟩
      exact q _ p (same_upd np) np ⟨_, _, _, upd_same⟩
    · rw [if_neg c]
      refine ⟨.inl (by omega), c1, c2, c2, c3, c4, .inr (by omega), .inl (by omega), .inl (by omega), by decide, fun p np => ?_⟩
      exact q _ p (same_upd np) np ⟨_, _, _, upd_same⟩
def sp_law_roll : Sp := fun vs H Q _ => ∃ (d : Addr) (t : Int), vs = [.ref d, .int t] ∧ Dc H d ∧ 0 < t ∧ t < 10 ^ 60 ∧
  ∀ H' r, Exc d H H' → Dc H' d → 0 ≤ r → r < t → Q (.int r) H'
theorem ok_law_roll (T : Tx K mg) : FnOk P w K mg base CX0 1 T.f_law_roll T.d_law_roll p_law_roll sp_law_roll := by
  refine T.F_law_roll.ok sc_law_roll (fun vs H Q E h => ?_) (fun cdv A outer s H vs Q E hr h => ?_)
  · obtain ⟨d, t, rfl, _⟩ := h
    rfl
  · obtain ⟨d, t, rfl, ⟨l, m, c, hD⟩, h0, h1, q⟩ := h
    refine ⟨_, (pss_cons (ps_if (pt_cmpR op_gt (pe_ix ix_LI (pv 0) pe_int (fun _ _ => rfl)) pe_int (nomark _)) (pss_cons (ps_set (i := 2) sc_law_roll.nd rfl (Or.inl rfl) (pe_op op_mod (pe_callTy cr_intI (by rfl) T.z_int (by decide +kernel) (pa_cons (pe_ix ix_LI (pv 0) pe_int (fun _ _ => rfl)) pa_nil)) (pv 1)))
      (pss_cons (ps_asg (pe_op op_fdivP (pe_ix ix_LI (pv 0) pe_int (fun _ _ => rfl)) (pv 1)) (pg_sub (pv 0) pe_int set_LI))
      (pss_one (ps_ret (pv 2))))) pss_nil)
      (pss_cons (ps_asg (pe_op op_add (pe_ix ix_LI (pv 0) pe_int (fun _ _ => rfl)) pe_int) (pg_sub (pv 0) pe_int set_LI))
      (pss_cons (ps_set (i := 3) sc_law_roll.nd rfl (Or.inl rfl) (pe_op op_mod (pe_callTy cr_intI (by rfl) T.z_int (by decide +kernel) (pa_cons (pe_op op_add (pe_ix ix_LI (pv 0) pe_int (fun _ _ => rfl)) (pe_op op_mul pe_int (pe_ix ix_LI (pv 0) pe_int (fun _ _ => rfl)))) pa_nil)) pe_int))
      (pss_cons (ps_set (i := 4) sc_law_roll.nd rfl (Or.inl rfl) (pe_op op_add (pe_op op_mul (pe_op op_mod (pe_callTy cr_intI (by rfl) T.z_int (by decide +kernel) (pa_cons (pe_op op_add (pe_op op_mul (pv 3) (pv 3)) (pe_op op_mul pe_int (pe_ix ix_LI (pv 0) pe_int (fun _ _ => rfl)))) pa_nil)) pe_int) pe_int) (pv 3)))
      (pss_one (ps_ret (pe_op op_mod (pe_callTy cr_intI (by rfl) T.z_int (by decide +kernel) (pa_cons (pe_op op_fdiv (pv 4) pe_int) pa_nil)) (pv 1)))))))), ?_⟩
    rw [st_law_roll]
    simp only [ap_seq, ap_next, ap_asg, ap_gName, ap_ret, ap_retN, ap_drop, ap_ifS, ap_break, ap_cont, ap_par, ap_aug, ap_ip, ap_gSub, ap_gTup, ap_gNil, ap_gCons, ap_var, ap_c, ap_op, ap_un, ap_if, ap_test, ap_B, ap_and, ap_or, ap_not, ap_andV, ap_orV, ap_notV, ap_nil, ap_cons, ap_tup, ap_lst, ap_cb, ap_bm, ap_call, ap_chain, ap_rI, ap_rI0, ap_rU, ap_rEq, ap_rNe, ap_revT, ap_sl, ap_part, ap_noPart, ap_ixLI, ap_ixTI, ap_ixLV, ap_ixTV, ap_len, ap_setLI, ap_setLV, ap_appI, ap_appV, ap_tupL, ap_listS, ap_sumLI, ap_sumTI, ap_repLI, ap_intI, ap_intB, ap_eqTI, ap_neTI, ap_eqLI, ap_neLI, ap_isi, ap_for, ap_rng1, ap_rng2, ap_iList, ap_iTup, ap_lc, ap_yes, ap_cut, ap_gTupH, ap_fmt, ap_jsn, ap_jsc, ap_gcd, ap_isqrt, ap_ixL, tyV_l, wipe_nil, wipe_cons, upd_same, ap_iEnT, ap_iEnL, ap_iZipA, ap_all, ap_tupT, ap_attF, ap_makeL, ap_att, ap_prop, ap_isO, ap_bin, ap_ne, ap_meth, ap_make, ins_inj, FE_inj, ap_slI, ap_catI, ap_perm, ap_lenO, ap_strO, ap_listO, ap_reprB, ap_iterT, ap_neT, ap_negO, ap_binI, ap_catL, ap_tM1, ap_repTI, ap_popN, ap_par3, ap_catTT, ap_repTA, ap_countT, ap_notInT, ap_repL1, ap_cm, ap_shl, ap_shr, ap_mask, ap_comb, ap_bits, ap_rng3, List.set_cons_zero, List.set_cons_succ, List.getElem?_cons_zero, List.getElem?_cons_succ, List.cons_append, List.nil_append, List.append_nil, Option.some.injEq, V.int.injEq, V.ref.injEq, V.bl.injEq, V.str.injEq, V.ty.injEq, Bool.not_true, Bool.not_false, HO.lst.injEq, HO.tup.injEq, reduceCtorEq, Int.reduceToNat, Int.reduceLT, Int.reduceLE, Nat.reduceAdd, Int.cast_ofNat_Int, gi_c0, gi_c1, gi_c2, gi_c3, Int.natCast_inj, map_int_inj, map_nil_iff, List.cons.injEq, exists_eq_left, exists_eq_left', exists_eq, exists_eq', exists_and_left, exists_and_right, exists_const, and_assoc, and_true, true_and, and_false, false_and, or_false, false_or, or_true, true_or, ite_true, ite_false, if_true, if_false, Bool.false_eq_true, own_cons, own_nil, le1, le2, le3, le4, me_cons, me_nil, List.length_map, List.length_cons, List.length_nil, ne_eq, not_false_eq_true, not_true_eq_false, decide_eq_true_eq, hD, CDp]
    by_cases c1 : 0 < l
    · rw [if_pos c1]
      exact ⟨h0, h0, by omega, q _ _ Exc.upd ⟨_, _, _, upd_same⟩ (Int.emod_nonneg _ (by omega)) (Int.emod_lt_of_pos _ h0)⟩
    · rw [if_neg c1]
      have r1 : ∀ x : Int, CMul (x % 2305843009213691579) (x % 2305843009213691579) := fun x => .inl (by omega)
      exact ⟨.inl (by omega), r1 _, .inl (by omega), .inr (by omega), ⟨by decide, by decide⟩, h0, q _ _ Exc.upd ⟨_, _, _, upd_same⟩ (Int.emod_nonneg _ (by omega)) (Int.emod_lt_of_pos _ h0)⟩
def sp_law_near : Sp := fun vs H Q _ => ∃ (d : Addr) (m : Int), vs = [.ref d, .int m] ∧ Dc H d ∧ 0 ≤ m ∧ m < 10 ^ 50 ∧ ∀ H' r, Exc d H H' → Dc H' d → -m ≤ r → r ≤ m → Q (.int r) H'
theorem ok_law_near (T : Tx K mg) : FnOk P w K mg base CX0 2 T.f_law_near T.d_law_near p_law_near sp_law_near := by
  refine T.F_law_near.ok sc_law_near (fun vs H Q E h => ?_) (fun cdv A outer s H vs Q E hr h => ?_)
  · obtain ⟨d, m, rfl, _⟩ := h
    rfl
  · obtain ⟨d, m, rfl, hD, h0, h1, q⟩ := h
    refine ⟨_, (pss_one (ps_ret (pe_op op_sub (pe_call (ok_law_roll T) (hr.mono (by decide)) (by rfl) T.m_law_roll T.F_law_roll.kp T.b_law_roll .nil pass0 (pa_cons (pv 0) (pa_cons (pe_op op_add (pe_op op_mulB pe_int (pv 1)) pe_int) pa_nil))) (pv 1)))), ?_⟩
    rw [st_law_near]
    simp only [ap_seq, ap_next, ap_asg, ap_gName, ap_ret, ap_retN, ap_drop, ap_ifS, ap_break, ap_cont, ap_par, ap_aug, ap_ip, ap_gSub, ap_gTup, ap_gNil, ap_gCons, ap_var, ap_c, ap_op, ap_un, ap_if, ap_test, ap_B, ap_and, ap_or, ap_not, ap_andV, ap_orV, ap_notV, ap_nil, ap_cons, ap_tup, ap_lst, ap_cb, ap_bm, ap_call, ap_chain, ap_rI, ap_rI0, ap_rU, ap_rEq, ap_rNe, ap_revT, ap_sl, ap_part, ap_noPart, ap_ixLI, ap_ixTI, ap_ixLV, ap_ixTV, ap_len, ap_setLI, ap_setLV, ap_appI, ap_appV, ap_tupL, ap_listS, ap_sumLI, ap_sumTI, ap_repLI, ap_intI, ap_intB, ap_eqTI, ap_neTI, ap_eqLI, ap_neLI, ap_isi, ap_for, ap_rng1, ap_rng2, ap_iList, ap_iTup, ap_lc, ap_yes, ap_cut, ap_gTupH, ap_fmt, ap_jsn, ap_jsc, ap_gcd, ap_isqrt, ap_ixL, tyV_l, wipe_nil, wipe_cons, upd_same, ap_iEnT, ap_iEnL, ap_iZipA, ap_all, ap_tupT, ap_attF, ap_makeL, ap_att, ap_prop, ap_isO, ap_bin, ap_ne, ap_meth, ap_make, ins_inj, FE_inj, ap_slI, ap_catI, ap_perm, ap_lenO, ap_strO, ap_listO, ap_reprB, ap_iterT, ap_neT, ap_negO, ap_binI, ap_catL, ap_tM1, ap_repTI, ap_popN, ap_par3, ap_catTT, ap_repTA, ap_countT, ap_notInT, ap_repL1, ap_cm, ap_shl, ap_shr, ap_mask, ap_comb, ap_bits, ap_rng3, List.set_cons_zero, List.set_cons_succ, List.getElem?_cons_zero, List.getElem?_cons_succ, List.cons_append, List.nil_append, List.append_nil, Option.some.injEq, V.int.injEq, V.ref.injEq, V.bl.injEq, V.str.injEq, V.ty.injEq, Bool.not_true, Bool.not_false, HO.lst.injEq, HO.tup.injEq, reduceCtorEq, Int.reduceToNat, Int.reduceLT, Int.reduceLE, Nat.reduceAdd, Int.cast_ofNat_Int, gi_c0, gi_c1, gi_c2, gi_c3, Int.natCast_inj, map_int_inj, map_nil_iff, List.cons.injEq, exists_eq_left, exists_eq_left', exists_eq, exists_eq', exists_and_left, exists_and_right, exists_const, and_assoc, and_true, true_and, and_false, false_and, or_false, false_or, or_true, true_or, ite_true, ite_false, if_true, if_false, Bool.false_eq_true, own_cons, own_nil, le1, le2, le3, le4, me_cons, me_nil, List.length_map, List.length_cons, List.length_nil, ne_eq, not_false_eq_true, not_true_eq_false, decide_eq_true_eq, sp_law_roll, CMu]
    refine ⟨by omega, by omega, by omega, by omega, hD, by omega, by omega, fun H2 r x D2 a b => ?_⟩
    exact q H2 _ x D2 (by omega) (by omega)
theorem gcd_step {x y : Int} (hx : 0 ≤ x) (hy : 0 < y) : Int.gcd y (x % y) = Int.gcd x y := by
  obtain ⟨a, rfl⟩ := Int.eq_ofNat_of_zero_le hx
  obtain ⟨b, rfl⟩ := Int.eq_ofNat_of_zero_le (Int.le_of_lt hy)
  rw [← Int.natCast_emod]
  show Nat.gcd b (a % b) = Nat.gcd a b
  rw [Nat.gcd_comm a b, Nat.gcd_rec b a, Nat.gcd_comm]
theorem while_a {α : Type} {c : TT} {tb : TS} {D : Ends} {σ : L2.St} {H : Hp} (W : α → L2.St → Hp → Prop) (t : α → Bool) (μ : α → Nat) (a0 : α) (h0 : W a0 σ H)
    (hc : ∀ a σ H, W a σ H → ∀ Q : Bool → Hp → Prop, Q (t a) H → c σ H Q)
    (hs : ∀ a σ H, W a σ H → t a = true → tb { D with nx := fun σ' H' => ∃ a', μ a' < μ a ∧ W a' σ' H', ct := fun σ' H' => ∃ a', μ a' < μ a ∧ W a' σ' H', bk := D.nx } σ H)
    (hd : ∀ a σ H, W a σ H → t a = false → D.nx σ H) : tWhile c tb D σ H := by
  refine ⟨fun m σ H => ∃ a, μ a = m ∧ W a σ H, ⟨_, a0, rfl, h0⟩, ?_⟩
  rintro m σ H ⟨a, rfl, hw⟩
  refine hc a σ H hw _ ?_
  cases e : t a with
  | true => exact ⟨fun σ' H' => ∃ a', μ a' < μ a ∧ W a' σ' H', fun σ' H' ⟨a', h1, h2⟩ => ⟨_, h1, a', rfl, h2⟩, hs a σ H hw e⟩
  | false => exact hd a σ H hw e
def sp_law_gcd : Sp := fun vs H Q _ => ∃ (x y : Int), vs = [.int x, .int y] ∧ Q (.int (Int.gcd x y : Nat)) H
theorem ok_law_gcd (T : Tx K mg) : FnOk P w K mg base CX0 1 T.f_law_gcd T.d_law_gcd p_law_gcd sp_law_gcd := by
  refine T.F_law_gcd.ok sc_law_gcd (fun vs H Q E h => ?_) (fun cdv A outer s H vs Q E hr h => ?_)
  · obtain ⟨x, y, rfl, _⟩ := h
    rfl
  · obtain ⟨x, y, rfl, q⟩ := h
    refine ⟨_, (pss_cons (ps_par (i := 0) (j := 1) (by rfl) sc_law_gcd.nd rfl rfl (by decide) rfl rfl (pa_cons (pe_callB call_abs (by rfl) T.z_abs (by decide +kernel) (pa_cons (pv 0) pa_nil)) (pa_cons (pe_callB call_abs (by rfl) T.z_abs (by decide +kernel) (pa_cons (pv 1) pa_nil)) pa_nil)) (by rfl))
      (pss_cons (ps_while PassesOwn.never (pt_cmpR op_gt (pv 1) pe_int (nomark _))
      (pss_one (ps_par (i := 0) (j := 1) (by rfl) sc_law_gcd.nd rfl rfl (by decide) rfl rfl (pa_cons (pv 1) (pa_cons (pe_op op_mod (pe_callTy cr_intI (by rfl) T.z_int (by decide +kernel) (pa_cons (pv 0) pa_nil)) (pv 1)) pa_nil)) (by rfl))))
      (pss_one (ps_ret (pv 0))))), ?_⟩
    rw [st_law_gcd]
    simp only [ap_seq, ap_next, ap_asg, ap_gName, ap_ret, ap_retN, ap_drop, ap_ifS, ap_break, ap_cont, ap_par, ap_aug, ap_ip, ap_gSub, ap_gTup, ap_gNil, ap_gCons, ap_var, ap_c, ap_op, ap_un, ap_if, ap_test, ap_B, ap_and, ap_or, ap_not, ap_andV, ap_orV, ap_notV, ap_nil, ap_cons, ap_tup, ap_lst, ap_cb, ap_bm, ap_call, ap_chain, ap_rI, ap_rI0, ap_rU, ap_rEq, ap_rNe, ap_revT, ap_sl, ap_part, ap_noPart, ap_ixLI, ap_ixTI, ap_ixLV, ap_ixTV, ap_len, ap_setLI, ap_setLV, ap_appI, ap_appV, ap_tupL, ap_listS, ap_sumLI, ap_sumTI, ap_repLI, ap_intI, ap_intB, ap_eqTI, ap_neTI, ap_eqLI, ap_neLI, ap_isi, ap_for, ap_rng1, ap_rng2, ap_iList, ap_iTup, ap_lc, ap_yes, ap_cut, ap_gTupH, ap_fmt, ap_jsn, ap_jsc, ap_gcd, ap_isqrt, ap_ixL, tyV_l, wipe_nil, wipe_cons, upd_same, ap_iEnT, ap_iEnL, ap_iZipA, ap_all, ap_tupT, ap_attF, ap_makeL, ap_att, ap_prop, ap_isO, ap_bin, ap_ne, ap_meth, ap_make, ins_inj, FE_inj, ap_slI, ap_catI, ap_perm, ap_lenO, ap_strO, ap_listO, ap_reprB, ap_iterT, ap_neT, ap_negO, ap_binI, ap_catL, ap_tM1, ap_repTI, ap_popN, ap_par3, ap_catTT, ap_repTA, ap_countT, ap_notInT, ap_repL1, ap_cm, ap_shl, ap_shr, ap_mask, ap_comb, ap_bits, ap_rng3, List.set_cons_zero, List.set_cons_succ, List.getElem?_cons_zero, List.getElem?_cons_succ, List.cons_append, List.nil_append, List.append_nil, Option.some.injEq, V.int.injEq, V.ref.injEq, V.bl.injEq, V.str.injEq, V.ty.injEq, Bool.not_true, Bool.not_false, HO.lst.injEq, HO.tup.injEq, reduceCtorEq, Int.reduceToNat, Int.reduceLT, Int.reduceLE, Nat.reduceAdd, Int.cast_ofNat_Int, gi_c0, gi_c1, gi_c2, gi_c3, Int.natCast_inj, map_int_inj, map_nil_iff, List.cons.injEq, exists_eq_left, exists_eq_left', exists_eq, exists_eq', exists_and_left, exists_and_right, exists_const, and_assoc, and_true, true_and, and_false, false_and, or_false, false_or, or_true, true_or, ite_true, ite_false, if_true, if_false, Bool.false_eq_true, own_cons, own_nil, le1, le2, le3, le4, me_cons, me_nil, List.length_map, List.length_cons, List.length_nil, ne_eq, not_false_eq_true, not_true_eq_false, decide_eq_true_eq]
    have ax : (if x < 0 then -x else x) = (x.natAbs : Int) := by split <;> omega
    have ay : (if y < 0 then -y else y) = (y.natAbs : Int) := by split <;> omega
    rw [ax, ay]
    refine while_a (fun (p : Int × Int) σ' H' => σ' = [some (.int p.1), some (.int p.2)] ∧ H' = H ∧ 0 ≤ p.1 ∧ 0 ≤ p.2 ∧ Int.gcd p.1 p.2 = Int.gcd x y) (fun p => decide (0 < p.2)) (fun p => p.2.toNat) (_, _) ⟨rfl, rfl, Int.natCast_nonneg _, Int.natCast_nonneg _, ?_⟩ (fun p σ' H' hP Q1 hQ => ?_) (fun p σ' H' hP ht => ?_) (fun p σ' H' hP ht => ?_)
    · show Int.gcd (x.natAbs : Int) (y.natAbs : Int) = Int.gcd x y
      rfl
    · obtain ⟨e, e2, h1, h2, hg⟩ := hP
      subst e e2
      simp only [ap_seq, ap_next, ap_asg, ap_gName, ap_ret, ap_retN, ap_drop, ap_ifS, ap_break, ap_cont, ap_par, ap_aug, ap_ip, ap_gSub, ap_gTup, ap_gNil, ap_gCons, ap_var, ap_c, ap_op, ap_un, ap_if, ap_test, ap_B, ap_and, ap_or, ap_not, ap_andV, ap_orV, ap_notV, ap_nil, ap_cons, ap_tup, ap_lst, ap_cb, ap_bm, ap_call, ap_chain, ap_rI, ap_rI0, ap_rU, ap_rEq, ap_rNe, ap_revT, ap_sl, ap_part, ap_noPart, ap_ixLI, ap_ixTI, ap_ixLV, ap_ixTV, ap_len, ap_setLI, ap_setLV, ap_appI, ap_appV, ap_tupL, ap_listS, ap_sumLI, ap_sumTI, ap_repLI, ap_intI, ap_intB, ap_eqTI, ap_neTI, ap_eqLI, ap_neLI, ap_isi, ap_for, ap_rng1, ap_rng2, ap_iList, ap_iTup, ap_lc, ap_yes, ap_cut, ap_gTupH, ap_fmt, ap_jsn, ap_jsc, ap_gcd, ap_isqrt, ap_ixL, tyV_l, wipe_nil, wipe_cons, upd_same, ap_iEnT, ap_iEnL, ap_iZipA, ap_all, ap_tupT, ap_attF, ap_makeL, ap_att, ap_prop, ap_isO, ap_bin, ap_ne, ap_meth, ap_make, ins_inj, FE_inj, ap_slI, ap_catI, ap_perm, ap_lenO, ap_strO, ap_listO, ap_reprB, ap_iterT, ap_neT, ap_negO, ap_binI, ap_catL, ap_tM1, ap_repTI, ap_popN, ap_par3, ap_catTT, ap_repTA, ap_countT, ap_notInT, ap_repL1, ap_cm, ap_shl, ap_shr, ap_mask, ap_comb, ap_bits, ap_rng3, List.set_cons_zero, List.set_cons_succ, List.getElem?_cons_zero, List.getElem?_cons_succ, List.cons_append, List.nil_append, List.append_nil, Option.some.injEq, V.int.injEq, V.ref.injEq, V.bl.injEq, V.str.injEq, V.ty.injEq, Bool.not_true, Bool.not_false, HO.lst.injEq, HO.tup.injEq, reduceCtorEq, Int.reduceToNat, Int.reduceLT, Int.reduceLE, Nat.reduceAdd, Int.cast_ofNat_Int, gi_c0, gi_c1, gi_c2, gi_c3, Int.natCast_inj, map_int_inj, map_nil_iff, List.cons.injEq, exists_eq_left, exists_eq_left', exists_eq, exists_eq', exists_and_left, exists_and_right, exists_const, and_assoc, and_true, true_and, and_false, false_and, or_false, false_or, or_true, true_or, ite_true, ite_false, if_true, if_false, Bool.false_eq_true, own_cons, own_nil, le1, le2, le3, le4, me_cons, me_nil, List.length_map, List.length_cons, List.length_nil, ne_eq, not_false_eq_true, not_true_eq_false, decide_eq_true_eq]
      exact hQ
    · obtain ⟨e, e2, h1, h2, hg⟩ := hP
      subst e e2
      have hp : 0 < p.2 := of_decide_eq_true ht
      simp only [ap_seq, ap_next, ap_asg, ap_gName, ap_ret, ap_retN, ap_drop, ap_ifS, ap_break, ap_cont, ap_par, ap_aug, ap_ip, ap_gSub, ap_gTup, ap_gNil, ap_gCons, ap_var, ap_c, ap_op, ap_un, ap_if, ap_test, ap_B, ap_and, ap_or, ap_not, ap_andV, ap_orV, ap_notV, ap_nil, ap_cons, ap_tup, ap_lst, ap_cb, ap_bm, ap_call, ap_chain, ap_rI, ap_rI0, ap_rU, ap_rEq, ap_rNe, ap_revT, ap_sl, ap_part, ap_noPart, ap_ixLI, ap_ixTI, ap_ixLV, ap_ixTV, ap_len, ap_setLI, ap_setLV, ap_appI, ap_appV, ap_tupL, ap_listS, ap_sumLI, ap_sumTI, ap_repLI, ap_intI, ap_intB, ap_eqTI, ap_neTI, ap_eqLI, ap_neLI, ap_isi, ap_for, ap_rng1, ap_rng2, ap_iList, ap_iTup, ap_lc, ap_yes, ap_cut, ap_gTupH, ap_fmt, ap_jsn, ap_jsc, ap_gcd, ap_isqrt, ap_ixL, tyV_l, wipe_nil, wipe_cons, upd_same, ap_iEnT, ap_iEnL, ap_iZipA, ap_all, ap_tupT, ap_attF, ap_makeL, ap_att, ap_prop, ap_isO, ap_bin, ap_ne, ap_meth, ap_make, ins_inj, FE_inj, ap_slI, ap_catI, ap_perm, ap_lenO, ap_strO, ap_listO, ap_reprB, ap_iterT, ap_neT, ap_negO, ap_binI, ap_catL, ap_tM1, ap_repTI, ap_popN, ap_par3, ap_catTT, ap_repTA, ap_countT, ap_notInT, ap_repL1, ap_cm, ap_shl, ap_shr, ap_mask, ap_comb, ap_bits, ap_rng3, List.set_cons_zero, List.set_cons_succ, List.getElem?_cons_zero, List.getElem?_cons_succ, List.cons_append, List.nil_append, List.append_nil, Option.some.injEq, V.int.injEq, V.ref.injEq, V.bl.injEq, V.str.injEq, V.ty.injEq, Bool.not_true, Bool.not_false, HO.lst.injEq, HO.tup.injEq, reduceCtorEq, Int.reduceToNat, Int.reduceLT, Int.reduceLE, Nat.reduceAdd, Int.cast_ofNat_Int, gi_c0, gi_c1, gi_c2, gi_c3, Int.natCast_inj, map_int_inj, map_nil_iff, List.cons.injEq, exists_eq_left, exists_eq_left', exists_eq, exists_eq', exists_and_left, exists_and_right, exists_const, and_assoc, and_true, true_and, and_false, false_and, or_false, false_or, or_true, true_or, ite_true, ite_false, if_true, if_false, Bool.false_eq_true, own_cons, own_nil, le1, le2, le3, le4, me_cons, me_nil, List.length_map, List.length_cons, List.length_nil, ne_eq, not_false_eq_true, not_true_eq_false, decide_eq_true_eq]
      refine ⟨hp, (p.2, p.1 % p.2), ?_, rfl, rfl, Int.le_of_lt hp, Int.emod_nonneg _ (by omega), ?_⟩
      · have := Int.emod_lt_of_pos p.1 hp
        have := Int.emod_nonneg p.1 (show p.2 ≠ 0 by omega)
        show (p.1 % p.2).toNat < p.2.toNat
        omega
      · show Int.gcd p.2 (p.1 % p.2) = _
        rw [gcd_step h1 hp, hg]
    · obtain ⟨e, e2, h1, h2, hg⟩ := hP
      subst e e2
      have hp : ¬ 0 < p.2 := of_decide_eq_false ht
      simp only [ap_seq, ap_next, ap_asg, ap_gName, ap_ret, ap_retN, ap_drop, ap_ifS, ap_break, ap_cont, ap_par, ap_aug, ap_ip, ap_gSub, ap_gTup, ap_gNil, ap_gCons, ap_var, ap_c, ap_op, ap_un, ap_if, ap_test, ap_B, ap_and, ap_or, ap_not, ap_andV, ap_orV, ap_notV, ap_nil, ap_cons, ap_tup, ap_lst, ap_cb, ap_bm, ap_call, ap_chain, ap_rI, ap_rI0, ap_rU, ap_rEq, ap_rNe, ap_revT, ap_sl, ap_part, ap_noPart, ap_ixLI, ap_ixTI, ap_ixLV, ap_ixTV, ap_len, ap_setLI, ap_setLV, ap_appI, ap_appV, ap_tupL, ap_listS, ap_sumLI, ap_sumTI, ap_repLI, ap_intI, ap_intB, ap_eqTI, ap_neTI, ap_eqLI, ap_neLI, ap_isi, ap_for, ap_rng1, ap_rng2, ap_iList, ap_iTup, ap_lc, ap_yes, ap_cut, ap_gTupH, ap_fmt, ap_jsn, ap_jsc, ap_gcd, ap_isqrt, ap_ixL, tyV_l, wipe_nil, wipe_cons, upd_same, ap_iEnT, ap_iEnL, ap_iZipA, ap_all, ap_tupT, ap_attF, ap_makeL, ap_att, ap_prop, ap_isO, ap_bin, ap_ne, ap_meth, ap_make, ins_inj, FE_inj, ap_slI, ap_catI, ap_perm, ap_lenO, ap_strO, ap_listO, ap_reprB, ap_iterT, ap_neT, ap_negO, ap_binI, ap_catL, ap_tM1, ap_repTI, ap_popN, ap_par3, ap_catTT, ap_repTA, ap_countT, ap_notInT, ap_repL1, ap_cm, ap_shl, ap_shr, ap_mask, ap_comb, ap_bits, ap_rng3, List.set_cons_zero, List.set_cons_succ, List.getElem?_cons_zero, List.getElem?_cons_succ, List.cons_append, List.nil_append, List.append_nil, Option.some.injEq, V.int.injEq, V.ref.injEq, V.bl.injEq, V.str.injEq, V.ty.injEq, Bool.not_true, Bool.not_false, HO.lst.injEq, HO.tup.injEq, reduceCtorEq, Int.reduceToNat, Int.reduceLT, Int.reduceLE, Nat.reduceAdd, Int.cast_ofNat_Int, gi_c0, gi_c1, gi_c2, gi_c3, Int.natCast_inj, map_int_inj, map_nil_iff, List.cons.injEq, exists_eq_left, exists_eq_left', exists_eq, exists_eq', exists_and_left, exists_and_right, exists_const, and_assoc, and_true, true_and, and_false, false_and, or_false, false_or, or_true, true_or, ite_true, ite_false, if_true, if_false, Bool.false_eq_true, own_cons, own_nil, le1, le2, le3, le4, me_cons, me_nil, List.length_map, List.length_cons, List.length_nil, ne_eq, not_false_eq_true, not_true_eq_false, decide_eq_true_eq]
      have h3 : p.2 = 0 := by omega
      rw [h3, Int.gcd_zero_right] at hg
      have h4 : p.1 = (Int.gcd x y : Nat) := by omega
      rw [h4]
      exact q
def sp_law_shared : Sp := fun vs H Q _ => ∃ (p : Addr) (ns : List Int), vs = [.ref p] ∧ H p = some (TI ns) ∧ Q (.int (gcdL ns)) H
theorem ok_law_shared (T : Tx K mg) : FnOk P w K mg base CX0 2 T.f_law_shared T.d_law_shared p_law_shared sp_law_shared := by
  refine T.F_law_shared.ok sc_law_shared (fun vs H Q E h => ?_) (fun cdv A outer s H vs Q E hr h => ?_)
  · obtain ⟨p, ns, rfl, _⟩ := h
    rfl
  · obtain ⟨p, ns, rfl, hp, q⟩ := h
    refine ⟨_, (pss_cons (ps_set (i := 1) sc_law_shared.nd rfl (Or.inl rfl) pe_int)
      (pss_cons (ps_for PassesOwn.never rfl (pi_tup (pv 0)) (pg_name (i := 2) sc_law_shared.nd rfl (by first | exact .inl rfl | exact .inr rfl))
      (pss_one (ps_set (i := 1) sc_law_shared.nd rfl (Or.inl rfl) (pe_call (ok_law_gcd T) (hr.mono (by decide)) (by rfl) T.m_law_gcd T.F_law_gcd.kp T.b_law_gcd .nil pass0 (pa_cons (pv 1) (pa_cons (pv 2) pa_nil))))))
      (pss_one (ps_ret (pv 1))))), ?_⟩
    rw [st_law_shared]
    simp only [ap_seq, ap_next, ap_asg, ap_gName, ap_ret, ap_retN, ap_drop, ap_ifS, ap_break, ap_cont, ap_par, ap_aug, ap_ip, ap_gSub, ap_gTup, ap_gNil, ap_gCons, ap_var, ap_c, ap_op, ap_un, ap_if, ap_test, ap_B, ap_and, ap_or, ap_not, ap_andV, ap_orV, ap_notV, ap_nil, ap_cons, ap_tup, ap_lst, ap_cb, ap_bm, ap_call, ap_chain, ap_rI, ap_rI0, ap_rU, ap_rEq, ap_rNe, ap_revT, ap_sl, ap_part, ap_noPart, ap_ixLI, ap_ixTI, ap_ixLV, ap_ixTV, ap_len, ap_setLI, ap_setLV, ap_appI, ap_appV, ap_tupL, ap_listS, ap_sumLI, ap_sumTI, ap_repLI, ap_intI, ap_intB, ap_eqTI, ap_neTI, ap_eqLI, ap_neLI, ap_isi, ap_for, ap_rng1, ap_rng2, ap_iList, ap_iTup, ap_lc, ap_yes, ap_cut, ap_gTupH, ap_fmt, ap_jsn, ap_jsc, ap_gcd, ap_isqrt, ap_ixL, tyV_l, wipe_nil, wipe_cons, upd_same, ap_iEnT, ap_iEnL, ap_iZipA, ap_all, ap_tupT, ap_attF, ap_makeL, ap_att, ap_prop, ap_isO, ap_bin, ap_ne, ap_meth, ap_make, ins_inj, FE_inj, ap_slI, ap_catI, ap_perm, ap_lenO, ap_strO, ap_listO, ap_reprB, ap_iterT, ap_neT, ap_negO, ap_binI, ap_catL, ap_tM1, ap_repTI, ap_popN, ap_par3, ap_catTT, ap_repTA, ap_countT, ap_notInT, ap_repL1, ap_cm, ap_shl, ap_shr, ap_mask, ap_comb, ap_bits, ap_rng3, List.set_cons_zero, List.set_cons_succ, List.getElem?_cons_zero, List.getElem?_cons_succ, List.cons_append, List.nil_append, List.append_nil, Option.some.injEq, V.int.injEq, V.ref.injEq, V.bl.injEq, V.str.injEq, V.ty.injEq, Bool.not_true, Bool.not_false, HO.lst.injEq, HO.tup.injEq, reduceCtorEq, Int.reduceToNat, Int.reduceLT, Int.reduceLE, Nat.reduceAdd, Int.cast_ofNat_Int, gi_c0, gi_c1, gi_c2, gi_c3, Int.natCast_inj, map_int_inj, map_nil_iff, List.cons.injEq, exists_eq_left, exists_eq_left', exists_eq, exists_eq', exists_and_left, exists_and_right, exists_const, and_assoc, and_true, true_and, and_false, false_and, or_false, false_or, or_true, true_or, ite_true, ite_false, if_true, if_false, Bool.false_eq_true, own_cons, own_nil, le1, le2, le3, le4, me_cons, me_nil, List.length_map, List.length_cons, List.length_nil, ne_eq, not_false_eq_true, not_true_eq_false, decide_eq_true_eq]
    refine ⟨⟨_, sqT_of hp⟩, loop_gen gives_tup (fun i σ' H' => (∃ z, σ' = [some (V.ref p), some (.int (gcdL (ns.take i))), z]) ∧ H' = H) ⟨⟨_, rfl⟩, rfl⟩ (fun i σ' H' hi hP => hP.2 ▸ hp) (fun i v σ' G G' hi hP hy => ?_) (fun σ' G hP => ?_)⟩
    · obtain ⟨⟨z, e⟩, rfl⟩ := hP
      obtain ⟨rfl, hx⟩ := hy
      obtain ⟨n, rfl, en⟩ := at_int hx
      subst e
      have e : gcdL (ns.take (i + 1)) = ((Int.gcd (gcdL (ns.take i)) n : Nat) : Int) := by
        unfold gcdL
        rw [List.take_succ, en, List.foldl_append]
        rfl
      simp only [ap_seq, ap_next, ap_asg, ap_gName, ap_ret, ap_retN, ap_drop, ap_ifS, ap_break, ap_cont, ap_par, ap_aug, ap_ip, ap_gSub, ap_gTup, ap_gNil, ap_gCons, ap_var, ap_c, ap_op, ap_un, ap_if, ap_test, ap_B, ap_and, ap_or, ap_not, ap_andV, ap_orV, ap_notV, ap_nil, ap_cons, ap_tup, ap_lst, ap_cb, ap_bm, ap_call, ap_chain, ap_rI, ap_rI0, ap_rU, ap_rEq, ap_rNe, ap_revT, ap_sl, ap_part, ap_noPart, ap_ixLI, ap_ixTI, ap_ixLV, ap_ixTV, ap_len, ap_setLI, ap_setLV, ap_appI, ap_appV, ap_tupL, ap_listS, ap_sumLI, ap_sumTI, ap_repLI, ap_intI, ap_intB, ap_eqTI, ap_neTI, ap_eqLI, ap_neLI, ap_isi, ap_for, ap_rng1, ap_rng2, ap_iList, ap_iTup, ap_lc, ap_yes, ap_cut, ap_gTupH, ap_fmt, ap_jsn, ap_jsc, ap_gcd, ap_isqrt, ap_ixL, tyV_l, wipe_nil, wipe_cons, upd_same, ap_iEnT, ap_iEnL, ap_iZipA, ap_all, ap_tupT, ap_attF, ap_makeL, ap_att, ap_prop, ap_isO, ap_bin, ap_ne, ap_meth, ap_make, ins_inj, FE_inj, ap_slI, ap_catI, ap_perm, ap_lenO, ap_strO, ap_listO, ap_reprB, ap_iterT, ap_neT, ap_negO, ap_binI, ap_catL, ap_tM1, ap_repTI, ap_popN, ap_par3, ap_catTT, ap_repTA, ap_countT, ap_notInT, ap_repL1, ap_cm, ap_shl, ap_shr, ap_mask, ap_comb, ap_bits, ap_rng3, List.set_cons_zero, List.set_cons_succ, List.getElem?_cons_zero, List.getElem?_cons_succ, List.cons_append, List.nil_append, List.append_nil, Option.some.injEq, V.int.injEq, V.ref.injEq, V.bl.injEq, V.str.injEq, V.ty.injEq, Bool.not_true, Bool.not_false, HO.lst.injEq, HO.tup.injEq, reduceCtorEq, Int.reduceToNat, Int.reduceLT, Int.reduceLE, Nat.reduceAdd, Int.cast_ofNat_Int, gi_c0, gi_c1, gi_c2, gi_c3, Int.natCast_inj, map_int_inj, map_nil_iff, List.cons.injEq, exists_eq_left, exists_eq_left', exists_eq, exists_eq', exists_and_left, exists_and_right, exists_const, and_assoc, and_true, true_and, and_false, false_and, or_false, false_or, or_true, true_or, ite_true, ite_false, if_true, if_false, Bool.false_eq_true, own_cons, own_nil, le1, le2, le3, le4, me_cons, me_nil, List.length_map, List.length_cons, List.length_nil, ne_eq, not_false_eq_true, not_true_eq_false, decide_eq_true_eq, sp_law_gcd]
      rw [e]
    · obtain ⟨⟨z, e⟩, rfl⟩ := hP
      subst e
      rw [List.length_map, List.take_length]
      simp only [ap_seq, ap_next, ap_asg, ap_gName, ap_ret, ap_retN, ap_drop, ap_ifS, ap_break, ap_cont, ap_par, ap_aug, ap_ip, ap_gSub, ap_gTup, ap_gNil, ap_gCons, ap_var, ap_c, ap_op, ap_un, ap_if, ap_test, ap_B, ap_and, ap_or, ap_not, ap_andV, ap_orV, ap_notV, ap_nil, ap_cons, ap_tup, ap_lst, ap_cb, ap_bm, ap_call, ap_chain, ap_rI, ap_rI0, ap_rU, ap_rEq, ap_rNe, ap_revT, ap_sl, ap_part, ap_noPart, ap_ixLI, ap_ixTI, ap_ixLV, ap_ixTV, ap_len, ap_setLI, ap_setLV, ap_appI, ap_appV, ap_tupL, ap_listS, ap_sumLI, ap_sumTI, ap_repLI, ap_intI, ap_intB, ap_eqTI, ap_neTI, ap_eqLI, ap_neLI, ap_isi, ap_for, ap_rng1, ap_rng2, ap_iList, ap_iTup, ap_lc, ap_yes, ap_cut, ap_gTupH, ap_fmt, ap_jsn, ap_jsc, ap_gcd, ap_isqrt, ap_ixL, tyV_l, wipe_nil, wipe_cons, upd_same, ap_iEnT, ap_iEnL, ap_iZipA, ap_all, ap_tupT, ap_attF, ap_makeL, ap_att, ap_prop, ap_isO, ap_bin, ap_ne, ap_meth, ap_make, ins_inj, FE_inj, ap_slI, ap_catI, ap_perm, ap_lenO, ap_strO, ap_listO, ap_reprB, ap_iterT, ap_neT, ap_negO, ap_binI, ap_catL, ap_tM1, ap_repTI, ap_popN, ap_par3, ap_catTT, ap_repTA, ap_countT, ap_notInT, ap_repL1, ap_cm, ap_shl, ap_shr, ap_mask, ap_comb, ap_bits, ap_rng3, List.set_cons_zero, List.set_cons_succ, List.getElem?_cons_zero, List.getElem?_cons_succ, List.cons_append, List.nil_append, List.append_nil, Option.some.injEq, V.int.injEq, V.ref.injEq, V.bl.injEq, V.str.injEq, V.ty.injEq, Bool.not_true, Bool.not_false, HO.lst.injEq, HO.tup.injEq, reduceCtorEq, Int.reduceToNat, Int.reduceLT, Int.reduceLE, Nat.reduceAdd, Int.cast_ofNat_Int, gi_c0, gi_c1, gi_c2, gi_c3, Int.natCast_inj, map_int_inj, map_nil_iff, List.cons.injEq, exists_eq_left, exists_eq_left', exists_eq, exists_eq', exists_and_left, exists_and_right, exists_const, and_assoc, and_true, true_and, and_false, false_and, or_false, false_or, or_true, true_or, ite_true, ite_false, if_true, if_false, Bool.false_eq_true, own_cons, own_nil, le1, le2, le3, le4, me_cons, me_nil, List.length_map, List.length_cons, List.length_nil, ne_eq, not_false_eq_true, not_true_eq_false, decide_eq_true_eq]
      exact q
def sp_law_line : Sp := fun vs H Q _ => ∃ (p : Addr) (a b : Int), vs = [.ref p] ∧ H p = some (TI [a, b]) ∧ ∀ H' r, Same H H' → H r = none → H' r = some (TI [b, 0 - a]) → Q (.ref r) H'
theorem ok_law_line (T : Tx K mg) : FnOk P w K mg base CX0 1 T.f_law_line T.d_law_line p_law_line sp_law_line := by
  refine T.F_law_line.ok sc_law_line (fun vs H Q E h => ?_) (fun cdv A outer s H vs Q E hr h => ?_)
  · obtain ⟨p, a, b, rfl, _⟩ := h
    rfl
  · obtain ⟨p, a, b, rfl, hp, k⟩ := h
    refine ⟨_, (pss_one (ps_ret (pe_tup (pa_cons (pe_ix ix_TI (pv 0) pe_int (fun _ _ => rfl)) (pa_cons (pe_op op_sub pe_int (pe_ix ix_TI (pv 0) pe_int (fun _ _ => rfl))) pa_nil))))), ?_⟩
    rw [st_law_line]
    simp only [ap_seq, ap_next, ap_asg, ap_gName, ap_ret, ap_retN, ap_drop, ap_ifS, ap_break, ap_cont, ap_par, ap_aug, ap_ip, ap_gSub, ap_gTup, ap_gNil, ap_gCons, ap_var, ap_c, ap_op, ap_un, ap_if, ap_test, ap_B, ap_and, ap_or, ap_not, ap_andV, ap_orV, ap_notV, ap_nil, ap_cons, ap_tup, ap_lst, ap_cb, ap_bm, ap_call, ap_chain, ap_rI, ap_rI0, ap_rU, ap_rEq, ap_rNe, ap_revT, ap_sl, ap_part, ap_noPart, ap_ixLI, ap_ixTI, ap_ixLV, ap_ixTV, ap_len, ap_setLI, ap_setLV, ap_appI, ap_appV, ap_tupL, ap_listS, ap_sumLI, ap_sumTI, ap_repLI, ap_intI, ap_intB, ap_eqTI, ap_neTI, ap_eqLI, ap_neLI, ap_isi, ap_for, ap_rng1, ap_rng2, ap_iList, ap_iTup, ap_lc, ap_yes, ap_cut, ap_gTupH, ap_fmt, ap_jsn, ap_jsc, ap_gcd, ap_isqrt, ap_ixL, tyV_l, wipe_nil, wipe_cons, upd_same, ap_iEnT, ap_iEnL, ap_iZipA, ap_all, ap_tupT, ap_attF, ap_makeL, ap_att, ap_prop, ap_isO, ap_bin, ap_ne, ap_meth, ap_make, ins_inj, FE_inj, ap_slI, ap_catI, ap_perm, ap_lenO, ap_strO, ap_listO, ap_reprB, ap_iterT, ap_neT, ap_negO, ap_binI, ap_catL, ap_tM1, ap_repTI, ap_popN, ap_par3, ap_catTT, ap_repTA, ap_countT, ap_notInT, ap_repL1, ap_cm, ap_shl, ap_shr, ap_mask, ap_comb, ap_bits, ap_rng3, List.set_cons_zero, List.set_cons_succ, List.getElem?_cons_zero, List.getElem?_cons_succ, List.cons_append, List.nil_append, List.append_nil, Option.some.injEq, V.int.injEq, V.ref.injEq, V.bl.injEq, V.str.injEq, V.ty.injEq, Bool.not_true, Bool.not_false, HO.lst.injEq, HO.tup.injEq, reduceCtorEq, Int.reduceToNat, Int.reduceLT, Int.reduceLE, Nat.reduceAdd, Int.cast_ofNat_Int, gi_c0, gi_c1, gi_c2, gi_c3, Int.natCast_inj, map_int_inj, map_nil_iff, List.cons.injEq, exists_eq_left, exists_eq_left', exists_eq, exists_eq', exists_and_left, exists_and_right, exists_const, and_assoc, and_true, true_and, and_false, false_and, or_false, false_or, or_true, true_or, ite_true, ite_false, if_true, if_false, Bool.false_eq_true, own_cons, own_nil, le1, le2, le3, le4, me_cons, me_nil, List.length_map, List.length_cons, List.length_nil, ne_eq, not_false_eq_true, not_true_eq_false, decide_eq_true_eq, hp]
    exact ⟨by decide, fun r nr => k _ r (same_upd nr) nr upd_same⟩
end
end My
namespace My
open PySem PySem.Spec PyProof.Rows L2 Pr
/-! ### products -/
/-- the first i rows' part of entry k of a product -/
def cv (ns ms : List Int) : Nat → Nat → Int
  | 0, _ => 0
  | i + 1, k => cv ns ms i k + if i ≤ k then ns.getD i 0 * ms.getD (k - i) 0 else 0
def mulP (ns ms : List Int) : List Int := (List.range (ns.length + ms.length - 1)).map (cv ns ms ns.length)
/-- the same with j entries of the row i -/
def cvj (ns ms : List Int) (i j k : Nat) : Int := cv ns ms i k + if i ≤ k ∧ k < i + j then ns.getD i 0 * ms.getD (k - i) 0 else 0
theorem cvj_zero (ns ms : List Int) (i : Nat) : cvj ns ms i 0 = cv ns ms i := by
  funext k
  unfold cvj
  rw [if_neg (by omega)]
  omega
theorem cvj_full (ns ms : List Int) (i : Nat) : cvj ns ms i ms.length = cv ns ms (i + 1) := by
  funext k
  show _ = cv ns ms i k + _
  unfold cvj
  by_cases h1 : i ≤ k
  · rw [if_pos h1]
    by_cases h2 : k < i + ms.length
    · rw [if_pos ⟨h1, h2⟩]
    · rw [if_neg (by omega), List.getD_eq_getElem?_getD (l := ms), List.getElem?_eq_none (by omega)]
      simp
  · rw [if_neg h1, if_neg (by omega)]
theorem range_set {f : Nat → Int} {N p : Nat} {v : Int} : ((List.range N).map f).set p v = (List.range N).map fun k => if k = p then v else f k := by
  refine List.ext_getElem? fun k => ?_
  rw [List.getElem?_set, List.getElem?_map, List.getElem?_map, List.length_map, List.length_range]
  by_cases h : p = k
  · subst h
    rw [if_pos rfl]
    by_cases h2 : p < N
    · rw [if_pos h2, List.getElem?_range h2]
      simp
    · rw [if_neg h2, List.getElem?_eq_none (by simpa using h2)]
      rfl
  · rw [if_neg h]
    by_cases h2 : k < N
    · rw [List.getElem?_range h2]
      simp [Ne.symm h]
    · rw [List.getElem?_eq_none (by simpa using h2)]
      rfl
theorem cvj_step {ns ms : List Int} {i j : Nat} {a b : Int} (ha : ns[i]? = some a) (hb : ms[j]? = some b) : (fun k => if k = i + j then cvj ns ms i j (i + j) + a * b else cvj ns ms i j k) = cvj ns ms i (j + 1) := by
  funext k
  unfold cvj
  by_cases h : k = i + j
  · subst h
    rw [if_pos rfl, if_neg (by omega), if_pos (by omega), List.getD_eq_getElem?_getD, List.getD_eq_getElem?_getD, ha, show i + j - i = j by omega, hb]
    simp
  · rw [if_neg h]
    by_cases h2 : i ≤ k ∧ k < i + j
    · rw [if_pos h2, if_pos (by omega)]
    · rw [if_neg h2, if_neg (by omega)]
theorem gi_range {f : Nat → Int} {N i : Nat} (h : i < N) : gi ((List.range N).map f) (i : Nat) = f i := by
  unfold gi
  rw [List.getD_eq_getElem?_getD]
  simp [h]
section
variable {P : Program} {w : World} {K : PySem.W.Frag} {mg : Str → Option Value} {base : Heap}
/-- a factor that is not too great -/
def sp_law_product : Sp := fun vs H Q _ => ∃ (p q : Addr) (ns ms : List Int), vs = [.ref p, .ref q] ∧ H p = some (TI ns) ∧ H q = some (TI ms) ∧ 0 < ns.length ∧ 0 < ms.length ∧ ns.length < 1000 ∧ ms.length < 1000 ∧
  (∀ n ∈ ns, Wd n) ∧ (∀ n ∈ ms, Wd n) ∧ ∀ H' r, Same H H' → H r = none → H' r = some (TI (mulP ns ms)) → Q (.ref r) H'
theorem ok_law_product (T : Tx K mg) : FnOk P w K mg base CX0 1 T.f_law_product T.d_law_product p_law_product sp_law_product := by
  refine T.F_law_product.ok sc_law_product (fun vs H Q E h => ?_) (fun cdv A outer s H vs Q E hr h => ?_)
  · obtain ⟨p, q, ns, ms, rfl, _⟩ := h
    rfl
  · obtain ⟨p, q, ns, ms, rfl, hp, hq, h1, h2, h3, h4, b1, b2, k⟩ := h
    refine ⟨_, (pss_cons (ps_setLc (i := 2) (own := [("_law_place", 5)]) (g := gName 5) (tt := tYes) rfl sc_law_product.nd rfl rfl (sw_true rfl rfl rfl (by decide +kernel)) (pi_range1 (by rfl) T.z_range (pa_cons (pe_op op_sub (pe_op op_add (pe_callB cr_len (by rfl) T.z_len PySem.boot_len (pa_cons (pv 0) pa_nil)) (pe_callB cr_len (by rfl) T.z_len PySem.boot_len (pa_cons (pv 1) pa_nil))) pe_int) pa_nil)) (blkOk_by (N := n_law_product) (sc := defScope s_law_product) (by decide +kernel)) (fun _ _ _ _ _ => (pg_name (i := 5) sc_law_product.nd rfl (by first | exact .inl rfl | exact .inr rfl))) (fun _ _ _ _ _ => pts_nil) (fun _ _ _ _ _ => pe_int))
      (pss_cons (ps_for PassesOwn.never rfl (pi_enT (by rfl) T.z_enumerate (pa_cons (pv 0) pa_nil)) (pg_tupH (n := 2) (by rfl) (pgs_cons (pg_name (i := 3) sc_law_product.nd rfl (by first | exact .inl rfl | exact .inr rfl)) (pgs_cons (pg_name (i := 4) sc_law_product.nd rfl (by first | exact .inl rfl | exact .inr rfl)) pgs_nil)))
      (pss_one (ps_for PassesOwn.never rfl (pi_enT (by rfl) T.z_enumerate (pa_cons (pv 1) pa_nil)) (pg_tupH (n := 2) (by rfl) (pgs_cons (pg_name (i := 5) sc_law_product.nd rfl (by first | exact .inl rfl | exact .inr rfl)) (pgs_cons (pg_name (i := 6) sc_law_product.nd rfl (by first | exact .inl rfl | exact .inr rfl)) pgs_nil)))
      (pss_one (ps_asg (pe_op op_add (pe_ix ix_LI (pv 2) (pe_op op_add (pv 3) (pv 5)) (fun _ _ => rfl)) (pe_op op_mulB (pv 4) (pv 6))) (pg_sub (pv 2) (pe_op op_add (pv 3) (pv 5)) set_LI))))))
      (pss_one (ps_ret (pe_callTy cr_tupL (by rfl) T.z_tuple (by decide +kernel) (pa_cons (pv 2) pa_nil)))))), ?_⟩
    rw [st_law_product]
    simp only [ap_seq, ap_next, ap_asg, ap_gName, ap_ret, ap_retN, ap_drop, ap_ifS, ap_break, ap_cont, ap_par, ap_aug, ap_ip, ap_gSub, ap_gTup, ap_gNil, ap_gCons, ap_var, ap_c, ap_op, ap_un, ap_if, ap_test, ap_B, ap_and, ap_or, ap_not, ap_andV, ap_orV, ap_notV, ap_nil, ap_cons, ap_tup, ap_lst, ap_cb, ap_bm, ap_call, ap_chain, ap_rI, ap_rI0, ap_rU, ap_rEq, ap_rNe, ap_revT, ap_sl, ap_part, ap_noPart, ap_ixLI, ap_ixTI, ap_ixLV, ap_ixTV, ap_len, ap_setLI, ap_setLV, ap_appI, ap_appV, ap_tupL, ap_listS, ap_sumLI, ap_sumTI, ap_repLI, ap_intI, ap_intB, ap_eqTI, ap_neTI, ap_eqLI, ap_neLI, ap_isi, ap_for, ap_rng1, ap_rng2, ap_iList, ap_iTup, ap_lc, ap_yes, ap_cut, ap_gTupH, ap_fmt, ap_jsn, ap_jsc, ap_gcd, ap_isqrt, ap_ixL, tyV_l, wipe_nil, wipe_cons, upd_same, ap_iEnT, ap_iEnL, ap_iZipA, ap_all, ap_tupT, ap_attF, ap_makeL, ap_att, ap_prop, ap_isO, ap_bin, ap_ne, ap_meth, ap_make, ins_inj, FE_inj, ap_slI, ap_catI, ap_perm, ap_lenO, ap_strO, ap_listO, ap_reprB, ap_iterT, ap_neT, ap_negO, ap_binI, ap_catL, ap_tM1, ap_repTI, ap_popN, ap_par3, ap_catTT, ap_repTA, ap_countT, ap_notInT, ap_repL1, ap_cm, ap_shl, ap_shr, ap_mask, ap_comb, ap_bits, ap_rng3, List.set_cons_zero, List.set_cons_succ, List.getElem?_cons_zero, List.getElem?_cons_succ, List.cons_append, List.nil_append, List.append_nil, Option.some.injEq, V.int.injEq, V.ref.injEq, V.bl.injEq, V.str.injEq, V.ty.injEq, Bool.not_true, Bool.not_false, HO.lst.injEq, HO.tup.injEq, reduceCtorEq, Int.reduceToNat, Int.reduceLT, Int.reduceLE, Nat.reduceAdd, Int.cast_ofNat_Int, gi_c0, gi_c1, gi_c2, gi_c3, Int.natCast_inj, map_int_inj, map_nil_iff, List.cons.injEq, exists_eq_left, exists_eq_left', exists_eq, exists_eq', exists_and_left, exists_and_right, exists_const, and_assoc, and_true, true_and, and_false, false_and, or_false, false_or, or_true, true_or, ite_true, ite_false, if_true, if_false, Bool.false_eq_true, own_cons, own_nil, le1, le2, le3, le4, me_cons, me_nil, List.length_map, List.length_cons, List.length_nil, ne_eq, not_false_eq_true, not_true_eq_false, decide_eq_true_eq, hp, hq]
    have eN : ((ns.length : Int) + (ms.length : Int) - 1).toNat = ns.length + ms.length - 1 := by omega
    rw [eN]
    refine ⟨by omega, by omega, lc_rangeI (fun _ => 0) (by omega) (fun x => rfl) (fun i G hi sm Q' k' => ?_) (fun f G nf sm ef => ?_)⟩
    · simp only [ap_seq, ap_next, ap_asg, ap_gName, ap_ret, ap_retN, ap_drop, ap_ifS, ap_break, ap_cont, ap_par, ap_aug, ap_ip, ap_gSub, ap_gTup, ap_gNil, ap_gCons, ap_var, ap_c, ap_op, ap_un, ap_if, ap_test, ap_B, ap_and, ap_or, ap_not, ap_andV, ap_orV, ap_notV, ap_nil, ap_cons, ap_tup, ap_lst, ap_cb, ap_bm, ap_call, ap_chain, ap_rI, ap_rI0, ap_rU, ap_rEq, ap_rNe, ap_revT, ap_sl, ap_part, ap_noPart, ap_ixLI, ap_ixTI, ap_ixLV, ap_ixTV, ap_len, ap_setLI, ap_setLV, ap_appI, ap_appV, ap_tupL, ap_listS, ap_sumLI, ap_sumTI, ap_repLI, ap_intI, ap_intB, ap_eqTI, ap_neTI, ap_eqLI, ap_neLI, ap_isi, ap_for, ap_rng1, ap_rng2, ap_iList, ap_iTup, ap_lc, ap_yes, ap_cut, ap_gTupH, ap_fmt, ap_jsn, ap_jsc, ap_gcd, ap_isqrt, ap_ixL, tyV_l, wipe_nil, wipe_cons, upd_same, ap_iEnT, ap_iEnL, ap_iZipA, ap_all, ap_tupT, ap_attF, ap_makeL, ap_att, ap_prop, ap_isO, ap_bin, ap_ne, ap_meth, ap_make, ins_inj, FE_inj, ap_slI, ap_catI, ap_perm, ap_lenO, ap_strO, ap_listO, ap_reprB, ap_iterT, ap_neT, ap_negO, ap_binI, ap_catL, ap_tM1, ap_repTI, ap_popN, ap_par3, ap_catTT, ap_repTA, ap_countT, ap_notInT, ap_repL1, ap_cm, ap_shl, ap_shr, ap_mask, ap_comb, ap_bits, ap_rng3, List.set_cons_zero, List.set_cons_succ, List.getElem?_cons_zero, List.getElem?_cons_succ, List.cons_append, List.nil_append, List.append_nil, Option.some.injEq, V.int.injEq, V.ref.injEq, V.bl.injEq, V.str.injEq, V.ty.injEq, Bool.not_true, Bool.not_false, HO.lst.injEq, HO.tup.injEq, reduceCtorEq, Int.reduceToNat, Int.reduceLT, Int.reduceLE, Nat.reduceAdd, Int.cast_ofNat_Int, gi_c0, gi_c1, gi_c2, gi_c3, Int.natCast_inj, map_int_inj, map_nil_iff, List.cons.injEq, exists_eq_left, exists_eq_left', exists_eq, exists_eq', exists_and_left, exists_and_right, exists_const, and_assoc, and_true, true_and, and_false, false_and, or_false, false_or, or_true, true_or, ite_true, ite_false, if_true, if_false, Bool.false_eq_true, own_cons, own_nil, le1, le2, le3, le4, me_cons, me_nil, List.length_map, List.length_cons, List.length_nil, ne_eq, not_false_eq_true, not_true_eq_false, decide_eq_true_eq]
      exact k' G (Same.refl G)
    · refine ⟨⟨_, sqT_of (sm _ _ hp)⟩, loop_pair gives_en (fun i σ' H' => (∃ y1 y2 y3 y4, σ' = [some (V.ref p), some (V.ref q), some (V.ref f), y1, y2, y3, y4]) ∧ Same H H' ∧ H' f = some (LI ((List.range (ns.length + ms.length - 1)).map (cv ns ms i)))) ⟨⟨_, _, _, _, rfl⟩, sm, ef⟩ (fun i σ' H' hi hP => hP.2.1 _ _ hp) (fun i a b t σ' G1 hi hP nt r => ?_) (fun σ' G1 hP => ?_)⟩
      · obtain ⟨⟨y1, y2, y3, y4, e⟩, sm1, ef1⟩ := hP
        obtain ⟨rfl, r⟩ := r
        obtain ⟨n, rfl, en⟩ := at_int r
        subst e
        have s2 := same_upd (o := HO.tup [V.int (i : Nat), V.int n]) nt
        have hq2 := s2 _ _ (sm1 _ _ hq)
        have ef2 := s2 _ _ ef1
        have bn := b1 n (List.mem_of_getElem? en)
        have li : i < ns.length := (List.getElem?_eq_some_iff.mp en).1
        rw [← cvj_zero] at ef2
        simp only [ap_seq, ap_next, ap_asg, ap_gName, ap_ret, ap_retN, ap_drop, ap_ifS, ap_break, ap_cont, ap_par, ap_aug, ap_ip, ap_gSub, ap_gTup, ap_gNil, ap_gCons, ap_var, ap_c, ap_op, ap_un, ap_if, ap_test, ap_B, ap_and, ap_or, ap_not, ap_andV, ap_orV, ap_notV, ap_nil, ap_cons, ap_tup, ap_lst, ap_cb, ap_bm, ap_call, ap_chain, ap_rI, ap_rI0, ap_rU, ap_rEq, ap_rNe, ap_revT, ap_sl, ap_part, ap_noPart, ap_ixLI, ap_ixTI, ap_ixLV, ap_ixTV, ap_len, ap_setLI, ap_setLV, ap_appI, ap_appV, ap_tupL, ap_listS, ap_sumLI, ap_sumTI, ap_repLI, ap_intI, ap_intB, ap_eqTI, ap_neTI, ap_eqLI, ap_neLI, ap_isi, ap_for, ap_rng1, ap_rng2, ap_iList, ap_iTup, ap_lc, ap_yes, ap_cut, ap_gTupH, ap_fmt, ap_jsn, ap_jsc, ap_gcd, ap_isqrt, ap_ixL, tyV_l, wipe_nil, wipe_cons, upd_same, ap_iEnT, ap_iEnL, ap_iZipA, ap_all, ap_tupT, ap_attF, ap_makeL, ap_att, ap_prop, ap_isO, ap_bin, ap_ne, ap_meth, ap_make, ins_inj, FE_inj, ap_slI, ap_catI, ap_perm, ap_lenO, ap_strO, ap_listO, ap_reprB, ap_iterT, ap_neT, ap_negO, ap_binI, ap_catL, ap_tM1, ap_repTI, ap_popN, ap_par3, ap_catTT, ap_repTA, ap_countT, ap_notInT, ap_repL1, ap_cm, ap_shl, ap_shr, ap_mask, ap_comb, ap_bits, ap_rng3, List.set_cons_zero, List.set_cons_succ, List.getElem?_cons_zero, List.getElem?_cons_succ, List.cons_append, List.nil_append, List.append_nil, Option.some.injEq, V.int.injEq, V.ref.injEq, V.bl.injEq, V.str.injEq, V.ty.injEq, Bool.not_true, Bool.not_false, HO.lst.injEq, HO.tup.injEq, reduceCtorEq, Int.reduceToNat, Int.reduceLT, Int.reduceLE, Nat.reduceAdd, Int.cast_ofNat_Int, gi_c0, gi_c1, gi_c2, gi_c3, Int.natCast_inj, map_int_inj, map_nil_iff, List.cons.injEq, exists_eq_left, exists_eq_left', exists_eq, exists_eq', exists_and_left, exists_and_right, exists_const, and_assoc, and_true, true_and, and_false, false_and, or_false, false_or, or_true, true_or, ite_true, ite_false, if_true, if_false, Bool.false_eq_true, own_cons, own_nil, le1, le2, le3, le4, me_cons, me_nil, List.length_map, List.length_cons, List.length_nil, ne_eq, not_false_eq_true, not_true_eq_false, decide_eq_true_eq]
        refine ⟨⟨_, sqT_of hq2⟩, loop_pair gives_en (fun j σ' H' => (∃ y5 y6, σ' = [some (V.ref p), some (V.ref q), some (V.ref f), some (V.int (i : Nat)), some (V.int n), y5, y6]) ∧ Same H H' ∧ H' f = some (LI ((List.range (ns.length + ms.length - 1)).map (cvj ns ms i j)))) ⟨⟨_, _, rfl⟩, sm1.trans s2, ef2⟩ (fun j σ' H' hj hP => hP.2.1 _ _ hq) (fun j a b u σ' G2 hj hP nu r => ?_) (fun σ' G2 hP => ?_)⟩
        · obtain ⟨⟨y5, y6, e⟩, sm3, ef3⟩ := hP
          obtain ⟨rfl, r⟩ := r
          obtain ⟨m, rfl, em⟩ := at_int r
          subst e
          have s4 := same_upd (o := HO.tup [V.int (j : Nat), V.int m]) nu
          have ef4 := s4 _ _ ef3
          have bm := b2 m (List.mem_of_getElem? em)
          have lj : j < ms.length := (List.getElem?_eq_some_iff.mp em).1
          unfold Wd at bn bm
          simp only [ap_seq, ap_next, ap_asg, ap_gName, ap_ret, ap_retN, ap_drop, ap_ifS, ap_break, ap_cont, ap_par, ap_aug, ap_ip, ap_gSub, ap_gTup, ap_gNil, ap_gCons, ap_var, ap_c, ap_op, ap_un, ap_if, ap_test, ap_B, ap_and, ap_or, ap_not, ap_andV, ap_orV, ap_notV, ap_nil, ap_cons, ap_tup, ap_lst, ap_cb, ap_bm, ap_call, ap_chain, ap_rI, ap_rI0, ap_rU, ap_rEq, ap_rNe, ap_revT, ap_sl, ap_part, ap_noPart, ap_ixLI, ap_ixTI, ap_ixLV, ap_ixTV, ap_len, ap_setLI, ap_setLV, ap_appI, ap_appV, ap_tupL, ap_listS, ap_sumLI, ap_sumTI, ap_repLI, ap_intI, ap_intB, ap_eqTI, ap_neTI, ap_eqLI, ap_neLI, ap_isi, ap_for, ap_rng1, ap_rng2, ap_iList, ap_iTup, ap_lc, ap_yes, ap_cut, ap_gTupH, ap_fmt, ap_jsn, ap_jsc, ap_gcd, ap_isqrt, ap_ixL, tyV_l, wipe_nil, wipe_cons, upd_same, ap_iEnT, ap_iEnL, ap_iZipA, ap_all, ap_tupT, ap_attF, ap_makeL, ap_att, ap_prop, ap_isO, ap_bin, ap_ne, ap_meth, ap_make, ins_inj, FE_inj, ap_slI, ap_catI, ap_perm, ap_lenO, ap_strO, ap_listO, ap_reprB, ap_iterT, ap_neT, ap_negO, ap_binI, ap_catL, ap_tM1, ap_repTI, ap_popN, ap_par3, ap_catTT, ap_repTA, ap_countT, ap_notInT, ap_repL1, ap_cm, ap_shl, ap_shr, ap_mask, ap_comb, ap_bits, ap_rng3, List.set_cons_zero, List.set_cons_succ, List.getElem?_cons_zero, List.getElem?_cons_succ, List.cons_append, List.nil_append, List.append_nil, Option.some.injEq, V.int.injEq, V.ref.injEq, V.bl.injEq, V.str.injEq, V.ty.injEq, Bool.not_true, Bool.not_false, HO.lst.injEq, HO.tup.injEq, reduceCtorEq, Int.reduceToNat, Int.reduceLT, Int.reduceLE, Nat.reduceAdd, Int.cast_ofNat_Int, gi_c0, gi_c1, gi_c2, gi_c3, Int.natCast_inj, map_int_inj, map_nil_iff, List.cons.injEq, exists_eq_left, exists_eq_left', exists_eq, exists_eq', exists_and_left, exists_and_right, exists_const, and_assoc, and_true, true_and, and_false, false_and, or_false, false_or, or_true, true_or, ite_true, ite_false, if_true, if_false, Bool.false_eq_true, own_cons, own_nil, le1, le2, le3, le4, me_cons, me_nil, List.length_map, List.length_cons, List.length_nil, ne_eq, not_false_eq_true, not_true_eq_false, decide_eq_true_eq, CMu, ef4]
          have eij : (i : Int) + (j : Int) = ((i + j : Nat) : Int) := by omega
          rw [eij, Int.toNat_natCast, gi_range (by omega), range_set, cvj_step en em, List.length_range]
          refine ⟨by omega, by omega, by omega, by omega, by omega, by omega, by omega, by omega, same_mut (sm3.trans s4) nf, rfl⟩
        · obtain ⟨⟨y5, y6, e⟩, sm3, ef3⟩ := hP
          subst e
          rw [List.length_map, cvj_full] at ef3
          exact ⟨⟨_, _, _, _, rfl⟩, sm3, ef3⟩
      · obtain ⟨⟨y1, y2, y3, y4, e⟩, sm1, ef1⟩ := hP
        subst e
        rw [List.length_map] at ef1
        simp only [ap_seq, ap_next, ap_asg, ap_gName, ap_ret, ap_retN, ap_drop, ap_ifS, ap_break, ap_cont, ap_par, ap_aug, ap_ip, ap_gSub, ap_gTup, ap_gNil, ap_gCons, ap_var, ap_c, ap_op, ap_un, ap_if, ap_test, ap_B, ap_and, ap_or, ap_not, ap_andV, ap_orV, ap_notV, ap_nil, ap_cons, ap_tup, ap_lst, ap_cb, ap_bm, ap_call, ap_chain, ap_rI, ap_rI0, ap_rU, ap_rEq, ap_rNe, ap_revT, ap_sl, ap_part, ap_noPart, ap_ixLI, ap_ixTI, ap_ixLV, ap_ixTV, ap_len, ap_setLI, ap_setLV, ap_appI, ap_appV, ap_tupL, ap_listS, ap_sumLI, ap_sumTI, ap_repLI, ap_intI, ap_intB, ap_eqTI, ap_neTI, ap_eqLI, ap_neLI, ap_isi, ap_for, ap_rng1, ap_rng2, ap_iList, ap_iTup, ap_lc, ap_yes, ap_cut, ap_gTupH, ap_fmt, ap_jsn, ap_jsc, ap_gcd, ap_isqrt, ap_ixL, tyV_l, wipe_nil, wipe_cons, upd_same, ap_iEnT, ap_iEnL, ap_iZipA, ap_all, ap_tupT, ap_attF, ap_makeL, ap_att, ap_prop, ap_isO, ap_bin, ap_ne, ap_meth, ap_make, ins_inj, FE_inj, ap_slI, ap_catI, ap_perm, ap_lenO, ap_strO, ap_listO, ap_reprB, ap_iterT, ap_neT, ap_negO, ap_binI, ap_catL, ap_tM1, ap_repTI, ap_popN, ap_par3, ap_catTT, ap_repTA, ap_countT, ap_notInT, ap_repL1, ap_cm, ap_shl, ap_shr, ap_mask, ap_comb, ap_bits, ap_rng3, List.set_cons_zero, List.set_cons_succ, List.getElem?_cons_zero, List.getElem?_cons_succ, List.cons_append, List.nil_append, List.append_nil, Option.some.injEq, V.int.injEq, V.ref.injEq, V.bl.injEq, V.str.injEq, V.ty.injEq, Bool.not_true, Bool.not_false, HO.lst.injEq, HO.tup.injEq, reduceCtorEq, Int.reduceToNat, Int.reduceLT, Int.reduceLE, Nat.reduceAdd, Int.cast_ofNat_Int, gi_c0, gi_c1, gi_c2, gi_c3, Int.natCast_inj, map_int_inj, map_nil_iff, List.cons.injEq, exists_eq_left, exists_eq_left', exists_eq, exists_eq', exists_and_left, exists_and_right, exists_const, and_assoc, and_true, true_and, and_false, false_and, or_false, false_or, or_true, true_or, ite_true, ite_false, if_true, if_false, Bool.false_eq_true, own_cons, own_nil, le1, le2, le3, le4, me_cons, me_nil, List.length_map, List.length_cons, List.length_nil, ne_eq, not_false_eq_true, not_true_eq_false, decide_eq_true_eq, ef1]
        exact fun l nl => k _ l (sm1.trans (same_upd nl)) (free_of sm1 nl) upd_same
/-! ### sizes -/
/-- all entries are at most A -/
def Bd (A : Int) (ns : List Int) : Prop := ∀ n ∈ ns, -A ≤ n ∧ n ≤ A
theorem Bd.getD {A : Int} {ns : List Int} (h : Bd A ns) (h0 : 0 ≤ A) (i : Nat) : -A ≤ ns.getD i 0 ∧ ns.getD i 0 ≤ A := by
  rw [List.getD_eq_getElem?_getD]
  rcases e : ns[i]? with _ | n
  · exact ⟨by show -A ≤ 0; omega, h0⟩
  · exact h n (List.mem_of_getElem? e)
theorem mul_bd {A B x y : Int} (hx : -A ≤ x ∧ x ≤ A) (hy : -B ≤ y ∧ y ≤ B) (hA : 0 ≤ A) (hB : 0 ≤ B) : -(A * B) ≤ x * y ∧ x * y ≤ A * B := by
  have h1 : (x * y).natAbs ≤ A.natAbs * B.natAbs := by
    rw [Int.natAbs_mul]
    exact Nat.mul_le_mul (by omega) (by omega)
  have h2 : ((A.natAbs * B.natAbs : Nat) : Int) = A * B := by
    rw [Int.natCast_mul, Int.natAbs_of_nonneg hA, Int.natAbs_of_nonneg hB]
  omega
theorem mulP_len (ns ms : List Int) : (mulP ns ms).length = ns.length + ms.length - 1 := by
  unfold mulP
  rw [List.length_map, List.length_range]
end
end My
namespace My
open PySem PySem.Spec PyProof.Rows L2 Pr
section
variable {P : Program} {w : World} {K : PySem.W.Frag} {mg : Str → Option Value} {base : Heap}
def sp_law_plus : Sp := fun vs H Q _ => ∃ (p q : Addr) (ns ms : List Int), vs = [.ref p, .ref q] ∧ H p = some (TI ns) ∧ H q = some (TI ms) ∧ ns.length = ms.length ∧ ns.length < 1000 ∧
  ∀ H' r, Same H H' → H r = none → H' r = some (TI (List.zipWith (· + ·) ns ms)) → Q (.ref r) H'
theorem ok_law_plus (T : Tx K mg) : FnOk P w K mg base CX0 1 T.f_law_plus T.d_law_plus p_law_plus sp_law_plus := by
  refine T.F_law_plus.ok sc_law_plus (fun vs H Q E h => ?_) (fun cdv A outer s H vs Q E hr h => ?_)
  · obtain ⟨p, q, ns, ms, rfl, _⟩ := h
    rfl
  · obtain ⟨p, q, ns, ms, rfl, hp, hq, hl, h1, k⟩ := h
    refine ⟨_, (pss_one (ps_ret (pe_callTy cr_tupL (by rfl) T.z_tuple (by decide +kernel) (pa_cons (pe_lc (own := [("_law_first", 2), ("_law_second", 3)]) (tt := tYes) rfl sc_law_plus.nd (RZ.pi_zipA (by rfl) T.z_zip (pa_cons (pv 0) (pa_cons (pv 1) pa_nil))) (blkOk_by (N := n_law_plus) (sc := defScope s_law_plus) (by decide +kernel)) (fun _ _ _ _ _ => (pg_tupH (n := 2) (by rfl) (pgs_cons (pg_name (i := 2) sc_law_plus.nd rfl (by first | exact .inl rfl | exact .inr rfl)) (pgs_cons (pg_name (i := 3) sc_law_plus.nd rfl (by first | exact .inl rfl | exact .inr rfl)) pgs_nil)))) (fun _ _ _ _ _ => pts_nil) (fun _ _ _ _ _ => (pe_op op_add (pv 2) (pv 3)))) pa_nil)))), ?_⟩
    rw [st_law_plus]
    simp only [ap_seq, ap_next, ap_asg, ap_gName, ap_ret, ap_retN, ap_drop, ap_ifS, ap_break, ap_cont, ap_par, ap_aug, ap_ip, ap_gSub, ap_gTup, ap_gNil, ap_gCons, ap_var, ap_c, ap_op, ap_un, ap_if, ap_test, ap_B, ap_and, ap_or, ap_not, ap_andV, ap_orV, ap_notV, ap_nil, ap_cons, ap_tup, ap_lst, ap_cb, ap_bm, ap_call, ap_chain, ap_rI, ap_rI0, ap_rU, ap_rEq, ap_rNe, ap_revT, ap_sl, ap_part, ap_noPart, ap_ixLI, ap_ixTI, ap_ixLV, ap_ixTV, ap_len, ap_setLI, ap_setLV, ap_appI, ap_appV, ap_tupL, ap_listS, ap_sumLI, ap_sumTI, ap_repLI, ap_intI, ap_intB, ap_eqTI, ap_neTI, ap_eqLI, ap_neLI, ap_isi, ap_for, ap_rng1, ap_rng2, ap_iList, ap_iTup, ap_lc, ap_yes, ap_cut, ap_gTupH, ap_fmt, ap_jsn, ap_jsc, ap_gcd, ap_isqrt, ap_ixL, tyV_l, wipe_nil, wipe_cons, upd_same, ap_iEnT, ap_iEnL, ap_iZipA, ap_all, ap_tupT, ap_attF, ap_makeL, ap_att, ap_prop, ap_isO, ap_bin, ap_ne, ap_meth, ap_make, ins_inj, FE_inj, ap_slI, ap_catI, ap_perm, ap_lenO, ap_strO, ap_listO, ap_reprB, ap_iterT, ap_neT, ap_negO, ap_binI, ap_catL, ap_tM1, ap_repTI, ap_popN, ap_par3, ap_catTT, ap_repTA, ap_countT, ap_notInT, ap_repL1, ap_cm, ap_shl, ap_shr, ap_mask, ap_comb, ap_bits, ap_rng3, List.set_cons_zero, List.set_cons_succ, List.getElem?_cons_zero, List.getElem?_cons_succ, List.cons_append, List.nil_append, List.append_nil, Option.some.injEq, V.int.injEq, V.ref.injEq, V.bl.injEq, V.str.injEq, V.ty.injEq, Bool.not_true, Bool.not_false, HO.lst.injEq, HO.tup.injEq, reduceCtorEq, Int.reduceToNat, Int.reduceLT, Int.reduceLE, Nat.reduceAdd, Int.cast_ofNat_Int, gi_c0, gi_c1, gi_c2, gi_c3, Int.natCast_inj, map_int_inj, map_nil_iff, List.cons.injEq, exists_eq_left, exists_eq_left', exists_eq, exists_eq', exists_and_left, exists_and_right, exists_const, and_assoc, and_true, true_and, and_false, false_and, or_false, false_or, or_true, true_or, ite_true, ite_false, if_true, if_false, Bool.false_eq_true, own_cons, own_nil, le1, le2, le3, le4, me_cons, me_nil, List.length_map, List.length_cons, List.length_nil, ne_eq, not_false_eq_true, not_true_eq_false, decide_eq_true_eq]
    refine ⟨_, _, .inr ⟨sqT_of hp, sqT_of hq, lc_pairI (gives_zipT (by simpa using hl)) (fun i => ns.getD i 0 + ms.getD i 0) (by rw [List.length_map]; omega) (fun H' s => ⟨s _ _ hp, s _ _ hq⟩) (fun x y => rfl) (fun i a b H' hi r sm Q' k' => ?_) (fun A H' hA sm e => ?_)⟩⟩
    · obtain ⟨r1, r2⟩ := r
      obtain ⟨n, rfl, en⟩ := at_int r1
      obtain ⟨m, rfl, em⟩ := at_int r2
      simp only [ap_seq, ap_next, ap_asg, ap_gName, ap_ret, ap_retN, ap_drop, ap_ifS, ap_break, ap_cont, ap_par, ap_aug, ap_ip, ap_gSub, ap_gTup, ap_gNil, ap_gCons, ap_var, ap_c, ap_op, ap_un, ap_if, ap_test, ap_B, ap_and, ap_or, ap_not, ap_andV, ap_orV, ap_notV, ap_nil, ap_cons, ap_tup, ap_lst, ap_cb, ap_bm, ap_call, ap_chain, ap_rI, ap_rI0, ap_rU, ap_rEq, ap_rNe, ap_revT, ap_sl, ap_part, ap_noPart, ap_ixLI, ap_ixTI, ap_ixLV, ap_ixTV, ap_len, ap_setLI, ap_setLV, ap_appI, ap_appV, ap_tupL, ap_listS, ap_sumLI, ap_sumTI, ap_repLI, ap_intI, ap_intB, ap_eqTI, ap_neTI, ap_eqLI, ap_neLI, ap_isi, ap_for, ap_rng1, ap_rng2, ap_iList, ap_iTup, ap_lc, ap_yes, ap_cut, ap_gTupH, ap_fmt, ap_jsn, ap_jsc, ap_gcd, ap_isqrt, ap_ixL, tyV_l, wipe_nil, wipe_cons, upd_same, ap_iEnT, ap_iEnL, ap_iZipA, ap_all, ap_tupT, ap_attF, ap_makeL, ap_att, ap_prop, ap_isO, ap_bin, ap_ne, ap_meth, ap_make, ins_inj, FE_inj, ap_slI, ap_catI, ap_perm, ap_lenO, ap_strO, ap_listO, ap_reprB, ap_iterT, ap_neT, ap_negO, ap_binI, ap_catL, ap_tM1, ap_repTI, ap_popN, ap_par3, ap_catTT, ap_repTA, ap_countT, ap_notInT, ap_repL1, ap_cm, ap_shl, ap_shr, ap_mask, ap_comb, ap_bits, ap_rng3, List.set_cons_zero, List.set_cons_succ, List.getElem?_cons_zero, List.getElem?_cons_succ, List.cons_append, List.nil_append, List.append_nil, Option.some.injEq, V.int.injEq, V.ref.injEq, V.bl.injEq, V.str.injEq, V.ty.injEq, Bool.not_true, Bool.not_false, HO.lst.injEq, HO.tup.injEq, reduceCtorEq, Int.reduceToNat, Int.reduceLT, Int.reduceLE, Nat.reduceAdd, Int.cast_ofNat_Int, gi_c0, gi_c1, gi_c2, gi_c3, Int.natCast_inj, map_int_inj, map_nil_iff, List.cons.injEq, exists_eq_left, exists_eq_left', exists_eq, exists_eq', exists_and_left, exists_and_right, exists_const, and_assoc, and_true, true_and, and_false, false_and, or_false, false_or, or_true, true_or, ite_true, ite_false, if_true, if_false, Bool.false_eq_true, own_cons, own_nil, le1, le2, le3, le4, me_cons, me_nil, List.length_map, List.length_cons, List.length_nil, ne_eq, not_false_eq_true, not_true_eq_false, decide_eq_true_eq]
      rw [List.getD_eq_getElem?_getD, List.getD_eq_getElem?_getD, en, em] at k'
      exact k' _ (Same.refl _)
    · refine ⟨A, rfl, _, e, fun l nl => k _ l (sm.trans (same_upd nl)) (free_of sm nl) ?_⟩
      rw [upd_same, List.length_map]
      have el : (List.zipWith (· + ·) ns ms).length = ns.length := by simp [hl]
      have e2 : (List.range ns.length).map (fun i => ns.getD i 0 + ms.getD i 0) = List.zipWith (· + ·) ns ms := by
        rw [← el]
        refine range_map fun i n hn => ?_
        rw [List.getElem?_zipWith] at hn
        rw [List.getD_eq_getElem?_getD, List.getD_eq_getElem?_getD]
        rcases h1 : ns[i]? with _ | a
        · rw [h1] at hn
          simp at hn
        · rcases h2 : ms[i]? with _ | b
          · rw [h1, h2] at hn
            simp at hn
          · rw [h1, h2] at hn
            exact Option.some.inj hn
      rw [e2]
def sp_law_scaled : Sp := fun vs H Q _ => ∃ (p : Addr) (ns : List Int) (m : Int), vs = [.ref p, .int m] ∧ H p = some (TI ns) ∧ ns.length < 1000 ∧ (∀ n ∈ ns, Wd n) ∧ Wd m ∧
  ∀ H' r, Same H H' → H r = none → H' r = some (TI (ns.map (m * ·))) → Q (.ref r) H'
theorem ok_law_scaled (T : Tx K mg) : FnOk P w K mg base CX0 1 T.f_law_scaled T.d_law_scaled p_law_scaled sp_law_scaled := by
  refine T.F_law_scaled.ok sc_law_scaled (fun vs H Q E h => ?_) (fun cdv A outer s H vs Q E hr h => ?_)
  · obtain ⟨p, ns, m, rfl, _⟩ := h
    rfl
  · obtain ⟨p, ns, m, rfl, hp, hl, hn, hm, k⟩ := h
    refine ⟨_, (pss_one (ps_ret (pe_callTy cr_tupL (by rfl) T.z_tuple (by decide +kernel) (pa_cons (pe_lc (own := [("_law_entry", 2)]) (g := gName 2) (tt := tYes) rfl sc_law_scaled.nd (pi_tup (pv 0)) (blkOk_by (N := n_law_scaled) (sc := defScope s_law_scaled) (by decide +kernel)) (fun _ _ _ _ _ => (pg_name (i := 2) sc_law_scaled.nd rfl (by first | exact .inl rfl | exact .inr rfl))) (fun _ _ _ _ _ => pts_nil) (fun _ _ _ _ _ => (pe_op op_mulB (pv 1) (pv 2)))) pa_nil)))), ?_⟩
    rw [st_law_scaled]
    simp only [ap_seq, ap_next, ap_asg, ap_gName, ap_ret, ap_retN, ap_drop, ap_ifS, ap_break, ap_cont, ap_par, ap_aug, ap_ip, ap_gSub, ap_gTup, ap_gNil, ap_gCons, ap_var, ap_c, ap_op, ap_un, ap_if, ap_test, ap_B, ap_and, ap_or, ap_not, ap_andV, ap_orV, ap_notV, ap_nil, ap_cons, ap_tup, ap_lst, ap_cb, ap_bm, ap_call, ap_chain, ap_rI, ap_rI0, ap_rU, ap_rEq, ap_rNe, ap_revT, ap_sl, ap_part, ap_noPart, ap_ixLI, ap_ixTI, ap_ixLV, ap_ixTV, ap_len, ap_setLI, ap_setLV, ap_appI, ap_appV, ap_tupL, ap_listS, ap_sumLI, ap_sumTI, ap_repLI, ap_intI, ap_intB, ap_eqTI, ap_neTI, ap_eqLI, ap_neLI, ap_isi, ap_for, ap_rng1, ap_rng2, ap_iList, ap_iTup, ap_lc, ap_yes, ap_cut, ap_gTupH, ap_fmt, ap_jsn, ap_jsc, ap_gcd, ap_isqrt, ap_ixL, tyV_l, wipe_nil, wipe_cons, upd_same, ap_iEnT, ap_iEnL, ap_iZipA, ap_all, ap_tupT, ap_attF, ap_makeL, ap_att, ap_prop, ap_isO, ap_bin, ap_ne, ap_meth, ap_make, ins_inj, FE_inj, ap_slI, ap_catI, ap_perm, ap_lenO, ap_strO, ap_listO, ap_reprB, ap_iterT, ap_neT, ap_negO, ap_binI, ap_catL, ap_tM1, ap_repTI, ap_popN, ap_par3, ap_catTT, ap_repTA, ap_countT, ap_notInT, ap_repL1, ap_cm, ap_shl, ap_shr, ap_mask, ap_comb, ap_bits, ap_rng3, List.set_cons_zero, List.set_cons_succ, List.getElem?_cons_zero, List.getElem?_cons_succ, List.cons_append, List.nil_append, List.append_nil, Option.some.injEq, V.int.injEq, V.ref.injEq, V.bl.injEq, V.str.injEq, V.ty.injEq, Bool.not_true, Bool.not_false, HO.lst.injEq, HO.tup.injEq, reduceCtorEq, Int.reduceToNat, Int.reduceLT, Int.reduceLE, Nat.reduceAdd, Int.cast_ofNat_Int, gi_c0, gi_c1, gi_c2, gi_c3, Int.natCast_inj, map_int_inj, map_nil_iff, List.cons.injEq, exists_eq_left, exists_eq_left', exists_eq, exists_eq', exists_and_left, exists_and_right, exists_const, and_assoc, and_true, true_and, and_false, false_and, or_false, false_or, or_true, true_or, ite_true, ite_false, if_true, if_false, Bool.false_eq_true, own_cons, own_nil, le1, le2, le3, le4, me_cons, me_nil, List.length_map, List.length_cons, List.length_nil, ne_eq, not_false_eq_true, not_true_eq_false, decide_eq_true_eq]
    refine ⟨⟨_, sqT_of hp⟩, lc_tupI (fun i => m * ns.getD i 0) hp (by rw [List.length_map]; omega) (fun x => rfl) (fun i x H' hx sm Q' k' => ?_) (fun A H' hA sm e => ?_)⟩
    · obtain ⟨n, rfl, en⟩ := at_int hx
      have b1 := hn n (List.mem_of_getElem? en)
      unfold Wd at b1 hm
      simp only [ap_seq, ap_next, ap_asg, ap_gName, ap_ret, ap_retN, ap_drop, ap_ifS, ap_break, ap_cont, ap_par, ap_aug, ap_ip, ap_gSub, ap_gTup, ap_gNil, ap_gCons, ap_var, ap_c, ap_op, ap_un, ap_if, ap_test, ap_B, ap_and, ap_or, ap_not, ap_andV, ap_orV, ap_notV, ap_nil, ap_cons, ap_tup, ap_lst, ap_cb, ap_bm, ap_call, ap_chain, ap_rI, ap_rI0, ap_rU, ap_rEq, ap_rNe, ap_revT, ap_sl, ap_part, ap_noPart, ap_ixLI, ap_ixTI, ap_ixLV, ap_ixTV, ap_len, ap_setLI, ap_setLV, ap_appI, ap_appV, ap_tupL, ap_listS, ap_sumLI, ap_sumTI, ap_repLI, ap_intI, ap_intB, ap_eqTI, ap_neTI, ap_eqLI, ap_neLI, ap_isi, ap_for, ap_rng1, ap_rng2, ap_iList, ap_iTup, ap_lc, ap_yes, ap_cut, ap_gTupH, ap_fmt, ap_jsn, ap_jsc, ap_gcd, ap_isqrt, ap_ixL, tyV_l, wipe_nil, wipe_cons, upd_same, ap_iEnT, ap_iEnL, ap_iZipA, ap_all, ap_tupT, ap_attF, ap_makeL, ap_att, ap_prop, ap_isO, ap_bin, ap_ne, ap_meth, ap_make, ins_inj, FE_inj, ap_slI, ap_catI, ap_perm, ap_lenO, ap_strO, ap_listO, ap_reprB, ap_iterT, ap_neT, ap_negO, ap_binI, ap_catL, ap_tM1, ap_repTI, ap_popN, ap_par3, ap_catTT, ap_repTA, ap_countT, ap_notInT, ap_repL1, ap_cm, ap_shl, ap_shr, ap_mask, ap_comb, ap_bits, ap_rng3, List.set_cons_zero, List.set_cons_succ, List.getElem?_cons_zero, List.getElem?_cons_succ, List.cons_append, List.nil_append, List.append_nil, Option.some.injEq, V.int.injEq, V.ref.injEq, V.bl.injEq, V.str.injEq, V.ty.injEq, Bool.not_true, Bool.not_false, HO.lst.injEq, HO.tup.injEq, reduceCtorEq, Int.reduceToNat, Int.reduceLT, Int.reduceLE, Nat.reduceAdd, Int.cast_ofNat_Int, gi_c0, gi_c1, gi_c2, gi_c3, Int.natCast_inj, map_int_inj, map_nil_iff, List.cons.injEq, exists_eq_left, exists_eq_left', exists_eq, exists_eq', exists_and_left, exists_and_right, exists_const, and_assoc, and_true, true_and, and_false, false_and, or_false, false_or, or_true, true_or, ite_true, ite_false, if_true, if_false, Bool.false_eq_true, own_cons, own_nil, le1, le2, le3, le4, me_cons, me_nil, List.length_map, List.length_cons, List.length_nil, ne_eq, not_false_eq_true, not_true_eq_false, decide_eq_true_eq, CMu]
      rw [List.getD_eq_getElem?_getD, en] at k'
      exact ⟨hm.1, hm.2, b1.1, b1.2, k' _ (Same.refl _)⟩
    · refine ⟨A, rfl, _, e, fun l nl => k _ l (sm.trans (same_upd nl)) (free_of sm nl) ?_⟩
      rw [upd_same, List.length_map]
      have el : (ns.map (m * ·)).length = ns.length := List.length_map ..
      have e2 : (List.range ns.length).map (fun i => m * ns.getD i 0) = ns.map (m * ·) := by
        rw [← el]
        refine range_map fun i n hn => ?_
        rw [List.getElem?_map] at hn
        rw [List.getD_eq_getElem?_getD]
        rcases h1 : ns[i]? with _ | a
        · rw [h1] at hn
          simp at hn
        · rw [h1] at hn
          exact Option.some.inj hn
      rw [e2]
/-! ### powers and products of many -/
def powP (ns : List Int) : Nat → List Int
  | 0 => [1]
  | k + 1 => mulP (powP ns k) ns
def sp_law_power : Sp := fun vs H Q _ => ∃ (p : Addr) (ns : List Int) (m : Nat), vs = [.ref p, .int (m : Nat)] ∧ H p = some (TI ns) ∧ 0 < ns.length ∧ ns.length < 1000 ∧ m < 1000 ∧ (∀ k, k < m → (powP ns k).length < 1000 ∧ ∀ n ∈ powP ns k, Wd n) ∧ (∀ n ∈ ns, Wd n) ∧
  ∀ H' r, Same H H' → H r = none → H' r = some (TI (powP ns m)) → Q (.ref r) H'
theorem powP_len {ns : List Int} (h : 0 < ns.length) : ∀ k, 0 < (powP ns k).length
  | 0 => by show 0 < 1; omega
  | k + 1 => by
    have := powP_len h k
    show 0 < (mulP (powP ns k) ns).length
    rw [mulP_len]
    omega
theorem ok_law_power (T : Tx K mg) : FnOk P w K mg base CX0 2 T.f_law_power T.d_law_power p_law_power sp_law_power := by
  refine T.F_law_power.ok sc_law_power (fun vs H Q E h => ?_) (fun cdv A outer s H vs Q E hr h => ?_)
  · obtain ⟨p, ns, m, rfl, _⟩ := h
    rfl
  · obtain ⟨p, ns, m, rfl, hp, h1, h2, h3, h4, h5, k⟩ := h
    refine ⟨_, (pss_cons (ps_set (i := 2) sc_law_power.nd rfl (Or.inl rfl) (pe_tup (pa_cons pe_int pa_nil)))
      (pss_cons (ps_for PassesOwn.never rfl (pi_range1 (by rfl) T.z_range (pa_cons (pv 1) pa_nil)) (pg_name (i := 3) sc_law_power.nd rfl (by first | exact .inl rfl | exact .inr rfl))
      (pss_one (ps_set (i := 2) sc_law_power.nd rfl (Or.inl rfl) (pe_call (ok_law_product T) (hr.mono (by decide)) (by rfl) T.m_law_product T.F_law_product.kp T.b_law_product .nil pass0 (pa_cons (pv 2) (pa_cons (pv 0) pa_nil))))))
      (pss_one (ps_ret (pv 2))))), ?_⟩
    rw [st_law_power]
    simp only [ap_seq, ap_next, ap_asg, ap_gName, ap_ret, ap_retN, ap_drop, ap_ifS, ap_break, ap_cont, ap_par, ap_aug, ap_ip, ap_gSub, ap_gTup, ap_gNil, ap_gCons, ap_var, ap_c, ap_op, ap_un, ap_if, ap_test, ap_B, ap_and, ap_or, ap_not, ap_andV, ap_orV, ap_notV, ap_nil, ap_cons, ap_tup, ap_lst, ap_cb, ap_bm, ap_call, ap_chain, ap_rI, ap_rI0, ap_rU, ap_rEq, ap_rNe, ap_revT, ap_sl, ap_part, ap_noPart, ap_ixLI, ap_ixTI, ap_ixLV, ap_ixTV, ap_len, ap_setLI, ap_setLV, ap_appI, ap_appV, ap_tupL, ap_listS, ap_sumLI, ap_sumTI, ap_repLI, ap_intI, ap_intB, ap_eqTI, ap_neTI, ap_eqLI, ap_neLI, ap_isi, ap_for, ap_rng1, ap_rng2, ap_iList, ap_iTup, ap_lc, ap_yes, ap_cut, ap_gTupH, ap_fmt, ap_jsn, ap_jsc, ap_gcd, ap_isqrt, ap_ixL, tyV_l, wipe_nil, wipe_cons, upd_same, ap_iEnT, ap_iEnL, ap_iZipA, ap_all, ap_tupT, ap_attF, ap_makeL, ap_att, ap_prop, ap_isO, ap_bin, ap_ne, ap_meth, ap_make, ins_inj, FE_inj, ap_slI, ap_catI, ap_perm, ap_lenO, ap_strO, ap_listO, ap_reprB, ap_iterT, ap_neT, ap_negO, ap_binI, ap_catL, ap_tM1, ap_repTI, ap_popN, ap_par3, ap_catTT, ap_repTA, ap_countT, ap_notInT, ap_repL1, ap_cm, ap_shl, ap_shr, ap_mask, ap_comb, ap_bits, ap_rng3, List.set_cons_zero, List.set_cons_succ, List.getElem?_cons_zero, List.getElem?_cons_succ, List.cons_append, List.nil_append, List.append_nil, Option.some.injEq, V.int.injEq, V.ref.injEq, V.bl.injEq, V.str.injEq, V.ty.injEq, Bool.not_true, Bool.not_false, HO.lst.injEq, HO.tup.injEq, reduceCtorEq, Int.reduceToNat, Int.reduceLT, Int.reduceLE, Nat.reduceAdd, Int.cast_ofNat_Int, gi_c0, gi_c1, gi_c2, gi_c3, Int.natCast_inj, map_int_inj, map_nil_iff, List.cons.injEq, exists_eq_left, exists_eq_left', exists_eq, exists_eq', exists_and_left, exists_and_right, exists_const, and_assoc, and_true, true_and, and_false, false_and, or_false, false_or, or_true, true_or, ite_true, ite_false, if_true, if_false, Bool.false_eq_true, own_cons, own_nil, le1, le2, le3, le4, me_cons, me_nil, List.length_map, List.length_cons, List.length_nil, ne_eq, not_false_eq_true, not_true_eq_false, decide_eq_true_eq]
    refine ⟨by decide, fun l nl => ⟨by omega, by omega, ?_⟩⟩
    rw [Int.toNat_natCast]
    refine loop_range (fun i σ' H' => (∃ r y, σ' = [some (V.ref p), some (V.int (m : Nat)), some (V.ref r), y] ∧ H r = none ∧ H' r = some (TI (powP ns i))) ∧ Same H H') ⟨⟨l, _, rfl, nl, upd_same⟩, same_upd nl⟩ (fun i σ' H1 hi hP => ?_) (fun σ' H1 hP => ?_)
    · obtain ⟨⟨r, y, e, nr, er⟩, sm⟩ := hP
      subst e
      simp only [ap_seq, ap_next, ap_asg, ap_gName, ap_ret, ap_retN, ap_drop, ap_ifS, ap_break, ap_cont, ap_par, ap_aug, ap_ip, ap_gSub, ap_gTup, ap_gNil, ap_gCons, ap_var, ap_c, ap_op, ap_un, ap_if, ap_test, ap_B, ap_and, ap_or, ap_not, ap_andV, ap_orV, ap_notV, ap_nil, ap_cons, ap_tup, ap_lst, ap_cb, ap_bm, ap_call, ap_chain, ap_rI, ap_rI0, ap_rU, ap_rEq, ap_rNe, ap_revT, ap_sl, ap_part, ap_noPart, ap_ixLI, ap_ixTI, ap_ixLV, ap_ixTV, ap_len, ap_setLI, ap_setLV, ap_appI, ap_appV, ap_tupL, ap_listS, ap_sumLI, ap_sumTI, ap_repLI, ap_intI, ap_intB, ap_eqTI, ap_neTI, ap_eqLI, ap_neLI, ap_isi, ap_for, ap_rng1, ap_rng2, ap_iList, ap_iTup, ap_lc, ap_yes, ap_cut, ap_gTupH, ap_fmt, ap_jsn, ap_jsc, ap_gcd, ap_isqrt, ap_ixL, tyV_l, wipe_nil, wipe_cons, upd_same, ap_iEnT, ap_iEnL, ap_iZipA, ap_all, ap_tupT, ap_attF, ap_makeL, ap_att, ap_prop, ap_isO, ap_bin, ap_ne, ap_meth, ap_make, ins_inj, FE_inj, ap_slI, ap_catI, ap_perm, ap_lenO, ap_strO, ap_listO, ap_reprB, ap_iterT, ap_neT, ap_negO, ap_binI, ap_catL, ap_tM1, ap_repTI, ap_popN, ap_par3, ap_catTT, ap_repTA, ap_countT, ap_notInT, ap_repL1, ap_cm, ap_shl, ap_shr, ap_mask, ap_comb, ap_bits, ap_rng3, List.set_cons_zero, List.set_cons_succ, List.getElem?_cons_zero, List.getElem?_cons_succ, List.cons_append, List.nil_append, List.append_nil, Option.some.injEq, V.int.injEq, V.ref.injEq, V.bl.injEq, V.str.injEq, V.ty.injEq, Bool.not_true, Bool.not_false, HO.lst.injEq, HO.tup.injEq, reduceCtorEq, Int.reduceToNat, Int.reduceLT, Int.reduceLE, Nat.reduceAdd, Int.cast_ofNat_Int, gi_c0, gi_c1, gi_c2, gi_c3, Int.natCast_inj, map_int_inj, map_nil_iff, List.cons.injEq, exists_eq_left, exists_eq_left', exists_eq, exists_eq', exists_and_left, exists_and_right, exists_const, and_assoc, and_true, true_and, and_false, false_and, or_false, false_or, or_true, true_or, ite_true, ite_false, if_true, if_false, Bool.false_eq_true, own_cons, own_nil, le1, le2, le3, le4, me_cons, me_nil, List.length_map, List.length_cons, List.length_nil, ne_eq, not_false_eq_true, not_true_eq_false, decide_eq_true_eq]
      refine ⟨r, p, powP ns i, ns, rfl, er, sm _ _ hp, powP_len h1 i, h1, (h4 i hi).1, h2, (h4 i hi).2, h5, fun H2 r2 s2 nr2 e2 => ?_⟩
      simp only [ap_seq, ap_next, ap_asg, ap_gName, ap_ret, ap_retN, ap_drop, ap_ifS, ap_break, ap_cont, ap_par, ap_aug, ap_ip, ap_gSub, ap_gTup, ap_gNil, ap_gCons, ap_var, ap_c, ap_op, ap_un, ap_if, ap_test, ap_B, ap_and, ap_or, ap_not, ap_andV, ap_orV, ap_notV, ap_nil, ap_cons, ap_tup, ap_lst, ap_cb, ap_bm, ap_call, ap_chain, ap_rI, ap_rI0, ap_rU, ap_rEq, ap_rNe, ap_revT, ap_sl, ap_part, ap_noPart, ap_ixLI, ap_ixTI, ap_ixLV, ap_ixTV, ap_len, ap_setLI, ap_setLV, ap_appI, ap_appV, ap_tupL, ap_listS, ap_sumLI, ap_sumTI, ap_repLI, ap_intI, ap_intB, ap_eqTI, ap_neTI, ap_eqLI, ap_neLI, ap_isi, ap_for, ap_rng1, ap_rng2, ap_iList, ap_iTup, ap_lc, ap_yes, ap_cut, ap_gTupH, ap_fmt, ap_jsn, ap_jsc, ap_gcd, ap_isqrt, ap_ixL, tyV_l, wipe_nil, wipe_cons, upd_same, ap_iEnT, ap_iEnL, ap_iZipA, ap_all, ap_tupT, ap_attF, ap_makeL, ap_att, ap_prop, ap_isO, ap_bin, ap_ne, ap_meth, ap_make, ins_inj, FE_inj, ap_slI, ap_catI, ap_perm, ap_lenO, ap_strO, ap_listO, ap_reprB, ap_iterT, ap_neT, ap_negO, ap_binI, ap_catL, ap_tM1, ap_repTI, ap_popN, ap_par3, ap_catTT, ap_repTA, ap_countT, ap_notInT, ap_repL1, ap_cm, ap_shl, ap_shr, ap_mask, ap_comb, ap_bits, ap_rng3, List.set_cons_zero, List.set_cons_succ, List.getElem?_cons_zero, List.getElem?_cons_succ, List.cons_append, List.nil_append, List.append_nil, Option.some.injEq, V.int.injEq, V.ref.injEq, V.bl.injEq, V.str.injEq, V.ty.injEq, Bool.not_true, Bool.not_false, HO.lst.injEq, HO.tup.injEq, reduceCtorEq, Int.reduceToNat, Int.reduceLT, Int.reduceLE, Nat.reduceAdd, Int.cast_ofNat_Int, gi_c0, gi_c1, gi_c2, gi_c3, Int.natCast_inj, map_int_inj, map_nil_iff, List.cons.injEq, exists_eq_left, exists_eq_left', exists_eq, exists_eq', exists_and_left, exists_and_right, exists_const, and_assoc, and_true, true_and, and_false, false_and, or_false, false_or, or_true, true_or, ite_true, ite_false, if_true, if_false, Bool.false_eq_true, own_cons, own_nil, le1, le2, le3, le4, me_cons, me_nil, List.length_map, List.length_cons, List.length_nil, ne_eq, not_false_eq_true, not_true_eq_false, decide_eq_true_eq]
      exact ⟨free_of sm nr2, e2, sm.trans s2⟩
    · obtain ⟨⟨r, y, e, nr, er⟩, sm⟩ := hP
      subst e
      simp only [ap_seq, ap_next, ap_asg, ap_gName, ap_ret, ap_retN, ap_drop, ap_ifS, ap_break, ap_cont, ap_par, ap_aug, ap_ip, ap_gSub, ap_gTup, ap_gNil, ap_gCons, ap_var, ap_c, ap_op, ap_un, ap_if, ap_test, ap_B, ap_and, ap_or, ap_not, ap_andV, ap_orV, ap_notV, ap_nil, ap_cons, ap_tup, ap_lst, ap_cb, ap_bm, ap_call, ap_chain, ap_rI, ap_rI0, ap_rU, ap_rEq, ap_rNe, ap_revT, ap_sl, ap_part, ap_noPart, ap_ixLI, ap_ixTI, ap_ixLV, ap_ixTV, ap_len, ap_setLI, ap_setLV, ap_appI, ap_appV, ap_tupL, ap_listS, ap_sumLI, ap_sumTI, ap_repLI, ap_intI, ap_intB, ap_eqTI, ap_neTI, ap_eqLI, ap_neLI, ap_isi, ap_for, ap_rng1, ap_rng2, ap_iList, ap_iTup, ap_lc, ap_yes, ap_cut, ap_gTupH, ap_fmt, ap_jsn, ap_jsc, ap_gcd, ap_isqrt, ap_ixL, tyV_l, wipe_nil, wipe_cons, upd_same, ap_iEnT, ap_iEnL, ap_iZipA, ap_all, ap_tupT, ap_attF, ap_makeL, ap_att, ap_prop, ap_isO, ap_bin, ap_ne, ap_meth, ap_make, ins_inj, FE_inj, ap_slI, ap_catI, ap_perm, ap_lenO, ap_strO, ap_listO, ap_reprB, ap_iterT, ap_neT, ap_negO, ap_binI, ap_catL, ap_tM1, ap_repTI, ap_popN, ap_par3, ap_catTT, ap_repTA, ap_countT, ap_notInT, ap_repL1, ap_cm, ap_shl, ap_shr, ap_mask, ap_comb, ap_bits, ap_rng3, List.set_cons_zero, List.set_cons_succ, List.getElem?_cons_zero, List.getElem?_cons_succ, List.cons_append, List.nil_append, List.append_nil, Option.some.injEq, V.int.injEq, V.ref.injEq, V.bl.injEq, V.str.injEq, V.ty.injEq, Bool.not_true, Bool.not_false, HO.lst.injEq, HO.tup.injEq, reduceCtorEq, Int.reduceToNat, Int.reduceLT, Int.reduceLE, Nat.reduceAdd, Int.cast_ofNat_Int, gi_c0, gi_c1, gi_c2, gi_c3, Int.natCast_inj, map_int_inj, map_nil_iff, List.cons.injEq, exists_eq_left, exists_eq_left', exists_eq, exists_eq', exists_and_left, exists_and_right, exists_const, and_assoc, and_true, true_and, and_false, false_and, or_false, false_or, or_true, true_or, ite_true, ite_false, if_true, if_false, Bool.false_eq_true, own_cons, own_nil, le1, le2, le3, le4, me_cons, me_nil, List.length_map, List.length_cons, List.length_nil, ne_eq, not_false_eq_true, not_true_eq_false, decide_eq_true_eq]
      exact k _ r sm nr er
end
end My
namespace My
open PySem PySem.Spec PyProof.Rows L2 Pr
section
variable {g : TG} {D : Ends} {σ : L2.St} {H : Hp} {j : Nat} {te : TE} {vs : List Nat} {Q : VK} {tt : TT}
/-- a comprehension whose turns throw dice -/
theorem lc_rangeR {lo : Int} {n : Nat} {d : Addr} (R : Int → Prop) (hn : n < 1000000) (hD : Dc H d) (hw : ∀ x, wipe ((wipe σ vs).set j (some x)) vs = wipe σ vs)
    (he : ∀ (i : Nat) H', i < n → Exc d H H' → Dc H' d → ∀ Q' : VK, (∀ H'' x, Exc d H' H'' → Dc H'' d → R x → Q' (.int x) H'') → te ((wipe σ vs).set j (some (.int (lo + i)))) H' Q')
    (hq : ∀ p H' ns, H p = none → Exc d H H' → Dc H' d → ns.length = n → (∀ x ∈ ns, R x) → H' p = some (LI ns) → Q (.ref p) H') :
    tLcIn (gName j) tYes te vs σ Q (Itr lo n) H := fun A hA => by
  have nd : A ≠ d := by
    obtain ⟨_, _, _, e⟩ := hD
    exact (ne_of_none e hA).symm
  refine lc_range (g := gName j) (lo := lo) (n := n) (fun i H' => Exc d H H' ∧ Dc H' d ∧ ∃ ns, ns.length = i ∧ (∀ x ∈ ns, R x) ∧ H' A = some (LI ns)) ⟨.same (same_upd hA), hD.same (same_upd hA), [], rfl, by simp, upd_same⟩ (fun i H' hi hP => ?_) (fun H' hP => ?_)
  · obtain ⟨ex, dc, ns, l, r, e⟩ := hP
    refine ⟨hw _, he i H' hi ex dc _ fun H2 x ex2 dc2 rx => ⟨_, ex2 _ _ nd e, sz (by simp; omega), ?_, ?_, ns ++ [x], by simp [l], ?_, ?_⟩⟩
    · intro b o hb eb
      rw [upd_ne (ne_of_none eb hA)]
      exact ex2 _ _ hb (ex _ _ hb eb)
    · obtain ⟨a1, a2, a3, ed⟩ := dc2
      exact ⟨a1, a2, a3, by rw [upd_ne nd.symm]; exact ed⟩
    · intro y hy
      rcases List.mem_append.mp hy with h | h
      · exact r y h
      · rw [show y = x by simpa using h]
        exact rx
    · rw [upd_same]
      exact congrArg (fun z => some (HO.lst z)) (List.map_append (f := V.int) (l₁ := ns) (l₂ := [x])).symm
  · obtain ⟨ex, dc, ns, l, r, e⟩ := hP
    exact hq A H' ns hA ex dc l r e
end
section
variable {P : Program} {w : World} {K : PySem.W.Frag} {mg : Str → Option Value} {base : Heap}
theorem free_ex {d : Addr} {H H' : Hp} {t : Addr} (ex : Exc d H H') (dc : Dc H' d) (nt : H' t = none) : H t = none := by
  obtain ⟨_, _, _, ed⟩ := dc
  have td : t ≠ d := (ne_of_none ed nt).symm
  rcases e : H t with _ | o
  · rfl
  · rw [ex _ _ td e] at nt
    cases nt
/-! ### the plain form -/
theorem gcdF (ns : List Int) : ∀ a : Int, 0 ≤ a → 0 ≤ ns.foldl (fun a b => ((Int.gcd a b : Nat) : Int)) a ∧ ns.foldl (fun a b => ((Int.gcd a b : Nat) : Int)) a ∣ a ∧ ∀ n ∈ ns, ns.foldl (fun a b => ((Int.gcd a b : Nat) : Int)) a ∣ n := by
  induction ns with
  | nil => exact fun a h => ⟨h, Int.dvd_refl a, fun n hn => by simp at hn⟩
  | cons m ns ih =>
    intro a h
    obtain ⟨h1, h2, h3⟩ := ih (Int.gcd a m : Nat) (Int.natCast_nonneg _)
    refine ⟨h1, Int.dvd_trans h2 (Int.gcd_dvd_left _ _), fun n hn => ?_⟩
    rcases List.mem_cons.mp hn with rfl | hn
    · exact Int.dvd_trans h2 (Int.gcd_dvd_right _ _)
    · exact h3 n hn
theorem gcdL_nn (ns : List Int) : 0 ≤ gcdL ns := (gcdF ns 0 (Int.le_refl _)).1
theorem gcdL_dvd {ns : List Int} {n : Int} (h : n ∈ ns) : gcdL ns ∣ n := (gcdF ns 0 (Int.le_refl _)).2.2 n h
theorem gcdL_zero {ns : List Int} (h : ∀ n ∈ ns, n = 0) : gcdL ns = 0 := by
  have k : ∀ ns : List Int, (∀ n ∈ ns, n = 0) → ns.foldl (fun a b => ((Int.gcd a b : Nat) : Int)) 0 = 0 := by
    intro ns
    induction ns with
    | nil => exact fun _ => rfl
    | cons m ns ih =>
      intro h
      rw [List.foldl_cons, h m (List.mem_cons_self ..)]
      exact ih fun n hn => h n (List.mem_cons_of_mem _ hn)
  exact k ns h
theorem gcdL_some {ns : List Int} (h : gcdL ns ≠ 0) : ∃ n ∈ ns, n ≠ 0 := by
  refine Classical.byContradiction fun c => h (gcdL_zero fun n hn => ?_)
  exact Classical.byContradiction fun d => c ⟨n, hn, d⟩
theorem gcdL_wd {ns : List Int} (h : gcdL ns ≠ 0) (b : ∀ n ∈ ns, Wd n) : 0 < gcdL ns ∧ gcdL ns < (2 ^ 250) ^ 16 := by
  obtain ⟨n, hn, n0⟩ := gcdL_some h
  have h1 := gcdL_nn ns
  have h2 := gcdL_dvd hn
  have h3 : gcdL ns ≤ (n.natAbs : Int) := Int.le_of_dvd (by omega) (Int.dvd_natAbs.mpr h2)
  have h4 := b n hn
  unfold Wd at h4
  omega
def nz (n : Int) : Bool := decide (n ≠ 0)
def plainP (ns : List Int) : List Int := if gcdL ns = 0 then ns else ns.map fun n => n.fdiv (if 0 < gi (ns.filter nz) 0 then gcdL ns else 0 - gcdL ns)
def sp_law_small_form : Sp := fun vs H Q _ => ∃ (d : Addr) (n : Nat) (m : Int), vs = [.ref d, .int (n : Nat), .int m] ∧ Dc H d ∧ n < 1000 ∧ 0 ≤ m ∧ m < 10 ^ 50 ∧
  ∀ H' r ns, Exc d H H' → Dc H' d → H r = none → ns.length = n + 1 → Bd m ns → H' r = some (TI ns) → Q (.ref r) H'
theorem ok_law_small_form (T : Tx K mg) : FnOk P w K mg base CX0 3 T.f_law_small_form T.d_law_small_form p_law_small_form sp_law_small_form := by
  refine T.F_law_small_form.ok sc_law_small_form (fun vs H Q E h => ?_) (fun cdv A outer s H vs Q E hr h => ?_)
  · obtain ⟨d, n, m, rfl, _⟩ := h
    rfl
  · obtain ⟨d, n, m, rfl, hD, hn, h0, h1, k⟩ := h
    refine ⟨_, (pss_one (ps_ret (pe_callTy cr_tupL (by rfl) T.z_tuple (by decide +kernel) (pa_cons (pe_lc (own := [("_law_place", 3)]) (g := gName 3) (tt := tYes) rfl sc_law_small_form.nd (pi_range1 (by rfl) T.z_range (pa_cons (pe_op op_add (pv 1) pe_int) pa_nil)) (blkOk_by (N := n_law_small_form) (sc := defScope s_law_small_form) (by decide +kernel)) (fun _ _ _ _ _ => (pg_name (i := 3) sc_law_small_form.nd rfl (by first | exact .inl rfl | exact .inr rfl))) (fun _ _ _ _ _ => pts_nil) (fun _ _ _ _ _ => (pe_call (ok_law_near T) (hr.mono (by decide)) (by rfl) T.m_law_near T.F_law_near.kp T.b_law_near .nil pass0 (pa_cons (pv 0) (pa_cons (pv 2) pa_nil))))) pa_nil)))), ?_⟩
    rw [st_law_small_form]
    simp only [ap_seq, ap_next, ap_asg, ap_gName, ap_ret, ap_retN, ap_drop, ap_ifS, ap_break, ap_cont, ap_par, ap_aug, ap_ip, ap_gSub, ap_gTup, ap_gNil, ap_gCons, ap_var, ap_c, ap_op, ap_un, ap_if, ap_test, ap_B, ap_and, ap_or, ap_not, ap_andV, ap_orV, ap_notV, ap_nil, ap_cons, ap_tup, ap_lst, ap_cb, ap_bm, ap_call, ap_chain, ap_rI, ap_rI0, ap_rU, ap_rEq, ap_rNe, ap_revT, ap_sl, ap_part, ap_noPart, ap_ixLI, ap_ixTI, ap_ixLV, ap_ixTV, ap_len, ap_setLI, ap_setLV, ap_appI, ap_appV, ap_tupL, ap_listS, ap_sumLI, ap_sumTI, ap_repLI, ap_intI, ap_intB, ap_eqTI, ap_neTI, ap_eqLI, ap_neLI, ap_isi, ap_for, ap_rng1, ap_rng2, ap_iList, ap_iTup, ap_lc, ap_yes, ap_cut, ap_gTupH, ap_fmt, ap_jsn, ap_jsc, ap_gcd, ap_isqrt, ap_ixL, tyV_l, wipe_nil, wipe_cons, upd_same, ap_iEnT, ap_iEnL, ap_iZipA, ap_all, ap_tupT, ap_attF, ap_makeL, ap_att, ap_prop, ap_isO, ap_bin, ap_ne, ap_meth, ap_make, ins_inj, FE_inj, ap_slI, ap_catI, ap_perm, ap_lenO, ap_strO, ap_listO, ap_reprB, ap_iterT, ap_neT, ap_negO, ap_binI, ap_catL, ap_tM1, ap_repTI, ap_popN, ap_par3, ap_catTT, ap_repTA, ap_countT, ap_notInT, ap_repL1, ap_cm, ap_shl, ap_shr, ap_mask, ap_comb, ap_bits, ap_rng3, List.set_cons_zero, List.set_cons_succ, List.getElem?_cons_zero, List.getElem?_cons_succ, List.cons_append, List.nil_append, List.append_nil, Option.some.injEq, V.int.injEq, V.ref.injEq, V.bl.injEq, V.str.injEq, V.ty.injEq, Bool.not_true, Bool.not_false, HO.lst.injEq, HO.tup.injEq, reduceCtorEq, Int.reduceToNat, Int.reduceLT, Int.reduceLE, Nat.reduceAdd, Int.cast_ofNat_Int, gi_c0, gi_c1, gi_c2, gi_c3, Int.natCast_inj, map_int_inj, map_nil_iff, List.cons.injEq, exists_eq_left, exists_eq_left', exists_eq, exists_eq', exists_and_left, exists_and_right, exists_const, and_assoc, and_true, true_and, and_false, false_and, or_false, false_or, or_true, true_or, ite_true, ite_false, if_true, if_false, Bool.false_eq_true, own_cons, own_nil, le1, le2, le3, le4, me_cons, me_nil, List.length_map, List.length_cons, List.length_nil, ne_eq, not_false_eq_true, not_true_eq_false, decide_eq_true_eq]
    have en : ((n : Int) + 1).toNat = n + 1 := by omega
    rw [en]
    refine ⟨by omega, by omega, lc_rangeR (fun x => -m ≤ x ∧ x ≤ m) (by omega) hD (fun x => rfl) (fun i H1 hi ex dc Q' k' => ?_) (fun A H1 ns nA ex dc l r e => ?_)⟩
    · simp only [ap_seq, ap_next, ap_asg, ap_gName, ap_ret, ap_retN, ap_drop, ap_ifS, ap_break, ap_cont, ap_par, ap_aug, ap_ip, ap_gSub, ap_gTup, ap_gNil, ap_gCons, ap_var, ap_c, ap_op, ap_un, ap_if, ap_test, ap_B, ap_and, ap_or, ap_not, ap_andV, ap_orV, ap_notV, ap_nil, ap_cons, ap_tup, ap_lst, ap_cb, ap_bm, ap_call, ap_chain, ap_rI, ap_rI0, ap_rU, ap_rEq, ap_rNe, ap_revT, ap_sl, ap_part, ap_noPart, ap_ixLI, ap_ixTI, ap_ixLV, ap_ixTV, ap_len, ap_setLI, ap_setLV, ap_appI, ap_appV, ap_tupL, ap_listS, ap_sumLI, ap_sumTI, ap_repLI, ap_intI, ap_intB, ap_eqTI, ap_neTI, ap_eqLI, ap_neLI, ap_isi, ap_for, ap_rng1, ap_rng2, ap_iList, ap_iTup, ap_lc, ap_yes, ap_cut, ap_gTupH, ap_fmt, ap_jsn, ap_jsc, ap_gcd, ap_isqrt, ap_ixL, tyV_l, wipe_nil, wipe_cons, upd_same, ap_iEnT, ap_iEnL, ap_iZipA, ap_all, ap_tupT, ap_attF, ap_makeL, ap_att, ap_prop, ap_isO, ap_bin, ap_ne, ap_meth, ap_make, ins_inj, FE_inj, ap_slI, ap_catI, ap_perm, ap_lenO, ap_strO, ap_listO, ap_reprB, ap_iterT, ap_neT, ap_negO, ap_binI, ap_catL, ap_tM1, ap_repTI, ap_popN, ap_par3, ap_catTT, ap_repTA, ap_countT, ap_notInT, ap_repL1, ap_cm, ap_shl, ap_shr, ap_mask, ap_comb, ap_bits, ap_rng3, List.set_cons_zero, List.set_cons_succ, List.getElem?_cons_zero, List.getElem?_cons_succ, List.cons_append, List.nil_append, List.append_nil, Option.some.injEq, V.int.injEq, V.ref.injEq, V.bl.injEq, V.str.injEq, V.ty.injEq, Bool.not_true, Bool.not_false, HO.lst.injEq, HO.tup.injEq, reduceCtorEq, Int.reduceToNat, Int.reduceLT, Int.reduceLE, Nat.reduceAdd, Int.cast_ofNat_Int, gi_c0, gi_c1, gi_c2, gi_c3, Int.natCast_inj, map_int_inj, map_nil_iff, List.cons.injEq, exists_eq_left, exists_eq_left', exists_eq, exists_eq', exists_and_left, exists_and_right, exists_const, and_assoc, and_true, true_and, and_false, false_and, or_false, false_or, or_true, true_or, ite_true, ite_false, if_true, if_false, Bool.false_eq_true, own_cons, own_nil, le1, le2, le3, le4, me_cons, me_nil, List.length_map, List.length_cons, List.length_nil, ne_eq, not_false_eq_true, not_true_eq_false, decide_eq_true_eq]
      exact ⟨d, m, rfl, dc, h0, h1, fun H2 x ex2 dc2 x1 x2 => k' H2 x ex2 dc2 ⟨x1, x2⟩⟩
    · simp only [ap_seq, ap_next, ap_asg, ap_gName, ap_ret, ap_retN, ap_drop, ap_ifS, ap_break, ap_cont, ap_par, ap_aug, ap_ip, ap_gSub, ap_gTup, ap_gNil, ap_gCons, ap_var, ap_c, ap_op, ap_un, ap_if, ap_test, ap_B, ap_and, ap_or, ap_not, ap_andV, ap_orV, ap_notV, ap_nil, ap_cons, ap_tup, ap_lst, ap_cb, ap_bm, ap_call, ap_chain, ap_rI, ap_rI0, ap_rU, ap_rEq, ap_rNe, ap_revT, ap_sl, ap_part, ap_noPart, ap_ixLI, ap_ixTI, ap_ixLV, ap_ixTV, ap_len, ap_setLI, ap_setLV, ap_appI, ap_appV, ap_tupL, ap_listS, ap_sumLI, ap_sumTI, ap_repLI, ap_intI, ap_intB, ap_eqTI, ap_neTI, ap_eqLI, ap_neLI, ap_isi, ap_for, ap_rng1, ap_rng2, ap_iList, ap_iTup, ap_lc, ap_yes, ap_cut, ap_gTupH, ap_fmt, ap_jsn, ap_jsc, ap_gcd, ap_isqrt, ap_ixL, tyV_l, wipe_nil, wipe_cons, upd_same, ap_iEnT, ap_iEnL, ap_iZipA, ap_all, ap_tupT, ap_attF, ap_makeL, ap_att, ap_prop, ap_isO, ap_bin, ap_ne, ap_meth, ap_make, ins_inj, FE_inj, ap_slI, ap_catI, ap_perm, ap_lenO, ap_strO, ap_listO, ap_reprB, ap_iterT, ap_neT, ap_negO, ap_binI, ap_catL, ap_tM1, ap_repTI, ap_popN, ap_par3, ap_catTT, ap_repTA, ap_countT, ap_notInT, ap_repL1, ap_cm, ap_shl, ap_shr, ap_mask, ap_comb, ap_bits, ap_rng3, List.set_cons_zero, List.set_cons_succ, List.getElem?_cons_zero, List.getElem?_cons_succ, List.cons_append, List.nil_append, List.append_nil, Option.some.injEq, V.int.injEq, V.ref.injEq, V.bl.injEq, V.str.injEq, V.ty.injEq, Bool.not_true, Bool.not_false, HO.lst.injEq, HO.tup.injEq, reduceCtorEq, Int.reduceToNat, Int.reduceLT, Int.reduceLE, Nat.reduceAdd, Int.cast_ofNat_Int, gi_c0, gi_c1, gi_c2, gi_c3, Int.natCast_inj, map_int_inj, map_nil_iff, List.cons.injEq, exists_eq_left, exists_eq_left', exists_eq, exists_eq', exists_and_left, exists_and_right, exists_const, and_assoc, and_true, true_and, and_false, false_and, or_false, false_or, or_true, true_or, ite_true, ite_false, if_true, if_false, Bool.false_eq_true, own_cons, own_nil, le1, le2, le3, le4, me_cons, me_nil, List.length_map, List.length_cons, List.length_nil, ne_eq, not_false_eq_true, not_true_eq_false, decide_eq_true_eq, e]
      intro t nt
      refine k _ t ns (ex.trans (.same (same_upd nt))) (dc.same (same_upd nt)) ?_ l r upd_same
      exact free_ex ex dc nt
def sp_law_plain : Sp := fun vs H Q _ => ∃ (p : Addr) (ns : List Int), vs = [.ref p] ∧ H p = some (TI ns) ∧ ns.length < 1000 ∧ (∀ n ∈ ns, Wd n) ∧ ∀ H' r, Same H H' → (r = p ∨ H r = none) → H' r = some (TI (plainP ns)) → Q (.ref r) H'
theorem ok_law_plain (T : Tx K mg) : FnOk P w K mg base CX0 3 T.f_law_plain T.d_law_plain p_law_plain sp_law_plain := by
  refine T.F_law_plain.ok sc_law_plain (fun vs H Q E h => ?_) (fun cdv A outer s H vs Q E hr h => ?_)
  · obtain ⟨p, ns, rfl, _⟩ := h
    rfl
  · obtain ⟨p, ns, rfl, hp, hl, hn, k⟩ := h
    refine ⟨_, (pss_cons (ps_set (i := 1) sc_law_plain.nd rfl (Or.inr rfl) (pe_call (ok_law_shared T) (hr.mono (by decide)) (by rfl) T.m_law_shared T.F_law_shared.kp T.b_law_shared .nil pass0 (pa_cons (pv 0) pa_nil)))
      (pss_cons (ps_if (pt_cmpR op_eq (pv 1) pe_int (nomark _)) (pss_one (ps_ret (pv 0))) pss_nil)
      (pss_cons (ps_set (i := 2) sc_law_plain.nd rfl (Or.inr rfl) (pe_ix ix_LI (pe_lc (own := [("_law_entry", 3)]) (g := gName 3) rfl sc_law_plain.nd (pi_tup (pv 0)) (blkOk_by (N := n_law_plain) (sc := defScope s_law_plain) (by decide +kernel)) (fun _ _ _ _ _ => (pg_name (i := 3) sc_law_plain.nd rfl (by first | exact .inl rfl | exact .inr rfl))) (fun _ _ _ _ _ => (pts_one (pt_cmpR op_ne (pv 3) pe_int (nomark _)))) (fun _ _ _ _ _ => (pv 3))) pe_int (fun _ _ => rfl)))
      (pss_one (ps_ret (pe_callTy cr_tupL (by rfl) T.z_tuple (by decide +kernel) (pa_cons (pe_lc (own := [("_law_entry", 3)]) (g := gName 3) (tt := tYes) rfl sc_law_plain.nd (pi_tup (pv 0)) (blkOk_by (N := n_law_plain) (sc := defScope s_law_plain) (by decide +kernel)) (fun _ _ _ _ _ => (pg_name (i := 3) sc_law_plain.nd rfl (by first | exact .inl rfl | exact .inr rfl))) (fun _ _ _ _ _ => pts_nil) (fun _ _ _ _ _ => (pe_op op_fdivG (pv 3) (pe_ifExp (pt_cmpR op_gt (pv 2) pe_int (nomark _)) (pv 1) (pe_op op_sub pe_int (pv 1)))))) pa_nil))))))), ?_⟩
    rw [st_law_plain]
    simp only [ap_seq, ap_next, ap_asg, ap_gName, ap_ret, ap_retN, ap_drop, ap_ifS, ap_break, ap_cont, ap_par, ap_aug, ap_ip, ap_gSub, ap_gTup, ap_gNil, ap_gCons, ap_var, ap_c, ap_op, ap_un, ap_if, ap_test, ap_B, ap_and, ap_or, ap_not, ap_andV, ap_orV, ap_notV, ap_nil, ap_cons, ap_tup, ap_lst, ap_cb, ap_bm, ap_call, ap_chain, ap_rI, ap_rI0, ap_rU, ap_rEq, ap_rNe, ap_revT, ap_sl, ap_part, ap_noPart, ap_ixLI, ap_ixTI, ap_ixLV, ap_ixTV, ap_len, ap_setLI, ap_setLV, ap_appI, ap_appV, ap_tupL, ap_listS, ap_sumLI, ap_sumTI, ap_repLI, ap_intI, ap_intB, ap_eqTI, ap_neTI, ap_eqLI, ap_neLI, ap_isi, ap_for, ap_rng1, ap_rng2, ap_iList, ap_iTup, ap_lc, ap_yes, ap_cut, ap_gTupH, ap_fmt, ap_jsn, ap_jsc, ap_gcd, ap_isqrt, ap_ixL, tyV_l, wipe_nil, wipe_cons, upd_same, ap_iEnT, ap_iEnL, ap_iZipA, ap_all, ap_tupT, ap_attF, ap_makeL, ap_att, ap_prop, ap_isO, ap_bin, ap_ne, ap_meth, ap_make, ins_inj, FE_inj, ap_slI, ap_catI, ap_perm, ap_lenO, ap_strO, ap_listO, ap_reprB, ap_iterT, ap_neT, ap_negO, ap_binI, ap_catL, ap_tM1, ap_repTI, ap_popN, ap_par3, ap_catTT, ap_repTA, ap_countT, ap_notInT, ap_repL1, ap_cm, ap_shl, ap_shr, ap_mask, ap_comb, ap_bits, ap_rng3, List.set_cons_zero, List.set_cons_succ, List.getElem?_cons_zero, List.getElem?_cons_succ, List.cons_append, List.nil_append, List.append_nil, Option.some.injEq, V.int.injEq, V.ref.injEq, V.bl.injEq, V.str.injEq, V.ty.injEq, Bool.not_true, Bool.not_false, HO.lst.injEq, HO.tup.injEq, reduceCtorEq, Int.reduceToNat, Int.reduceLT, Int.reduceLE, Nat.reduceAdd, Int.cast_ofNat_Int, gi_c0, gi_c1, gi_c2, gi_c3, Int.natCast_inj, map_int_inj, map_nil_iff, List.cons.injEq, exists_eq_left, exists_eq_left', exists_eq, exists_eq', exists_and_left, exists_and_right, exists_const, and_assoc, and_true, true_and, and_false, false_and, or_false, false_or, or_true, true_or, ite_true, ite_false, if_true, if_false, Bool.false_eq_true, own_cons, own_nil, le1, le2, le3, le4, me_cons, me_nil, List.length_map, List.length_cons, List.length_nil, ne_eq, not_false_eq_true, not_true_eq_false, decide_eq_true_eq, sp_law_shared, hp]
    refine ⟨rfl, iteC (fun c => ?_) (fun c => ?_)⟩
    · refine k H p (Same.refl H) (.inl rfl) ?_
      unfold plainP
      rw [if_pos c]
      exact hp
    obtain ⟨g1, g2⟩ := gcdL_wd c hn
    refine ⟨⟨_, sqT_of hp⟩, lc_gen gives_tup (fun A i H' => Same H H' ∧ H' A = some (LI ((ns.take i).filter nz))) (fun A hA => ⟨same_upd hA, upd_same⟩) (fun A i H' _ p => p.1 _ _ hp) (fun A i v H1 H' hA hi p y => ?_) (fun A H1 hA p => ?_)⟩
    · obtain ⟨rfl, hx⟩ := y
      obtain ⟨n, rfl, en⟩ := at_int hx
      obtain ⟨sm, eA⟩ := p
      simp only [ap_seq, ap_next, ap_asg, ap_gName, ap_ret, ap_retN, ap_drop, ap_ifS, ap_break, ap_cont, ap_par, ap_aug, ap_ip, ap_gSub, ap_gTup, ap_gNil, ap_gCons, ap_var, ap_c, ap_op, ap_un, ap_if, ap_test, ap_B, ap_and, ap_or, ap_not, ap_andV, ap_orV, ap_notV, ap_nil, ap_cons, ap_tup, ap_lst, ap_cb, ap_bm, ap_call, ap_chain, ap_rI, ap_rI0, ap_rU, ap_rEq, ap_rNe, ap_revT, ap_sl, ap_part, ap_noPart, ap_ixLI, ap_ixTI, ap_ixLV, ap_ixTV, ap_len, ap_setLI, ap_setLV, ap_appI, ap_appV, ap_tupL, ap_listS, ap_sumLI, ap_sumTI, ap_repLI, ap_intI, ap_intB, ap_eqTI, ap_neTI, ap_eqLI, ap_neLI, ap_isi, ap_for, ap_rng1, ap_rng2, ap_iList, ap_iTup, ap_lc, ap_yes, ap_cut, ap_gTupH, ap_fmt, ap_jsn, ap_jsc, ap_gcd, ap_isqrt, ap_ixL, tyV_l, wipe_nil, wipe_cons, upd_same, ap_iEnT, ap_iEnL, ap_iZipA, ap_all, ap_tupT, ap_attF, ap_makeL, ap_att, ap_prop, ap_isO, ap_bin, ap_ne, ap_meth, ap_make, ins_inj, FE_inj, ap_slI, ap_catI, ap_perm, ap_lenO, ap_strO, ap_listO, ap_reprB, ap_iterT, ap_neT, ap_negO, ap_binI, ap_catL, ap_tM1, ap_repTI, ap_popN, ap_par3, ap_catTT, ap_repTA, ap_countT, ap_notInT, ap_repL1, ap_cm, ap_shl, ap_shr, ap_mask, ap_comb, ap_bits, ap_rng3, List.set_cons_zero, List.set_cons_succ, List.getElem?_cons_zero, List.getElem?_cons_succ, List.cons_append, List.nil_append, List.append_nil, Option.some.injEq, V.int.injEq, V.ref.injEq, V.bl.injEq, V.str.injEq, V.ty.injEq, Bool.not_true, Bool.not_false, HO.lst.injEq, HO.tup.injEq, reduceCtorEq, Int.reduceToNat, Int.reduceLT, Int.reduceLE, Nat.reduceAdd, Int.cast_ofNat_Int, gi_c0, gi_c1, gi_c2, gi_c3, Int.natCast_inj, map_int_inj, map_nil_iff, List.cons.injEq, exists_eq_left, exists_eq_left', exists_eq, exists_eq', exists_and_left, exists_and_right, exists_const, and_assoc, and_true, true_and, and_false, false_and, or_false, false_or, or_true, true_or, ite_true, ite_false, if_true, if_false, Bool.false_eq_true, own_cons, own_nil, le1, le2, le3, le4, me_cons, me_nil, List.length_map, List.length_cons, List.length_nil, ne_eq, not_false_eq_true, not_true_eq_false, decide_eq_true_eq, eA]
      have e1 : ns.take (i + 1) = ns.take i ++ [n] := by rw [List.take_succ, en]; rfl
      have l1 : (ns.take i).length < 1000 := by rw [List.length_take]; omega
      refine ⟨rfl, iteC (fun c => ?_) (fun c => ?_)⟩
      · refine ⟨sz (Nat.lt_of_le_of_lt (List.length_filter_le _ _) (by omega)), same_mut sm hA, ?_⟩
        have e2 : [n].filter nz = [n] := by simp [nz, show n ≠ 0 by simpa using c]
        rw [e1, List.filter_append, e2, List.map_append]
        rfl
      · refine ⟨sm, ?_⟩
        have e2 : [n].filter nz = [] := by simp [nz, show n = 0 by simpa using c]
        rw [e1, List.filter_append, e2, List.append_nil]
    · obtain ⟨sm, eA⟩ := p
      rw [List.length_map, List.take_length] at eA
      have hl2 : 0 < (ns.filter nz).length := by
        obtain ⟨n, h1, h2⟩ := gcdL_some c
        exact List.length_pos_of_mem (List.mem_filter.mpr ⟨h1, by simpa [nz] using h2⟩)
      have hp1 := sm _ _ hp
      refine ⟨A, rfl, _, eA, by omega, ⟨_, sqT_of hp1⟩, lc_tupI (fun i => (ns.getD i 0).fdiv (if 0 < gi (ns.filter nz) 0 then gcdL ns else 0 - gcdL ns)) hp1 (by rw [List.length_map]; omega) (fun x => rfl) (fun i x H' hx sm2 Q' k' => ?_) (fun B H' hB sm2 e => ?_)⟩
      · obtain ⟨n, rfl, en⟩ := at_int hx
        simp only [ap_seq, ap_next, ap_asg, ap_gName, ap_ret, ap_retN, ap_drop, ap_ifS, ap_break, ap_cont, ap_par, ap_aug, ap_ip, ap_gSub, ap_gTup, ap_gNil, ap_gCons, ap_var, ap_c, ap_op, ap_un, ap_if, ap_test, ap_B, ap_and, ap_or, ap_not, ap_andV, ap_orV, ap_notV, ap_nil, ap_cons, ap_tup, ap_lst, ap_cb, ap_bm, ap_call, ap_chain, ap_rI, ap_rI0, ap_rU, ap_rEq, ap_rNe, ap_revT, ap_sl, ap_part, ap_noPart, ap_ixLI, ap_ixTI, ap_ixLV, ap_ixTV, ap_len, ap_setLI, ap_setLV, ap_appI, ap_appV, ap_tupL, ap_listS, ap_sumLI, ap_sumTI, ap_repLI, ap_intI, ap_intB, ap_eqTI, ap_neTI, ap_eqLI, ap_neLI, ap_isi, ap_for, ap_rng1, ap_rng2, ap_iList, ap_iTup, ap_lc, ap_yes, ap_cut, ap_gTupH, ap_fmt, ap_jsn, ap_jsc, ap_gcd, ap_isqrt, ap_ixL, tyV_l, wipe_nil, wipe_cons, upd_same, ap_iEnT, ap_iEnL, ap_iZipA, ap_all, ap_tupT, ap_attF, ap_makeL, ap_att, ap_prop, ap_isO, ap_bin, ap_ne, ap_meth, ap_make, ins_inj, FE_inj, ap_slI, ap_catI, ap_perm, ap_lenO, ap_strO, ap_listO, ap_reprB, ap_iterT, ap_neT, ap_negO, ap_binI, ap_catL, ap_tM1, ap_repTI, ap_popN, ap_par3, ap_catTT, ap_repTA, ap_countT, ap_notInT, ap_repL1, ap_cm, ap_shl, ap_shr, ap_mask, ap_comb, ap_bits, ap_rng3, List.set_cons_zero, List.set_cons_succ, List.getElem?_cons_zero, List.getElem?_cons_succ, List.cons_append, List.nil_append, List.append_nil, Option.some.injEq, V.int.injEq, V.ref.injEq, V.bl.injEq, V.str.injEq, V.ty.injEq, Bool.not_true, Bool.not_false, HO.lst.injEq, HO.tup.injEq, reduceCtorEq, Int.reduceToNat, Int.reduceLT, Int.reduceLE, Nat.reduceAdd, Int.cast_ofNat_Int, gi_c0, gi_c1, gi_c2, gi_c3, Int.natCast_inj, map_int_inj, map_nil_iff, List.cons.injEq, exists_eq_left, exists_eq_left', exists_eq, exists_eq', exists_and_left, exists_and_right, exists_const, and_assoc, and_true, true_and, and_false, false_and, or_false, false_or, or_true, true_or, ite_true, ite_false, if_true, if_false, Bool.false_eq_true, own_cons, own_nil, le1, le2, le3, le4, me_cons, me_nil, List.length_map, List.length_cons, List.length_nil, ne_eq, not_false_eq_true, not_true_eq_false, decide_eq_true_eq, CFd]
        rw [List.getD_eq_getElem?_getD, en] at k'
        have k2 := k' _ (Same.refl _)
        refine iteC (fun c2 => ?_) (fun c2 => ?_)
        · rw [if_pos (by simpa using c2)] at k2
          exact ⟨by omega, by omega, by omega, k2⟩
        · rw [if_neg (by simpa using c2)] at k2
          exact ⟨by omega, by omega, by omega, k2⟩
      · refine ⟨B, rfl, _, e, fun l nl => k _ l ((sm.trans sm2).trans (same_upd nl)) (.inr (free_of (sm.trans sm2) nl)) ?_⟩
        rw [upd_same, List.length_map]
        unfold plainP
        rw [if_neg c]
        have e2 : (List.range ns.length).map (fun i => (ns.getD i 0).fdiv (if 0 < gi (ns.filter nz) 0 then gcdL ns else 0 - gcdL ns)) = ns.map (fun n => n.fdiv (if 0 < gi (ns.filter nz) 0 then gcdL ns else 0 - gcdL ns)) := by
          refine (List.ext_getElem? fun i => ?_)
          rw [List.getElem?_map, List.getElem?_map]
          by_cases h : i < ns.length
          · rw [List.getElem?_range h, List.getElem?_eq_getElem h]
            simp [h]
          · rw [List.getElem?_eq_none (by simpa using h), List.getElem?_eq_none (by omega)]
            rfl
        rw [e2]
end
end My
namespace My
open PySem PySem.Spec PyProof.Rows L2 Pr
/-! ### points -/
structure Pt (m a b : Int) : Prop where
  gcd : Int.gcd a b = 1
  fst : 0 < a ∨ a = 0 ∧ 0 < b
  a0 : -m ≤ a
  a1 : a ≤ m
  b0 : -m ≤ b
  b1 : b ≤ m
theorem gcdL_two (x y : Int) : gcdL [x, y] = (Int.gcd x y : Nat) := by
  show ((Int.gcd ((Int.gcd 0 x : Nat) : Int) y : Nat) : Int) = _
  rw [Int.gcd_zero_left]
  rfl
theorem fdiv_ex {a g : Int} (h : g ≠ 0) (d : g ∣ a) : a.fdiv g * g = a := by
  obtain ⟨c, rfl⟩ := d
  rw [Int.mul_comm g c, Int.mul_fdiv_cancel _ h]
theorem sign_div {a s v : Int} (e : a * s = v) (h : 0 < v ∧ 0 < s ∨ v < 0 ∧ s < 0) : 0 < a := by
  refine Int.not_le.mp fun c => ?_
  rcases h with ⟨h1, h2⟩ | ⟨h1, h2⟩
  · have := Int.mul_le_mul_of_nonneg_right c (Int.le_of_lt h2)
    omega
  · have := Int.mul_nonneg (a := -a) (b := -s) (by omega) (by omega)
    rw [Int.neg_mul_neg] at this
    omega
theorem plain_two {x y : Int} (h : ¬(x = 0 ∧ y = 0)) : ∃ a b g : Int, plainP [x, y] = [a, b] ∧ g ≠ 0 ∧ x = a * g ∧ y = b * g ∧ Int.gcd a b = 1 ∧ (0 < a ∨ a = 0 ∧ 0 < b) := by
  have g0 : (Int.gcd x y : Int) ≠ 0 := by
    intro c
    have c2 : Int.gcd x y = 0 := by exact_mod_cast c
    exact h (Int.gcd_eq_zero_iff.mp c2)
  have gp : (0 : Int) < (Int.gcd x y : Int) := by omega
  have d1 : (Int.gcd x y : Int) ∣ x := Int.gcd_dvd_left _ _
  have d2 : (Int.gcd x y : Int) ∣ y := Int.gcd_dvd_right _ _
  have key : ∀ s : Int, s = (Int.gcd x y : Int) ∨ s = 0 - (Int.gcd x y : Int) → x.fdiv s * s = x ∧ y.fdiv s * s = y ∧ Int.gcd (x.fdiv s) (y.fdiv s) = 1 := by
    intro s hs
    have s0 : s ≠ 0 := by omega
    have sd1 : s ∣ x := by
      rcases hs with rfl | rfl
      · exact d1
      · rw [Int.zero_sub]
        exact Int.neg_dvd.mpr d1
    have sd2 : s ∣ y := by
      rcases hs with rfl | rfl
      · exact d2
      · rw [Int.zero_sub]
        exact Int.neg_dvd.mpr d2
    have e1 := fdiv_ex s0 sd1
    have e2 := fdiv_ex s0 sd2
    refine ⟨e1, e2, ?_⟩
    have e3 : Int.gcd (x.fdiv s * s) (y.fdiv s * s) = Int.gcd (x.fdiv s) (y.fdiv s) * s.natAbs := Int.gcd_mul_right _ _ _
    rw [e1, e2] at e3
    have e4 : s.natAbs = Int.gcd x y := by omega
    rw [e4] at e3
    have g1 : 0 < Int.gcd x y := by omega
    exact Nat.eq_of_mul_eq_mul_right g1 (by omega)
  have pe : plainP [x, y] = [x, y].map fun n => n.fdiv (if 0 < gi ([x, y].filter nz) 0 then (Int.gcd x y : Int) else 0 - (Int.gcd x y : Int)) := by
    unfold plainP
    rw [gcdL_two, if_neg g0]
  have fst : gi ([x, y].filter nz) 0 = if x = 0 then y else x := by
    by_cases hx : x = 0
    · have hy : y ≠ 0 := fun c => h ⟨hx, c⟩
      rw [if_pos hx]
      have : [x, y].filter nz = [y] := by simp [nz, hx, hy]
      rw [this]
      rfl
    · rw [if_neg hx]
      have : [x, y].filter nz = x :: [y].filter nz := by simp [nz, hx]
      rw [this]
      rfl
  rw [fst] at pe
  obtain ⟨v, hv⟩ : ∃ v, v = if x = 0 then y else x := ⟨_, rfl⟩
  have v0 : v ≠ 0 := by
    rw [hv]
    split
    · exact fun c => h ⟨by assumption, c⟩
    · assumption
  rw [← hv] at pe
  obtain ⟨s, hs, hs2, hs3⟩ : ∃ s, s = (if 0 < v then (Int.gcd x y : Int) else 0 - (Int.gcd x y : Int)) ∧ (s = (Int.gcd x y : Int) ∨ s = 0 - (Int.gcd x y : Int)) ∧ (0 < v ∧ 0 < s ∨ v < 0 ∧ s < 0) := by
    by_cases vp : 0 < v
    · exact ⟨_, rfl, .inl (if_pos vp), .inl ⟨vp, by rw [if_pos vp]; exact gp⟩⟩
    · exact ⟨_, rfl, .inr (if_neg vp), .inr ⟨by omega, by rw [if_neg vp]; omega⟩⟩
  rw [← hs] at pe
  obtain ⟨e1, e2, e3⟩ := key s hs2
  refine ⟨_, _, s, pe, by omega, e1.symm, e2.symm, e3, ?_⟩
  by_cases hx : x = 0
  · rw [if_pos hx] at hv
    right
    exact ⟨by rw [hx]; exact Int.zero_fdiv _, sign_div (e2.trans hv.symm) hs3⟩
  · rw [if_neg hx] at hv
    left
    exact sign_div (e1.trans hv.symm) hs3
theorem div_bd {a x g m : Int} (e : x = a * g) (g0 : g ≠ 0) (h : -m ≤ x ∧ x ≤ m) : -m ≤ a ∧ a ≤ m := by
  have h1 : x.natAbs = a.natAbs * g.natAbs := by rw [e, Int.natAbs_mul]
  have h2 : a.natAbs ≤ x.natAbs := by
    rw [h1]
    exact Nat.le_mul_of_pos_right _ (by omega)
  omega
section
variable {P : Program} {w : World} {K : PySem.W.Frag} {mg : Str → Option Value} {base : Heap}
def sp_law_point : Sp := fun vs H Q _ => ∃ (d : Addr) (m : Int), vs = [.ref d, .int m] ∧ Dc H d ∧ 1 ≤ m ∧ m < 10 ^ 50 ∧
  ∀ H' r a b, Exc d H H' → Dc H' d → H r = none → H' r = some (TI [a, b]) → Pt m a b → Q (.ref r) H'
theorem ok_law_point (T : Tx K mg) : FnOk P w K mg base CX0 4 T.f_law_point T.d_law_point p_law_point sp_law_point := by
  refine T.F_law_point.ok sc_law_point (fun vs H Q E h => ?_) (fun cdv A outer s H vs Q E hr h => ?_)
  · obtain ⟨d, m, rfl, _⟩ := h
    rfl
  · obtain ⟨d, m, rfl, hD, h0, h1, k⟩ := h
    refine ⟨_, (pss_cons (ps_par (i := 2) (j := 3) (by rfl) sc_law_point.nd rfl rfl (by decide) rfl rfl (pa_cons (pe_call (ok_law_near T) (hr.mono (by decide)) (by rfl) T.m_law_near T.F_law_near.kp T.b_law_near .nil pass0 (pa_cons (pv 0) (pa_cons (pv 1) pa_nil))) (pa_cons (pe_call (ok_law_near T) (hr.mono (by decide)) (by rfl) T.m_law_near T.F_law_near.kp T.b_law_near .nil pass0 (pa_cons (pv 0) (pa_cons (pv 1) pa_nil))) pa_nil)) (by rfl))
      (pss_one (ps_ret (pe_ifExp (pt_cmpR (op_neTI hr.units) (pe_tup (pa_cons (pv 2) (pa_cons (pv 3) pa_nil))) (pe_tup (pa_cons pe_int (pa_cons pe_int pa_nil))) (nomark _)) (pe_call (ok_law_plain T) (hr.mono (by decide)) (by rfl) T.m_law_plain T.F_law_plain.kp T.b_law_plain .nil pass0 (pa_cons (pe_tup (pa_cons (pv 2) (pa_cons (pv 3) pa_nil))) pa_nil)) (pe_tup (pa_cons pe_int (pa_cons pe_int pa_nil))))))), ?_⟩
    rw [st_law_point]
    simp only [ap_seq, ap_next, ap_asg, ap_gName, ap_ret, ap_retN, ap_drop, ap_ifS, ap_break, ap_cont, ap_par, ap_aug, ap_ip, ap_gSub, ap_gTup, ap_gNil, ap_gCons, ap_var, ap_c, ap_op, ap_un, ap_if, ap_test, ap_B, ap_and, ap_or, ap_not, ap_andV, ap_orV, ap_notV, ap_nil, ap_cons, ap_tup, ap_lst, ap_cb, ap_bm, ap_call, ap_chain, ap_rI, ap_rI0, ap_rU, ap_rEq, ap_rNe, ap_revT, ap_sl, ap_part, ap_noPart, ap_ixLI, ap_ixTI, ap_ixLV, ap_ixTV, ap_len, ap_setLI, ap_setLV, ap_appI, ap_appV, ap_tupL, ap_listS, ap_sumLI, ap_sumTI, ap_repLI, ap_intI, ap_intB, ap_eqTI, ap_neTI, ap_eqLI, ap_neLI, ap_isi, ap_for, ap_rng1, ap_rng2, ap_iList, ap_iTup, ap_lc, ap_yes, ap_cut, ap_gTupH, ap_fmt, ap_jsn, ap_jsc, ap_gcd, ap_isqrt, ap_ixL, tyV_l, wipe_nil, wipe_cons, upd_same, ap_iEnT, ap_iEnL, ap_iZipA, ap_all, ap_tupT, ap_attF, ap_makeL, ap_att, ap_prop, ap_isO, ap_bin, ap_ne, ap_meth, ap_make, ins_inj, FE_inj, ap_slI, ap_catI, ap_perm, ap_lenO, ap_strO, ap_listO, ap_reprB, ap_iterT, ap_neT, ap_negO, ap_binI, ap_catL, ap_tM1, ap_repTI, ap_popN, ap_par3, ap_catTT, ap_repTA, ap_countT, ap_notInT, ap_repL1, ap_cm, ap_shl, ap_shr, ap_mask, ap_comb, ap_bits, ap_rng3, List.set_cons_zero, List.set_cons_succ, List.getElem?_cons_zero, List.getElem?_cons_succ, List.cons_append, List.nil_append, List.append_nil, Option.some.injEq, V.int.injEq, V.ref.injEq, V.bl.injEq, V.str.injEq, V.ty.injEq, Bool.not_true, Bool.not_false, HO.lst.injEq, HO.tup.injEq, reduceCtorEq, Int.reduceToNat, Int.reduceLT, Int.reduceLE, Nat.reduceAdd, Int.cast_ofNat_Int, gi_c0, gi_c1, gi_c2, gi_c3, Int.natCast_inj, map_int_inj, map_nil_iff, List.cons.injEq, exists_eq_left, exists_eq_left', exists_eq, exists_eq', exists_and_left, exists_and_right, exists_const, and_assoc, and_true, true_and, and_false, false_and, or_false, false_or, or_true, true_or, ite_true, ite_false, if_true, if_false, Bool.false_eq_true, own_cons, own_nil, le1, le2, le3, le4, me_cons, me_nil, List.length_map, List.length_cons, List.length_nil, ne_eq, not_false_eq_true, not_true_eq_false, decide_eq_true_eq]
    refine ⟨d, m, rfl, hD, by omega, h1, fun H1 x ex1 D1 x1 x2 => ?_⟩
    simp only [ap_seq, ap_next, ap_asg, ap_gName, ap_ret, ap_retN, ap_drop, ap_ifS, ap_break, ap_cont, ap_par, ap_aug, ap_ip, ap_gSub, ap_gTup, ap_gNil, ap_gCons, ap_var, ap_c, ap_op, ap_un, ap_if, ap_test, ap_B, ap_and, ap_or, ap_not, ap_andV, ap_orV, ap_notV, ap_nil, ap_cons, ap_tup, ap_lst, ap_cb, ap_bm, ap_call, ap_chain, ap_rI, ap_rI0, ap_rU, ap_rEq, ap_rNe, ap_revT, ap_sl, ap_part, ap_noPart, ap_ixLI, ap_ixTI, ap_ixLV, ap_ixTV, ap_len, ap_setLI, ap_setLV, ap_appI, ap_appV, ap_tupL, ap_listS, ap_sumLI, ap_sumTI, ap_repLI, ap_intI, ap_intB, ap_eqTI, ap_neTI, ap_eqLI, ap_neLI, ap_isi, ap_for, ap_rng1, ap_rng2, ap_iList, ap_iTup, ap_lc, ap_yes, ap_cut, ap_gTupH, ap_fmt, ap_jsn, ap_jsc, ap_gcd, ap_isqrt, ap_ixL, tyV_l, wipe_nil, wipe_cons, upd_same, ap_iEnT, ap_iEnL, ap_iZipA, ap_all, ap_tupT, ap_attF, ap_makeL, ap_att, ap_prop, ap_isO, ap_bin, ap_ne, ap_meth, ap_make, ins_inj, FE_inj, ap_slI, ap_catI, ap_perm, ap_lenO, ap_strO, ap_listO, ap_reprB, ap_iterT, ap_neT, ap_negO, ap_binI, ap_catL, ap_tM1, ap_repTI, ap_popN, ap_par3, ap_catTT, ap_repTA, ap_countT, ap_notInT, ap_repL1, ap_cm, ap_shl, ap_shr, ap_mask, ap_comb, ap_bits, ap_rng3, List.set_cons_zero, List.set_cons_succ, List.getElem?_cons_zero, List.getElem?_cons_succ, List.cons_append, List.nil_append, List.append_nil, Option.some.injEq, V.int.injEq, V.ref.injEq, V.bl.injEq, V.str.injEq, V.ty.injEq, Bool.not_true, Bool.not_false, HO.lst.injEq, HO.tup.injEq, reduceCtorEq, Int.reduceToNat, Int.reduceLT, Int.reduceLE, Nat.reduceAdd, Int.cast_ofNat_Int, gi_c0, gi_c1, gi_c2, gi_c3, Int.natCast_inj, map_int_inj, map_nil_iff, List.cons.injEq, exists_eq_left, exists_eq_left', exists_eq, exists_eq', exists_and_left, exists_and_right, exists_const, and_assoc, and_true, true_and, and_false, false_and, or_false, false_or, or_true, true_or, ite_true, ite_false, if_true, if_false, Bool.false_eq_true, own_cons, own_nil, le1, le2, le3, le4, me_cons, me_nil, List.length_map, List.length_cons, List.length_nil, ne_eq, not_false_eq_true, not_true_eq_false, decide_eq_true_eq]
    refine ⟨d, m, rfl, D1, by omega, h1, fun H2 y ex2 D2 y1 y2 => ?_⟩
    simp only [ap_seq, ap_next, ap_asg, ap_gName, ap_ret, ap_retN, ap_drop, ap_ifS, ap_break, ap_cont, ap_par, ap_aug, ap_ip, ap_gSub, ap_gTup, ap_gNil, ap_gCons, ap_var, ap_c, ap_op, ap_un, ap_if, ap_test, ap_B, ap_and, ap_or, ap_not, ap_andV, ap_orV, ap_notV, ap_nil, ap_cons, ap_tup, ap_lst, ap_cb, ap_bm, ap_call, ap_chain, ap_rI, ap_rI0, ap_rU, ap_rEq, ap_rNe, ap_revT, ap_sl, ap_part, ap_noPart, ap_ixLI, ap_ixTI, ap_ixLV, ap_ixTV, ap_len, ap_setLI, ap_setLV, ap_appI, ap_appV, ap_tupL, ap_listS, ap_sumLI, ap_sumTI, ap_repLI, ap_intI, ap_intB, ap_eqTI, ap_neTI, ap_eqLI, ap_neLI, ap_isi, ap_for, ap_rng1, ap_rng2, ap_iList, ap_iTup, ap_lc, ap_yes, ap_cut, ap_gTupH, ap_fmt, ap_jsn, ap_jsc, ap_gcd, ap_isqrt, ap_ixL, tyV_l, wipe_nil, wipe_cons, upd_same, ap_iEnT, ap_iEnL, ap_iZipA, ap_all, ap_tupT, ap_attF, ap_makeL, ap_att, ap_prop, ap_isO, ap_bin, ap_ne, ap_meth, ap_make, ins_inj, FE_inj, ap_slI, ap_catI, ap_perm, ap_lenO, ap_strO, ap_listO, ap_reprB, ap_iterT, ap_neT, ap_negO, ap_binI, ap_catL, ap_tM1, ap_repTI, ap_popN, ap_par3, ap_catTT, ap_repTA, ap_countT, ap_notInT, ap_repL1, ap_cm, ap_shl, ap_shr, ap_mask, ap_comb, ap_bits, ap_rng3, List.set_cons_zero, List.set_cons_succ, List.getElem?_cons_zero, List.getElem?_cons_succ, List.cons_append, List.nil_append, List.append_nil, Option.some.injEq, V.int.injEq, V.ref.injEq, V.bl.injEq, V.str.injEq, V.ty.injEq, Bool.not_true, Bool.not_false, HO.lst.injEq, HO.tup.injEq, reduceCtorEq, Int.reduceToNat, Int.reduceLT, Int.reduceLE, Nat.reduceAdd, Int.cast_ofNat_Int, gi_c0, gi_c1, gi_c2, gi_c3, Int.natCast_inj, map_int_inj, map_nil_iff, List.cons.injEq, exists_eq_left, exists_eq_left', exists_eq, exists_eq', exists_and_left, exists_and_right, exists_const, and_assoc, and_true, true_and, and_false, false_and, or_false, false_or, or_true, true_or, ite_true, ite_false, if_true, if_false, Bool.false_eq_true, own_cons, own_nil, le1, le2, le3, le4, me_cons, me_nil, List.length_map, List.length_cons, List.length_nil, ne_eq, not_false_eq_true, not_true_eq_false, decide_eq_true_eq]
    have z2 : 2 ≤ sizeLine := by decide
    have X2 := ex1.trans ex2
    refine ⟨z2, fun p np => ⟨z2, fun q nq => ?_⟩⟩
    have s1 := same_upd (o := HO.tup [V.int x, V.int y]) np
    have s2 := same_upd (o := HO.tup [V.int 0, V.int 0]) nq
    refine ⟨[x, y], s2 _ _ upd_same, iteC (fun c => ⟨z2, fun t nt => ?_⟩) (fun c => ⟨z2, fun t nt => ?_⟩)⟩
    · have hxy : ¬(x = 0 ∧ y = 0) := by
        rintro ⟨rfl, rfl⟩
        simp at c
      have s3 := same_upd (o := HO.tup [V.int x, V.int y]) nt
      have S := (s1.trans s2).trans s3
      refine ⟨t, [x, y], rfl, upd_same, by show 2 < 1000; decide, ?_, fun H' r sm hr e => ?_⟩
      · intro n hn
        unfold Wd
        rcases List.mem_cons.mp hn with rfl | hn
        · omega
        · rw [show n = y by simpa using hn]
          omega
      · obtain ⟨a, b, g, pe, g0, e1, e2, e3, e4⟩ := plain_two hxy
        rw [pe] at e
        have a1 := div_bd e1 g0 ⟨x1, x2⟩
        have b1 := div_bd e2 g0 ⟨y1, y2⟩
        have nr : H2 r = none := by
          rcases hr with rfl | hr
          · exact free_of (s1.trans s2) nt
          · exact free_of S hr
        exact k H' r a b (X2.trans (.same (S.trans sm))) (D2.same (S.trans sm)) (free_ex X2 D2 nr) e ⟨e3, e4, a1.1, a1.2, b1.1, b1.2⟩
    · have s3 := same_upd (o := HO.tup [V.int 1, V.int 0]) nt
      have S := (s1.trans s2).trans s3
      exact k _ t 1 0 (X2.trans (.same S)) (D2.same S) (free_ex X2 D2 (free_of (s1.trans s2) nt)) upd_same ⟨by decide, .inl (by omega), by omega, by omega, by omega, by omega⟩
/-! ### products of many -/
def allP (nss : List (List Int)) : List Int := nss.foldl mulP [1]
def sp_law_all_product : Sp := fun vs H Q _ => ∃ (p : Addr) (rs : List Addr) (nss : List (List Int)), vs = [.ref p] ∧ H p = some (.lst (rs.map V.ref)) ∧ rs.length = nss.length ∧
  (∀ (i : Nat) (r : Addr) (ns : List Int), rs[i]? = some r → nss[i]? = some ns → H r = some (TI ns) ∧ 0 < ns.length ∧ ns.length < 1000 ∧ (∀ n ∈ ns, Wd n) ∧ 0 < (allP (nss.take i)).length ∧ (allP (nss.take i)).length < 1000 ∧ ∀ n ∈ allP (nss.take i), Wd n) ∧
  ∀ H' r, Same H H' → H r = none → H' r = some (TI (allP nss)) → Q (.ref r) H'
theorem ok_law_all_product (T : Tx K mg) : FnOk P w K mg base CX0 2 T.f_law_all_product T.d_law_all_product p_law_all_product sp_law_all_product := by
  refine T.F_law_all_product.ok sc_law_all_product (fun vs H Q E h => ?_) (fun cdv A outer s H vs Q E hr h => ?_)
  · obtain ⟨p, rs, nss, rfl, _⟩ := h
    rfl
  · obtain ⟨p, rs, nss, rfl, hp, hl, hn, k⟩ := h
    refine ⟨_, (pss_cons (ps_set (i := 1) sc_law_all_product.nd rfl (Or.inl rfl) (pe_tup (pa_cons pe_int pa_nil)))
      (pss_cons (ps_for PassesOwn.never rfl (pi_list (pv 0)) (pg_name (i := 2) sc_law_all_product.nd rfl (by first | exact .inl rfl | exact .inr rfl))
      (pss_one (ps_set (i := 1) sc_law_all_product.nd rfl (Or.inl rfl) (pe_call (ok_law_product T) (hr.mono (by decide)) (by rfl) T.m_law_product T.F_law_product.kp T.b_law_product .nil pass0 (pa_cons (pv 1) (pa_cons (pv 2) pa_nil))))))
      (pss_one (ps_ret (pv 1))))), ?_⟩
    rw [st_law_all_product]
    simp only [ap_seq, ap_next, ap_asg, ap_gName, ap_ret, ap_retN, ap_drop, ap_ifS, ap_break, ap_cont, ap_par, ap_aug, ap_ip, ap_gSub, ap_gTup, ap_gNil, ap_gCons, ap_var, ap_c, ap_op, ap_un, ap_if, ap_test, ap_B, ap_and, ap_or, ap_not, ap_andV, ap_orV, ap_notV, ap_nil, ap_cons, ap_tup, ap_lst, ap_cb, ap_bm, ap_call, ap_chain, ap_rI, ap_rI0, ap_rU, ap_rEq, ap_rNe, ap_revT, ap_sl, ap_part, ap_noPart, ap_ixLI, ap_ixTI, ap_ixLV, ap_ixTV, ap_len, ap_setLI, ap_setLV, ap_appI, ap_appV, ap_tupL, ap_listS, ap_sumLI, ap_sumTI, ap_repLI, ap_intI, ap_intB, ap_eqTI, ap_neTI, ap_eqLI, ap_neLI, ap_isi, ap_for, ap_rng1, ap_rng2, ap_iList, ap_iTup, ap_lc, ap_yes, ap_cut, ap_gTupH, ap_fmt, ap_jsn, ap_jsc, ap_gcd, ap_isqrt, ap_ixL, tyV_l, wipe_nil, wipe_cons, upd_same, ap_iEnT, ap_iEnL, ap_iZipA, ap_all, ap_tupT, ap_attF, ap_makeL, ap_att, ap_prop, ap_isO, ap_bin, ap_ne, ap_meth, ap_make, ins_inj, FE_inj, ap_slI, ap_catI, ap_perm, ap_lenO, ap_strO, ap_listO, ap_reprB, ap_iterT, ap_neT, ap_negO, ap_binI, ap_catL, ap_tM1, ap_repTI, ap_popN, ap_par3, ap_catTT, ap_repTA, ap_countT, ap_notInT, ap_repL1, ap_cm, ap_shl, ap_shr, ap_mask, ap_comb, ap_bits, ap_rng3, List.set_cons_zero, List.set_cons_succ, List.getElem?_cons_zero, List.getElem?_cons_succ, List.cons_append, List.nil_append, List.append_nil, Option.some.injEq, V.int.injEq, V.ref.injEq, V.bl.injEq, V.str.injEq, V.ty.injEq, Bool.not_true, Bool.not_false, HO.lst.injEq, HO.tup.injEq, reduceCtorEq, Int.reduceToNat, Int.reduceLT, Int.reduceLE, Nat.reduceAdd, Int.cast_ofNat_Int, gi_c0, gi_c1, gi_c2, gi_c3, Int.natCast_inj, map_int_inj, map_nil_iff, List.cons.injEq, exists_eq_left, exists_eq_left', exists_eq, exists_eq', exists_and_left, exists_and_right, exists_const, and_assoc, and_true, true_and, and_false, false_and, or_false, false_or, or_true, true_or, ite_true, ite_false, if_true, if_false, Bool.false_eq_true, own_cons, own_nil, le1, le2, le3, le4, me_cons, me_nil, List.length_map, List.length_cons, List.length_nil, ne_eq, not_false_eq_true, not_true_eq_false, decide_eq_true_eq]
    refine ⟨by decide, fun l nl => ?_⟩
    have s0 := same_upd (o := HO.tup [V.int 1]) nl
    refine ⟨⟨_, sqL_of (s0 _ _ hp)⟩, loop_gen gives_list (fun i σ' H' => (∃ r y, σ' = [some (V.ref p), some (V.ref r), y] ∧ H r = none ∧ H' r = some (TI (allP (nss.take i)))) ∧ Same H H') ⟨⟨l, _, rfl, nl, upd_same⟩, s0⟩ (fun i σ' H' hi hP => hP.2 _ _ hp) (fun i v σ' H1 H2 hi hP hy => ?_) (fun σ' H1 hP => ?_)⟩
    · obtain ⟨⟨r, y, e, nr, er⟩, sm⟩ := hP
      obtain ⟨rfl, hx⟩ := hy
      subst e
      rw [List.getElem?_map, Option.map_eq_some_iff] at hx
      obtain ⟨u, eu, rfl⟩ := hx
      have li : i < rs.length := (List.getElem?_eq_some_iff.mp eu).1
      obtain ⟨ms, em⟩ : ∃ ms, nss[i]? = some ms := ⟨_, List.getElem?_eq_getElem (by omega)⟩
      obtain ⟨c1, c2, c3, c4, c5, c6, c7⟩ := hn i u ms eu em
      simp only [ap_seq, ap_next, ap_asg, ap_gName, ap_ret, ap_retN, ap_drop, ap_ifS, ap_break, ap_cont, ap_par, ap_aug, ap_ip, ap_gSub, ap_gTup, ap_gNil, ap_gCons, ap_var, ap_c, ap_op, ap_un, ap_if, ap_test, ap_B, ap_and, ap_or, ap_not, ap_andV, ap_orV, ap_notV, ap_nil, ap_cons, ap_tup, ap_lst, ap_cb, ap_bm, ap_call, ap_chain, ap_rI, ap_rI0, ap_rU, ap_rEq, ap_rNe, ap_revT, ap_sl, ap_part, ap_noPart, ap_ixLI, ap_ixTI, ap_ixLV, ap_ixTV, ap_len, ap_setLI, ap_setLV, ap_appI, ap_appV, ap_tupL, ap_listS, ap_sumLI, ap_sumTI, ap_repLI, ap_intI, ap_intB, ap_eqTI, ap_neTI, ap_eqLI, ap_neLI, ap_isi, ap_for, ap_rng1, ap_rng2, ap_iList, ap_iTup, ap_lc, ap_yes, ap_cut, ap_gTupH, ap_fmt, ap_jsn, ap_jsc, ap_gcd, ap_isqrt, ap_ixL, tyV_l, wipe_nil, wipe_cons, upd_same, ap_iEnT, ap_iEnL, ap_iZipA, ap_all, ap_tupT, ap_attF, ap_makeL, ap_att, ap_prop, ap_isO, ap_bin, ap_ne, ap_meth, ap_make, ins_inj, FE_inj, ap_slI, ap_catI, ap_perm, ap_lenO, ap_strO, ap_listO, ap_reprB, ap_iterT, ap_neT, ap_negO, ap_binI, ap_catL, ap_tM1, ap_repTI, ap_popN, ap_par3, ap_catTT, ap_repTA, ap_countT, ap_notInT, ap_repL1, ap_cm, ap_shl, ap_shr, ap_mask, ap_comb, ap_bits, ap_rng3, List.set_cons_zero, List.set_cons_succ, List.getElem?_cons_zero, List.getElem?_cons_succ, List.cons_append, List.nil_append, List.append_nil, Option.some.injEq, V.int.injEq, V.ref.injEq, V.bl.injEq, V.str.injEq, V.ty.injEq, Bool.not_true, Bool.not_false, HO.lst.injEq, HO.tup.injEq, reduceCtorEq, Int.reduceToNat, Int.reduceLT, Int.reduceLE, Nat.reduceAdd, Int.cast_ofNat_Int, gi_c0, gi_c1, gi_c2, gi_c3, Int.natCast_inj, map_int_inj, map_nil_iff, List.cons.injEq, exists_eq_left, exists_eq_left', exists_eq, exists_eq', exists_and_left, exists_and_right, exists_const, and_assoc, and_true, true_and, and_false, false_and, or_false, false_or, or_true, true_or, ite_true, ite_false, if_true, if_false, Bool.false_eq_true, own_cons, own_nil, le1, le2, le3, le4, me_cons, me_nil, List.length_map, List.length_cons, List.length_nil, ne_eq, not_false_eq_true, not_true_eq_false, decide_eq_true_eq]
      refine ⟨r, u, allP (nss.take i), ms, rfl, er, sm _ _ c1, c5, c2, c6, c3, c7, c4, fun H3 r3 s3 n3 e3 => ?_⟩
      have ea : allP (nss.take (i + 1)) = mulP (allP (nss.take i)) ms := by
        unfold allP
        rw [List.take_succ, em, List.foldl_append]
        rfl
      simp only [ap_seq, ap_next, ap_asg, ap_gName, ap_ret, ap_retN, ap_drop, ap_ifS, ap_break, ap_cont, ap_par, ap_aug, ap_ip, ap_gSub, ap_gTup, ap_gNil, ap_gCons, ap_var, ap_c, ap_op, ap_un, ap_if, ap_test, ap_B, ap_and, ap_or, ap_not, ap_andV, ap_orV, ap_notV, ap_nil, ap_cons, ap_tup, ap_lst, ap_cb, ap_bm, ap_call, ap_chain, ap_rI, ap_rI0, ap_rU, ap_rEq, ap_rNe, ap_revT, ap_sl, ap_part, ap_noPart, ap_ixLI, ap_ixTI, ap_ixLV, ap_ixTV, ap_len, ap_setLI, ap_setLV, ap_appI, ap_appV, ap_tupL, ap_listS, ap_sumLI, ap_sumTI, ap_repLI, ap_intI, ap_intB, ap_eqTI, ap_neTI, ap_eqLI, ap_neLI, ap_isi, ap_for, ap_rng1, ap_rng2, ap_iList, ap_iTup, ap_lc, ap_yes, ap_cut, ap_gTupH, ap_fmt, ap_jsn, ap_jsc, ap_gcd, ap_isqrt, ap_ixL, tyV_l, wipe_nil, wipe_cons, upd_same, ap_iEnT, ap_iEnL, ap_iZipA, ap_all, ap_tupT, ap_attF, ap_makeL, ap_att, ap_prop, ap_isO, ap_bin, ap_ne, ap_meth, ap_make, ins_inj, FE_inj, ap_slI, ap_catI, ap_perm, ap_lenO, ap_strO, ap_listO, ap_reprB, ap_iterT, ap_neT, ap_negO, ap_binI, ap_catL, ap_tM1, ap_repTI, ap_popN, ap_par3, ap_catTT, ap_repTA, ap_countT, ap_notInT, ap_repL1, ap_cm, ap_shl, ap_shr, ap_mask, ap_comb, ap_bits, ap_rng3, List.set_cons_zero, List.set_cons_succ, List.getElem?_cons_zero, List.getElem?_cons_succ, List.cons_append, List.nil_append, List.append_nil, Option.some.injEq, V.int.injEq, V.ref.injEq, V.bl.injEq, V.str.injEq, V.ty.injEq, Bool.not_true, Bool.not_false, HO.lst.injEq, HO.tup.injEq, reduceCtorEq, Int.reduceToNat, Int.reduceLT, Int.reduceLE, Nat.reduceAdd, Int.cast_ofNat_Int, gi_c0, gi_c1, gi_c2, gi_c3, Int.natCast_inj, map_int_inj, map_nil_iff, List.cons.injEq, exists_eq_left, exists_eq_left', exists_eq, exists_eq', exists_and_left, exists_and_right, exists_const, and_assoc, and_true, true_and, and_false, false_and, or_false, false_or, or_true, true_or, ite_true, ite_false, if_true, if_false, Bool.false_eq_true, own_cons, own_nil, le1, le2, le3, le4, me_cons, me_nil, List.length_map, List.length_cons, List.length_nil, ne_eq, not_false_eq_true, not_true_eq_false, decide_eq_true_eq]
      rw [ea]
      exact ⟨free_of sm n3, e3, sm.trans s3⟩
    · obtain ⟨⟨r, y, e, nr, er⟩, sm⟩ := hP
      subst e
      rw [List.length_map, hl, List.take_length] at er
      simp only [ap_seq, ap_next, ap_asg, ap_gName, ap_ret, ap_retN, ap_drop, ap_ifS, ap_break, ap_cont, ap_par, ap_aug, ap_ip, ap_gSub, ap_gTup, ap_gNil, ap_gCons, ap_var, ap_c, ap_op, ap_un, ap_if, ap_test, ap_B, ap_and, ap_or, ap_not, ap_andV, ap_orV, ap_notV, ap_nil, ap_cons, ap_tup, ap_lst, ap_cb, ap_bm, ap_call, ap_chain, ap_rI, ap_rI0, ap_rU, ap_rEq, ap_rNe, ap_revT, ap_sl, ap_part, ap_noPart, ap_ixLI, ap_ixTI, ap_ixLV, ap_ixTV, ap_len, ap_setLI, ap_setLV, ap_appI, ap_appV, ap_tupL, ap_listS, ap_sumLI, ap_sumTI, ap_repLI, ap_intI, ap_intB, ap_eqTI, ap_neTI, ap_eqLI, ap_neLI, ap_isi, ap_for, ap_rng1, ap_rng2, ap_iList, ap_iTup, ap_lc, ap_yes, ap_cut, ap_gTupH, ap_fmt, ap_jsn, ap_jsc, ap_gcd, ap_isqrt, ap_ixL, tyV_l, wipe_nil, wipe_cons, upd_same, ap_iEnT, ap_iEnL, ap_iZipA, ap_all, ap_tupT, ap_attF, ap_makeL, ap_att, ap_prop, ap_isO, ap_bin, ap_ne, ap_meth, ap_make, ins_inj, FE_inj, ap_slI, ap_catI, ap_perm, ap_lenO, ap_strO, ap_listO, ap_reprB, ap_iterT, ap_neT, ap_negO, ap_binI, ap_catL, ap_tM1, ap_repTI, ap_popN, ap_par3, ap_catTT, ap_repTA, ap_countT, ap_notInT, ap_repL1, ap_cm, ap_shl, ap_shr, ap_mask, ap_comb, ap_bits, ap_rng3, List.set_cons_zero, List.set_cons_succ, List.getElem?_cons_zero, List.getElem?_cons_succ, List.cons_append, List.nil_append, List.append_nil, Option.some.injEq, V.int.injEq, V.ref.injEq, V.bl.injEq, V.str.injEq, V.ty.injEq, Bool.not_true, Bool.not_false, HO.lst.injEq, HO.tup.injEq, reduceCtorEq, Int.reduceToNat, Int.reduceLT, Int.reduceLE, Nat.reduceAdd, Int.cast_ofNat_Int, gi_c0, gi_c1, gi_c2, gi_c3, Int.natCast_inj, map_int_inj, map_nil_iff, List.cons.injEq, exists_eq_left, exists_eq_left', exists_eq, exists_eq', exists_and_left, exists_and_right, exists_const, and_assoc, and_true, true_and, and_false, false_and, or_false, false_or, or_true, true_or, ite_true, ite_false, if_true, if_false, Bool.false_eq_true, own_cons, own_nil, le1, le2, le3, le4, me_cons, me_nil, List.length_map, List.length_cons, List.length_nil, ne_eq, not_false_eq_true, not_true_eq_false, decide_eq_true_eq]
      exact k _ r sm nr er
end
end My
namespace My
open PySem PySem.Spec PyProof.Rows L2 Pr
/-! ### the sum of all entries' sizes -/
def l1 (ns : List Int) : Nat := (ns.map Int.natAbs).sum
theorem l1_app (a b : List Int) : l1 (a ++ b) = l1 a + l1 b := by
  unfold l1
  rw [List.map_append, List.sum_append]
theorem l1_mem {ns : List Int} {n : Int} (h : n ∈ ns) : n.natAbs ≤ l1 ns := by
  obtain ⟨a, b, rfl⟩ := List.append_of_mem h
  rw [l1_app]
  show n.natAbs ≤ l1 a + (n.natAbs + l1 b)
  omega
def sN (N : Nat) (f : Nat → Int) : Nat := l1 ((List.range N).map f)
theorem sN_succ (N : Nat) (f : Nat → Int) : sN (N + 1) f = sN N f + (f N).natAbs := by
  unfold sN
  rw [List.range_succ, List.map_append, l1_app]
  show _ + ((f N).natAbs + 0) = _
  omega
theorem sN_add (N : Nat) (f g : Nat → Int) : sN N (fun k => f k + g k) ≤ sN N f + sN N g := by
  induction N with
  | zero => exact Nat.zero_le _
  | succ N ih =>
    rw [sN_succ, sN_succ, sN_succ]
    have := Int.natAbs_add_le (f N) (g N)
    omega
theorem l1_take (ms : List Int) (M : Nat) : l1 (ms.take M) ≤ l1 ms := by
  have h := l1_app (ms.take M) (ms.drop M)
  rw [List.take_append_drop] at h
  omega
theorem take_one (ms : List Int) (M : Nat) : l1 (ms.take (M + 1)) = l1 (ms.take M) + (ms.getD M 0).natAbs := by
  rw [List.take_succ, l1_app, List.getD_eq_getElem?_getD]
  rcases ms[M]? with _ | n
  · rfl
  · show _ + (n.natAbs + 0) = _
    rfl
theorem sN_shift (ms : List Int) (a : Int) (i : Nat) : ∀ N, sN N (fun k => if i ≤ k then a * ms.getD (k - i) 0 else 0) = a.natAbs * l1 (ms.take (N - i))
  | 0 => by
    rw [Nat.zero_sub]
    rfl
  | N + 1 => by
    rw [sN_succ, sN_shift ms a i N]
    by_cases h : i ≤ N
    · rw [if_pos h, show N + 1 - i = N - i + 1 by omega, take_one, Int.natAbs_mul, Nat.mul_add]
    · rw [if_neg h, show N + 1 - i = 0 by omega, show N - i = 0 by omega]
      rfl
theorem sN_cv (ns ms : List Int) (N : Nat) : ∀ i, sN N (cv ns ms i) ≤ l1 (ns.take i) * l1 ms
  | 0 => by
    have : sN N (cv ns ms 0) = 0 := by
      induction N with
      | zero => rfl
      | succ N ih =>
        rw [sN_succ, ih]
        rfl
    omega
  | i + 1 => by
    have h1 := sN_add N (cv ns ms i) (fun k => if i ≤ k then ns.getD i 0 * ms.getD (k - i) 0 else 0)
    have h2 := sN_cv ns ms N i
    rw [sN_shift] at h1
    have h3 : (ns.getD i 0).natAbs * l1 (ms.take (N - i)) ≤ (ns.getD i 0).natAbs * l1 ms := Nat.mul_le_mul_left _ (l1_take ..)
    rw [take_one, Nat.add_mul]
    exact Nat.le_trans h1 (Nat.add_le_add h2 h3)
theorem l1_mulP (ns ms : List Int) : l1 (mulP ns ms) ≤ l1 ns * l1 ms := by
  have h := sN_cv ns ms (ns.length + ms.length - 1) ns.length
  rw [List.take_length] at h
  exact h
theorem l1_powP (ns : List Int) : ∀ k, l1 (powP ns k) ≤ l1 ns ^ k
  | 0 => Nat.le_refl 1
  | k + 1 => by
    have h1 := l1_mulP (powP ns k) ns
    have h2 := Nat.mul_le_mul_right (l1 ns) (l1_powP ns k)
    rw [Nat.pow_succ]
    exact Nat.le_trans h1 h2
theorem l1_fold (nss : List (List Int)) (L : Nat) (h : ∀ ns ∈ nss, l1 ns ≤ L) : ∀ a : List Int, l1 (nss.foldl mulP a) ≤ l1 a * L ^ nss.length := by
  induction nss with
  | nil => exact fun a => by simp
  | cons ns nss ih =>
    intro a
    have h1 := ih (fun m hm => h m (List.mem_cons_of_mem _ hm)) (mulP a ns)
    have h2 := Nat.le_trans (l1_mulP a ns) (Nat.mul_le_mul_left (l1 a) (h ns (List.mem_cons_self ..)))
    rw [List.foldl_cons, List.length_cons, Nat.pow_succ]
    refine Nat.le_trans h1 (Nat.le_trans (Nat.mul_le_mul_right _ h2) ?_)
    rw [Nat.mul_assoc, Nat.mul_comm L]
    exact Nat.le_refl _
theorem l1_allP {nss : List (List Int)} {L : Nat} (h : ∀ ns ∈ nss, l1 ns ≤ L) : l1 (allP nss) ≤ L ^ nss.length := by
  have h1 := l1_fold nss L h [1]
  have : l1 [1] = 1 := by decide
  rw [this, Nat.one_mul] at h1
  exact h1
theorem powP_lenE {ns : List Int} (h : 0 < ns.length) : ∀ k, (powP ns k).length = k * (ns.length - 1) + 1
  | 0 => by show 1 = _; omega
  | k + 1 => by
    show (mulP (powP ns k) ns).length = _
    rw [mulP_len, powP_lenE h k, Nat.succ_mul]
    omega
theorem fold_len {n : Nat} (nss : List (List Int)) (h : ∀ ns ∈ nss, ns.length = n + 1) : ∀ a : List Int, 0 < a.length → (nss.foldl mulP a).length = a.length + nss.length * n := by
  induction nss with
  | nil => exact fun a _ => by simp
  | cons ns nss ih =>
    intro a ha
    have h1 := h ns (List.mem_cons_self ..)
    have h2 : (mulP a ns).length = a.length + n := by
      rw [mulP_len]
      omega
    rw [List.foldl_cons, ih (fun m hm => h m (List.mem_cons_of_mem _ hm)) _ (by omega), h2, List.length_cons, Nat.succ_mul]
    omega
theorem allP_len {nss : List (List Int)} {n : Nat} (h : ∀ ns ∈ nss, ns.length = n + 1) : (allP nss).length = nss.length * n + 1 := by
  unfold allP
  rw [fold_len nss h [1] (by show 0 < 1; omega)]
  show 1 + _ = _
  omega
theorem l1_wd {ns : List Int} {L : Nat} (h : l1 ns ≤ L) (hL : L < 10 ^ 50) : ∀ n ∈ ns, Sm n := by
  intro n hn
  have := l1_mem hn
  unfold Sm
  omega
theorem Sm.wd {n : Int} (h : Sm n) : Wd n := by
  unfold Sm at h
  unfold Wd
  omega
end My
namespace My
open PySem PySem.Spec PyProof.Rows L2 Pr
section
variable {g : TG} {D : Ends} {σ : L2.St} {H : Hp} {j : Nat} {te : TE} {vs : List Nat} {Q : VK} {tt : TT}
/-- the tuples at rs hold the rows nss -/
def Rows (H : Hp) (d : Addr) (rs : List Addr) (nss : List (List Int)) : Prop := rs.length = nss.length ∧ ∀ (i : Nat) (r : Addr) (ns : List Int), rs[i]? = some r → nss[i]? = some ns → H r = some (TI ns) ∧ r ≠ d
theorem Rows.exc {H H' : Hp} {d : Addr} {rs : List Addr} {nss : List (List Int)} (h : Rows H d rs nss) (ex : Exc d H H') : Rows H' d rs nss := ⟨h.1, fun i r ns e1 e2 => ⟨ex _ _ (h.2 i r ns e1 e2).2 (h.2 i r ns e1 e2).1, (h.2 i r ns e1 e2).2⟩⟩
theorem Rows.snoc {H : Hp} {d r : Addr} {ns : List Int} {rs : List Addr} {nss : List (List Int)} (h : Rows H d rs nss) (e : H r = some (TI ns)) (n : r ≠ d) : Rows H d (rs ++ [r]) (nss ++ [ns]) := by
  refine ⟨by simp [h.1], fun i r' ns' e1 e2 => ?_⟩
  by_cases hi : i < rs.length
  · rw [List.getElem?_append_left hi] at e1
    rw [List.getElem?_append_left (by have := h.1; omega)] at e2
    exact h.2 i r' ns' e1 e2
  · rw [List.getElem?_append_right (by omega)] at e1
    rw [List.getElem?_append_right (by have := h.1; omega), ← h.1] at e2
    by_cases h0 : i - rs.length = 0
    · rw [h0] at e1 e2
      cases e1
      cases e2
      exact ⟨e, n⟩
    · rw [List.getElem?_eq_none (by simp; omega)] at e1
      cases e1
/-- a comprehension whose turns throw dice and give tuples of ints -/
theorem lc_rangeT {lo : Int} {n : Nat} {d : Addr} (R : List Int → Prop) (hn : n < 1000000) (hD : Dc H d) (hw : ∀ x, wipe ((wipe σ vs).set j (some x)) vs = wipe σ vs)
    (he : ∀ (i : Nat) H', i < n → Exc d H H' → Dc H' d → ∀ Q' : VK, (∀ H'' r ns, Exc d H' H'' → Dc H'' d → H'' r = some (TI ns) → r ≠ d → R ns → Q' (.ref r) H'') → te ((wipe σ vs).set j (some (.int (lo + i)))) H' Q')
    (hq : ∀ p H' rs nss, H p = none → Exc d H H' → Dc H' d → nss.length = n → (∀ ns ∈ nss, R ns) → H' p = some (.lst (rs.map V.ref)) → Rows H' d rs nss → Q (.ref p) H') :
    tLcIn (gName j) tYes te vs σ Q (Itr lo n) H := fun A hA => by
  have nd : A ≠ d := by
    obtain ⟨_, _, _, e⟩ := hD
    exact (ne_of_none e hA).symm
  refine lc_range (g := gName j) (lo := lo) (n := n) (fun i H' => Exc d H H' ∧ Dc H' d ∧ ∃ rs nss, nss.length = i ∧ (∀ x ∈ nss, R x) ∧ H' A = some (.lst (rs.map V.ref)) ∧ Rows H' d rs nss) ⟨.same (same_upd hA), hD.same (same_upd hA), [], [], rfl, by simp, upd_same, rfl, fun i r ns e1 => by simp at e1⟩ (fun i H' hi hP => ?_) (fun H' hP => ?_)
  · obtain ⟨ex, dc, rs, nss, l, r, e, rw1⟩ := hP
    refine ⟨hw _, he i H' hi ex dc _ fun H2 t ns ex2 dc2 et td rx => ⟨_, ex2 _ _ nd e, sz (by have := rw1.1; simp; omega), ?_, ?_, rs ++ [t], nss ++ [ns], by simp [l], ?_, ?_, ?_⟩⟩
    · intro b o hb eb
      rw [upd_ne (ne_of_none eb hA)]
      exact ex2 _ _ hb (ex _ _ hb eb)
    · obtain ⟨a1, a2, a3, ed⟩ := dc2
      exact ⟨a1, a2, a3, by rw [upd_ne nd.symm]; exact ed⟩
    · intro y hy
      rcases List.mem_append.mp hy with h | h
      · exact r y h
      · rw [show y = ns by simpa using h]
        exact rx
    · rw [upd_same]
      exact congrArg (fun z => some (HO.lst z)) (List.map_append (f := V.ref) (l₁ := rs) (l₂ := [t])).symm
    · have r2 := (rw1.exc ex2).snoc et td
      refine ⟨r2.1, fun i r' ns' e1 e2 => ?_⟩
      obtain ⟨c1, c2⟩ := r2.2 i r' ns' e1 e2
      refine ⟨?_, c2⟩
      have ne : r' ≠ A := by
        rintro rfl
        rw [ex2 _ _ nd e] at c1
        cases c1
      rw [upd_ne ne]
      exact c1
  · obtain ⟨ex, dc, rs, nss, l, r, e, rw1⟩ := hP
    exact hq A H' rs nss hA ex dc l r e rw1
end
section
variable {P : Program} {w : World} {K : PySem.W.Frag} {mg : Str → Option Value} {base : Heap}
theorem l1_bd {ns : List Int} {L : Nat} (h : l1 ns ≤ L) (hL : L ≤ 10 ^ 13) : Bd (10 ^ 13) ns := by
  intro n hn
  have := l1_mem hn
  omega
theorem l1_Bd {ns : List Int} {m : Nat} (h : Bd m ns) : l1 ns ≤ ns.length * m := by
  induction ns with
  | nil => exact Nat.zero_le _
  | cons n ns ih =>
    have h1 := ih fun x hx => h x (List.mem_cons_of_mem _ hx)
    have h2 := h n (List.mem_cons_self ..)
    rw [List.length_cons, Nat.succ_mul]
    show n.natAbs + l1 ns ≤ _
    omega
theorem pow6 {k : Nat} (h : k ≤ 12) : 6 ^ k ≤ 6 ^ 12 := Nat.pow_le_pow_right (by omega) h
theorem not_dice {H : Hp} {d r : Addr} (D : Dc H d) (n : H r = none) : r ≠ d := by
  obtain ⟨_, _, _, ed⟩ := D
  exact (ne_of_none ed n).symm
theorem line_l1 {a b : Int} (p : Pt 3 a b) : l1 [b, 0 - a] ≤ 6 := by
  have := p.a0
  have := p.a1
  have := p.b0
  have := p.b1
  show b.natAbs + ((0 - a).natAbs + 0) ≤ 6
  omega
theorem point_l1 {a b : Int} (p : Pt 3 a b) : l1 [a, b] ≤ 6 := by
  have := p.a0
  have := p.a1
  have := p.b0
  have := p.b1
  show a.natAbs + (b.natAbs + 0) ≤ 6
  omega
/-- powers of a short pair -/
theorem pow_ok {ns : List Int} (hl : ns.length = 2) (h : l1 ns ≤ 6) {k : Nat} (hk : k ≤ 12) : (powP ns k).length = k + 1 ∧ l1 (powP ns k) ≤ 6 ^ 12 := by
  refine ⟨by rw [powP_lenE (by omega) k, hl]; omega, Nat.le_trans (l1_powP ns k) (Nat.le_trans (Nat.pow_le_pow_left h k) (pow6 hk))⟩
theorem pow_wd {ns : List Int} (hl : ns.length = 2) (h : l1 ns ≤ 6) {k : Nat} (hk : k ≤ 12) : ∀ n ∈ powP ns k, Sm n := l1_wd (pow_ok hl h hk).2 (by decide)
theorem zip_bd {A B : Int} : ∀ {ns ms : List Int}, Bd A ns → Bd B ms → Bd (A + B) (List.zipWith (· + ·) ns ms)
  | [], _, _, _ => fun n hn => by simp at hn
  | _ :: _, [], _, _ => fun n hn => by simp at hn
  | a :: ns, b :: ms, h1, h2 => fun n hn => by
    rw [List.zipWith_cons_cons] at hn
    rcases List.mem_cons.mp hn with rfl | hn
    · have := h1 a (List.mem_cons_self ..)
      have := h2 b (List.mem_cons_self ..)
      omega
    · exact zip_bd (fun x hx => h1 x (List.mem_cons_of_mem _ hx)) (fun x hx => h2 x (List.mem_cons_of_mem _ hx)) n hn
theorem scale_bd {A f : Int} {ms : List Int} (hA : 0 ≤ A) (hf : -4 ≤ f ∧ f ≤ 4) (h : Bd A ms) : Bd (4 * A) (ms.map (f * ·)) := by
  intro n hn
  obtain ⟨m, hm, rfl⟩ := List.mem_map.mp hn
  exact mul_bd hf (h m hm) (by omega) hA
theorem l1_B {ns : List Int} {L : Nat} (h : l1 ns ≤ L) : Bd (L : Nat) ns := by
  intro n hn
  have := l1_mem hn
  omega
/-- a drawn form's entries -/
def Drawn (n : Nat) (ns : List Int) : Prop := ns.length = n + 1 ∧ Bd (10 ^ 13) ns
def sp_law_form : Sp := fun vs H Q _ => ∃ (d : Addr) (n : Nat), vs = [.ref d, .int (n : Nat)] ∧ Dc H d ∧ n ≤ 12 ∧
  ∀ H' r ns, Exc d H H' → Dc H' d → H r = none → Drawn n ns → H' r = some (TI ns) → Q (.ref r) H'
theorem ok_law_form (T : Tx K mg) : FnOk P w K mg base CX0 5 T.f_law_form T.d_law_form p_law_form sp_law_form := by
  refine T.F_law_form.ok sc_law_form (fun vs H Q E h => ?_) (fun cdv A outer s H vs Q E hr h => ?_)
  · obtain ⟨d, n, rfl, _⟩ := h
    rfl
  · obtain ⟨d, n, rfl, hD, hn, k⟩ := h
    refine ⟨_, (pss_cons (ps_set (i := 2) sc_law_form.nd rfl (Or.inl rfl) (pe_call (ok_law_roll T) (hr.mono (by decide)) (by rfl) T.m_law_roll T.F_law_roll.kp T.b_law_roll .nil pass0 (pa_cons (pv 0) (pa_cons pe_int pa_nil))))
      (pss_cons (ps_if (pt_cmpR op_eq (pv 2) pe_int (nomark _)) (pss_one (ps_ret (pe_call (ok_law_all_product T) (hr.mono (by decide)) (by rfl) T.m_law_all_product T.F_law_all_product.kp T.b_law_all_product .nil pass0 (pa_cons (pe_lc (own := [("_law_turn", 6)]) (g := gName 6) (tt := tYes) rfl sc_law_form.nd (pi_range1 (by rfl) T.z_range (pa_cons (pv 1) pa_nil)) (blkOk_by (N := n_law_form) (sc := defScope s_law_form) (by decide +kernel)) (fun _ _ _ _ _ => (pg_name (i := 6) sc_law_form.nd rfl (by first | exact .inl rfl | exact .inr rfl))) (fun _ _ _ _ _ => pts_nil) (fun _ _ _ _ _ => (pe_call (ok_law_line T) (hr.mono (by decide)) (by rfl) T.m_law_line T.F_law_line.kp T.b_law_line .nil pass0 (pa_cons (pe_call (ok_law_point T) (hr.mono (by decide)) (by rfl) T.m_law_point T.F_law_point.kp T.b_law_point .nil pass0 (pa_cons (pv 0) (pa_cons pe_int pa_nil))) pa_nil)))) pa_nil)))) pss_nil)
      (pss_cons (ps_if (pt_cmpR op_eq (pv 2) pe_int (nomark _)) (pss_cons (ps_par (i := 3) (j := 4) (by rfl) sc_law_form.nd rfl rfl (by decide) rfl rfl (pa_cons (pe_call (ok_law_line T) (hr.mono (by decide)) (by rfl) T.m_law_line T.F_law_line.kp T.b_law_line .nil pass0 (pa_cons (pe_call (ok_law_point T) (hr.mono (by decide)) (by rfl) T.m_law_point T.F_law_point.kp T.b_law_point .nil pass0 (pa_cons (pv 0) (pa_cons pe_int pa_nil))) pa_nil)) (pa_cons (pe_call (ok_law_roll T) (hr.mono (by decide)) (by rfl) T.m_law_roll T.F_law_roll.kp T.b_law_roll .nil pass0 (pa_cons (pv 0) (pa_cons (pe_op op_add (pv 1) pe_int) pa_nil))) pa_nil)) (by rfl))
      (pss_one (ps_ret (pe_call (ok_law_product T) (hr.mono (by decide)) (by rfl) T.m_law_product T.F_law_product.kp T.b_law_product .nil pass0 (pa_cons (pe_call (ok_law_power T) (hr.mono (by decide)) (by rfl) T.m_law_power T.F_law_power.kp T.b_law_power .nil pass0 (pa_cons (pv 3) (pa_cons (pv 4) pa_nil))) (pa_cons (pe_call (ok_law_small_form T) (hr.mono (by decide)) (by rfl) T.m_law_small_form T.F_law_small_form.kp T.b_law_small_form .nil pass0 (pa_cons (pv 0) (pa_cons (pe_op op_sub (pv 1) (pv 4)) (pa_cons pe_int pa_nil)))) pa_nil)))))) pss_nil)
      (pss_cons (ps_if (pt_cmpR op_eq (pv 2) pe_int (nomark _)) (pss_cons (ps_set (i := 5) sc_law_form.nd rfl (Or.inl rfl) (pe_callTy cr_tupL (by rfl) T.z_tuple (by decide +kernel) (pa_cons (pe_lc (own := [("_law_place", 7)]) (g := gName 7) (tt := tYes) rfl sc_law_form.nd (pi_range1 (by rfl) T.z_range (pa_cons (pe_op op_add (pv 1) pe_int) pa_nil)) (blkOk_by (N := n_law_form) (sc := defScope s_law_form) (by decide +kernel)) (fun _ _ _ _ _ => (pg_name (i := 7) sc_law_form.nd rfl (by first | exact .inl rfl | exact .inr rfl))) (fun _ _ _ _ _ => pts_nil) (fun _ _ _ _ _ => pe_int)) pa_nil)))
      (pss_cons (ps_for PassesOwn.never rfl (pi_range1 (by rfl) T.z_range (pa_cons (pe_op op_add pe_int (pe_call (ok_law_roll T) (hr.mono (by decide)) (by rfl) T.m_law_roll T.F_law_roll.kp T.b_law_roll .nil pass0 (pa_cons (pv 0) (pa_cons pe_int pa_nil)))) pa_nil)) (pg_name (i := 6) sc_law_form.nd rfl (by first | exact .inl rfl | exact .inr rfl))
      (pss_one (ps_set (i := 5) sc_law_form.nd rfl (Or.inl rfl) (pe_call (ok_law_plus T) (hr.mono (by decide)) (by rfl) T.m_law_plus T.F_law_plus.kp T.b_law_plus .nil pass0 (pa_cons (pv 5) (pa_cons (pe_call (ok_law_scaled T) (hr.mono (by decide)) (by rfl) T.m_law_scaled T.F_law_scaled.kp T.b_law_scaled .nil pass0 (pa_cons (pe_call (ok_law_power T) (hr.mono (by decide)) (by rfl) T.m_law_power T.F_law_power.kp T.b_law_power .nil pass0 (pa_cons (pe_call (ok_law_point T) (hr.mono (by decide)) (by rfl) T.m_law_point T.F_law_point.kp T.b_law_point .nil pass0 (pa_cons (pv 0) (pa_cons pe_int pa_nil))) (pa_cons (pv 1) pa_nil))) (pa_cons (pe_call (ok_law_near T) (hr.mono (by decide)) (by rfl) T.m_law_near T.F_law_near.kp T.b_law_near .nil pass0 (pa_cons (pv 0) (pa_cons pe_int pa_nil))) pa_nil))) pa_nil))))))
      (pss_one (ps_ret (pv 5))))) pss_nil)
      (pss_cons (ps_if (pt_cmpR op_eq (pv 2) pe_int (nomark _)) (pss_one (ps_ret (pe_callTy cr_tupL (by rfl) T.z_tuple (by decide +kernel) (pa_cons (pe_lc (own := [("_law_place", 7)]) (g := gName 7) (tt := tYes) rfl sc_law_form.nd (pi_range1 (by rfl) T.z_range (pa_cons (pe_op op_add (pv 1) pe_int) pa_nil)) (blkOk_by (N := n_law_form) (sc := defScope s_law_form) (by decide +kernel)) (fun _ _ _ _ _ => (pg_name (i := 7) sc_law_form.nd rfl (by first | exact .inl rfl | exact .inr rfl))) (fun _ _ _ _ _ => pts_nil) (fun _ _ _ _ _ => (pe_op op_mulB (pe_call (ok_law_near T) (hr.mono (by decide)) (by rfl) T.m_law_near T.F_law_near.kp T.b_law_near .nil pass0 (pa_cons (pv 0) (pa_cons pe_int pa_nil))) (pe_call (ok_law_roll T) (hr.mono (by decide)) (by rfl) T.m_law_roll T.F_law_roll.kp T.b_law_roll .nil pass0 (pa_cons (pv 0) (pa_cons pe_int pa_nil)))))) pa_nil)))) pss_nil)
      (pss_cons (ps_if (PW.pt (pw_and (pt_cmpR op_eq (pv 2) pe_int (nomark _)) (pw_and1 (pt_cmpR op_eq (pe_call (ok_law_roll T) (hr.mono (by decide)) (by rfl) T.m_law_roll T.F_law_roll.kp T.b_law_roll .nil pass0 (pa_cons (pv 0) (pa_cons pe_int pa_nil))) pe_int (nomark _))))) (pss_one (ps_ret (pe_callTy cr_tupL (by rfl) T.z_tuple (by decide +kernel) (pa_cons (pe_lc (own := [("_law_place", 7)]) (g := gName 7) (tt := tYes) rfl sc_law_form.nd (pi_range1 (by rfl) T.z_range (pa_cons (pe_op op_add (pv 1) pe_int) pa_nil)) (blkOk_by (N := n_law_form) (sc := defScope s_law_form) (by decide +kernel)) (fun _ _ _ _ _ => (pg_name (i := 7) sc_law_form.nd rfl (by first | exact .inl rfl | exact .inr rfl))) (fun _ _ _ _ _ => pts_nil) (fun _ _ _ _ _ => (pe_call (ok_law_near T) (hr.mono (by decide)) (by rfl) T.m_law_near T.F_law_near.kp T.b_law_near .nil pass0 (pa_cons (pv 0) (pa_cons (pe_op op_pow pe_int pe_int) pa_nil))))) pa_nil)))) pss_nil)
      (pss_one (ps_ret (pe_call (ok_law_small_form T) (hr.mono (by decide)) (by rfl) T.m_law_small_form T.F_law_small_form.kp T.b_law_small_form .nil pass0 (pa_cons (pv 0) (pa_cons (pv 1) (pa_cons pe_int pa_nil)))))))))))), ?_⟩
    rw [st_law_form]
    simp only [ap_seq, ap_next, ap_asg, ap_gName, ap_ret, ap_retN, ap_drop, ap_ifS, ap_break, ap_cont, ap_par, ap_aug, ap_ip, ap_gSub, ap_gTup, ap_gNil, ap_gCons, ap_var, ap_c, ap_op, ap_un, ap_if, ap_test, ap_B, ap_and, ap_or, ap_not, ap_andV, ap_orV, ap_notV, ap_nil, ap_cons, ap_tup, ap_lst, ap_cb, ap_bm, ap_call, ap_chain, ap_rI, ap_rI0, ap_rU, ap_rEq, ap_rNe, ap_revT, ap_sl, ap_part, ap_noPart, ap_ixLI, ap_ixTI, ap_ixLV, ap_ixTV, ap_len, ap_setLI, ap_setLV, ap_appI, ap_appV, ap_tupL, ap_listS, ap_sumLI, ap_sumTI, ap_repLI, ap_intI, ap_intB, ap_eqTI, ap_neTI, ap_eqLI, ap_neLI, ap_isi, ap_for, ap_rng1, ap_rng2, ap_iList, ap_iTup, ap_lc, ap_yes, ap_cut, ap_gTupH, ap_fmt, ap_jsn, ap_jsc, ap_gcd, ap_isqrt, ap_ixL, tyV_l, wipe_nil, wipe_cons, upd_same, ap_iEnT, ap_iEnL, ap_iZipA, ap_all, ap_tupT, ap_attF, ap_makeL, ap_att, ap_prop, ap_isO, ap_bin, ap_ne, ap_meth, ap_make, ins_inj, FE_inj, ap_slI, ap_catI, ap_perm, ap_lenO, ap_strO, ap_listO, ap_reprB, ap_iterT, ap_neT, ap_negO, ap_binI, ap_catL, ap_tM1, ap_repTI, ap_popN, ap_par3, ap_catTT, ap_repTA, ap_countT, ap_notInT, ap_repL1, ap_cm, ap_shl, ap_shr, ap_mask, ap_comb, ap_bits, ap_rng3, List.set_cons_zero, List.set_cons_succ, List.getElem?_cons_zero, List.getElem?_cons_succ, List.cons_append, List.nil_append, List.append_nil, Option.some.injEq, V.int.injEq, V.ref.injEq, V.bl.injEq, V.str.injEq, V.ty.injEq, Bool.not_true, Bool.not_false, HO.lst.injEq, HO.tup.injEq, reduceCtorEq, Int.reduceToNat, Int.reduceLT, Int.reduceLE, Nat.reduceAdd, Int.cast_ofNat_Int, gi_c0, gi_c1, gi_c2, gi_c3, Int.natCast_inj, map_int_inj, map_nil_iff, List.cons.injEq, exists_eq_left, exists_eq_left', exists_eq, exists_eq', exists_and_left, exists_and_right, exists_const, and_assoc, and_true, true_and, and_false, false_and, or_false, false_or, or_true, true_or, ite_true, ite_false, if_true, if_false, Bool.false_eq_true, own_cons, own_nil, le1, le2, le3, le4, me_cons, me_nil, List.length_map, List.length_cons, List.length_nil, ne_eq, not_false_eq_true, not_true_eq_false, decide_eq_true_eq]
    refine ⟨d, 6, rfl, hD, by omega, by omega, fun H1 x ex1 D1 x0 x1 => ?_⟩
    simp only [ap_seq, ap_next, ap_asg, ap_gName, ap_ret, ap_retN, ap_drop, ap_ifS, ap_break, ap_cont, ap_par, ap_aug, ap_ip, ap_gSub, ap_gTup, ap_gNil, ap_gCons, ap_var, ap_c, ap_op, ap_un, ap_if, ap_test, ap_B, ap_and, ap_or, ap_not, ap_andV, ap_orV, ap_notV, ap_nil, ap_cons, ap_tup, ap_lst, ap_cb, ap_bm, ap_call, ap_chain, ap_rI, ap_rI0, ap_rU, ap_rEq, ap_rNe, ap_revT, ap_sl, ap_part, ap_noPart, ap_ixLI, ap_ixTI, ap_ixLV, ap_ixTV, ap_len, ap_setLI, ap_setLV, ap_appI, ap_appV, ap_tupL, ap_listS, ap_sumLI, ap_sumTI, ap_repLI, ap_intI, ap_intB, ap_eqTI, ap_neTI, ap_eqLI, ap_neLI, ap_isi, ap_for, ap_rng1, ap_rng2, ap_iList, ap_iTup, ap_lc, ap_yes, ap_cut, ap_gTupH, ap_fmt, ap_jsn, ap_jsc, ap_gcd, ap_isqrt, ap_ixL, tyV_l, wipe_nil, wipe_cons, upd_same, ap_iEnT, ap_iEnL, ap_iZipA, ap_all, ap_tupT, ap_attF, ap_makeL, ap_att, ap_prop, ap_isO, ap_bin, ap_ne, ap_meth, ap_make, ins_inj, FE_inj, ap_slI, ap_catI, ap_perm, ap_lenO, ap_strO, ap_listO, ap_reprB, ap_iterT, ap_neT, ap_negO, ap_binI, ap_catL, ap_tM1, ap_repTI, ap_popN, ap_par3, ap_catTT, ap_repTA, ap_countT, ap_notInT, ap_repL1, ap_cm, ap_shl, ap_shr, ap_mask, ap_comb, ap_bits, ap_rng3, List.set_cons_zero, List.set_cons_succ, List.getElem?_cons_zero, List.getElem?_cons_succ, List.cons_append, List.nil_append, List.append_nil, Option.some.injEq, V.int.injEq, V.ref.injEq, V.bl.injEq, V.str.injEq, V.ty.injEq, Bool.not_true, Bool.not_false, HO.lst.injEq, HO.tup.injEq, reduceCtorEq, Int.reduceToNat, Int.reduceLT, Int.reduceLE, Nat.reduceAdd, Int.cast_ofNat_Int, gi_c0, gi_c1, gi_c2, gi_c3, Int.natCast_inj, map_int_inj, map_nil_iff, List.cons.injEq, exists_eq_left, exists_eq_left', exists_eq, exists_eq', exists_and_left, exists_and_right, exists_const, and_assoc, and_true, true_and, and_false, false_and, or_false, false_or, or_true, true_or, ite_true, ite_false, if_true, if_false, Bool.false_eq_true, own_cons, own_nil, le1, le2, le3, le4, me_cons, me_nil, List.length_map, List.length_cons, List.length_nil, ne_eq, not_false_eq_true, not_true_eq_false, decide_eq_true_eq]
    refine ⟨rfl, iteC (fun c => ?_) (fun _ => ?_)⟩
    · rw [Int.toNat_natCast]
      refine ⟨by omega, by omega, lc_rangeT (fun ns => ns.length = 2 ∧ l1 ns ≤ 6) (by omega) D1 (fun x => rfl) (fun i H2 hi ex2 D2 Q' k' => ?_) (fun A H2 rs nss nA ex2 D2 ln hR eA rw1 => ?_)⟩
      · simp only [ap_seq, ap_next, ap_asg, ap_gName, ap_ret, ap_retN, ap_drop, ap_ifS, ap_break, ap_cont, ap_par, ap_aug, ap_ip, ap_gSub, ap_gTup, ap_gNil, ap_gCons, ap_var, ap_c, ap_op, ap_un, ap_if, ap_test, ap_B, ap_and, ap_or, ap_not, ap_andV, ap_orV, ap_notV, ap_nil, ap_cons, ap_tup, ap_lst, ap_cb, ap_bm, ap_call, ap_chain, ap_rI, ap_rI0, ap_rU, ap_rEq, ap_rNe, ap_revT, ap_sl, ap_part, ap_noPart, ap_ixLI, ap_ixTI, ap_ixLV, ap_ixTV, ap_len, ap_setLI, ap_setLV, ap_appI, ap_appV, ap_tupL, ap_listS, ap_sumLI, ap_sumTI, ap_repLI, ap_intI, ap_intB, ap_eqTI, ap_neTI, ap_eqLI, ap_neLI, ap_isi, ap_for, ap_rng1, ap_rng2, ap_iList, ap_iTup, ap_lc, ap_yes, ap_cut, ap_gTupH, ap_fmt, ap_jsn, ap_jsc, ap_gcd, ap_isqrt, ap_ixL, tyV_l, wipe_nil, wipe_cons, upd_same, ap_iEnT, ap_iEnL, ap_iZipA, ap_all, ap_tupT, ap_attF, ap_makeL, ap_att, ap_prop, ap_isO, ap_bin, ap_ne, ap_meth, ap_make, ins_inj, FE_inj, ap_slI, ap_catI, ap_perm, ap_lenO, ap_strO, ap_listO, ap_reprB, ap_iterT, ap_neT, ap_negO, ap_binI, ap_catL, ap_tM1, ap_repTI, ap_popN, ap_par3, ap_catTT, ap_repTA, ap_countT, ap_notInT, ap_repL1, ap_cm, ap_shl, ap_shr, ap_mask, ap_comb, ap_bits, ap_rng3, List.set_cons_zero, List.set_cons_succ, List.getElem?_cons_zero, List.getElem?_cons_succ, List.cons_append, List.nil_append, List.append_nil, Option.some.injEq, V.int.injEq, V.ref.injEq, V.bl.injEq, V.str.injEq, V.ty.injEq, Bool.not_true, Bool.not_false, HO.lst.injEq, HO.tup.injEq, reduceCtorEq, Int.reduceToNat, Int.reduceLT, Int.reduceLE, Nat.reduceAdd, Int.cast_ofNat_Int, gi_c0, gi_c1, gi_c2, gi_c3, Int.natCast_inj, map_int_inj, map_nil_iff, List.cons.injEq, exists_eq_left, exists_eq_left', exists_eq, exists_eq', exists_and_left, exists_and_right, exists_const, and_assoc, and_true, true_and, and_false, false_and, or_false, false_or, or_true, true_or, ite_true, ite_false, if_true, if_false, Bool.false_eq_true, own_cons, own_nil, le1, le2, le3, le4, me_cons, me_nil, List.length_map, List.length_cons, List.length_nil, ne_eq, not_false_eq_true, not_true_eq_false, decide_eq_true_eq]
        refine ⟨d, 3, rfl, D2, by omega, by omega, fun H3 r a b ex3 D3 nr er pt => ?_⟩
        simp only [ap_seq, ap_next, ap_asg, ap_gName, ap_ret, ap_retN, ap_drop, ap_ifS, ap_break, ap_cont, ap_par, ap_aug, ap_ip, ap_gSub, ap_gTup, ap_gNil, ap_gCons, ap_var, ap_c, ap_op, ap_un, ap_if, ap_test, ap_B, ap_and, ap_or, ap_not, ap_andV, ap_orV, ap_notV, ap_nil, ap_cons, ap_tup, ap_lst, ap_cb, ap_bm, ap_call, ap_chain, ap_rI, ap_rI0, ap_rU, ap_rEq, ap_rNe, ap_revT, ap_sl, ap_part, ap_noPart, ap_ixLI, ap_ixTI, ap_ixLV, ap_ixTV, ap_len, ap_setLI, ap_setLV, ap_appI, ap_appV, ap_tupL, ap_listS, ap_sumLI, ap_sumTI, ap_repLI, ap_intI, ap_intB, ap_eqTI, ap_neTI, ap_eqLI, ap_neLI, ap_isi, ap_for, ap_rng1, ap_rng2, ap_iList, ap_iTup, ap_lc, ap_yes, ap_cut, ap_gTupH, ap_fmt, ap_jsn, ap_jsc, ap_gcd, ap_isqrt, ap_ixL, tyV_l, wipe_nil, wipe_cons, upd_same, ap_iEnT, ap_iEnL, ap_iZipA, ap_all, ap_tupT, ap_attF, ap_makeL, ap_att, ap_prop, ap_isO, ap_bin, ap_ne, ap_meth, ap_make, ins_inj, FE_inj, ap_slI, ap_catI, ap_perm, ap_lenO, ap_strO, ap_listO, ap_reprB, ap_iterT, ap_neT, ap_negO, ap_binI, ap_catL, ap_tM1, ap_repTI, ap_popN, ap_par3, ap_catTT, ap_repTA, ap_countT, ap_notInT, ap_repL1, ap_cm, ap_shl, ap_shr, ap_mask, ap_comb, ap_bits, ap_rng3, List.set_cons_zero, List.set_cons_succ, List.getElem?_cons_zero, List.getElem?_cons_succ, List.cons_append, List.nil_append, List.append_nil, Option.some.injEq, V.int.injEq, V.ref.injEq, V.bl.injEq, V.str.injEq, V.ty.injEq, Bool.not_true, Bool.not_false, HO.lst.injEq, HO.tup.injEq, reduceCtorEq, Int.reduceToNat, Int.reduceLT, Int.reduceLE, Nat.reduceAdd, Int.cast_ofNat_Int, gi_c0, gi_c1, gi_c2, gi_c3, Int.natCast_inj, map_int_inj, map_nil_iff, List.cons.injEq, exists_eq_left, exists_eq_left', exists_eq, exists_eq', exists_and_left, exists_and_right, exists_const, and_assoc, and_true, true_and, and_false, false_and, or_false, false_or, or_true, true_or, ite_true, ite_false, if_true, if_false, Bool.false_eq_true, own_cons, own_nil, le1, le2, le3, le4, me_cons, me_nil, List.length_map, List.length_cons, List.length_nil, ne_eq, not_false_eq_true, not_true_eq_false, decide_eq_true_eq]
        refine ⟨r, a, b, rfl, er, fun H4 r2 s4 nr2 er2 => ?_⟩
        exact k' H4 r2 [b, 0 - a] (ex3.trans (.same s4)) (D3.same s4) er2 (not_dice D3 nr2) ⟨rfl, line_l1 pt⟩
      · have b40 : (6 : Nat) ^ 12 < 10 ^ 50 := by decide
        have b45 : (6 : Nat) ^ 12 ≤ 10 ^ 13 := by decide
        refine ⟨A, rs, nss, rfl, eA, rw1.1, fun i r ns e1 e2 => ?_, fun H' r s' nr er => ?_⟩
        · obtain ⟨c1, c2⟩ := rw1.2 i r ns e1 e2
          have q := hR ns (List.mem_of_getElem? e2)
          have tk : ∀ ms ∈ nss.take i, ms.length = 1 + 1 := fun ms hm => (hR ms (List.mem_of_mem_take hm)).1
          have len := allP_len tk
          have lb := l1_allP (nss := nss.take i) (L := 6) fun ms hm => (hR ms (List.mem_of_mem_take hm)).2
          have li : (nss.take i).length ≤ 12 := by rw [List.length_take]; omega
          exact ⟨c1, by omega, by omega, fun n hn => (l1_wd q.2 (by omega) n hn).wd, by omega, by omega, fun n hn => (l1_wd (Nat.le_trans lb (pow6 li)) b40 n hn).wd⟩
        · have len := allP_len (nss := nss) (n := 1) fun ms hm => (hR ms hm).1
          have lb := l1_allP (nss := nss) (L := 6) fun ms hm => (hR ms hm).2
          exact k H' r (allP nss) ((ex1.trans ex2).trans (.same s')) (D2.same s') (free_ex (ex1.trans ex2) D2 nr) ⟨by omega, l1_bd (Nat.le_trans lb (pow6 (by omega))) b45⟩ er
    refine ⟨rfl, iteC (fun c => ?_) (fun _ => ?_)⟩
    · refine ⟨d, 3, rfl, D1, by omega, by omega, fun H2 r a b ex2 D2 nr er pt => ?_⟩
      simp only [ap_seq, ap_next, ap_asg, ap_gName, ap_ret, ap_retN, ap_drop, ap_ifS, ap_break, ap_cont, ap_par, ap_aug, ap_ip, ap_gSub, ap_gTup, ap_gNil, ap_gCons, ap_var, ap_c, ap_op, ap_un, ap_if, ap_test, ap_B, ap_and, ap_or, ap_not, ap_andV, ap_orV, ap_notV, ap_nil, ap_cons, ap_tup, ap_lst, ap_cb, ap_bm, ap_call, ap_chain, ap_rI, ap_rI0, ap_rU, ap_rEq, ap_rNe, ap_revT, ap_sl, ap_part, ap_noPart, ap_ixLI, ap_ixTI, ap_ixLV, ap_ixTV, ap_len, ap_setLI, ap_setLV, ap_appI, ap_appV, ap_tupL, ap_listS, ap_sumLI, ap_sumTI, ap_repLI, ap_intI, ap_intB, ap_eqTI, ap_neTI, ap_eqLI, ap_neLI, ap_isi, ap_for, ap_rng1, ap_rng2, ap_iList, ap_iTup, ap_lc, ap_yes, ap_cut, ap_gTupH, ap_fmt, ap_jsn, ap_jsc, ap_gcd, ap_isqrt, ap_ixL, tyV_l, wipe_nil, wipe_cons, upd_same, ap_iEnT, ap_iEnL, ap_iZipA, ap_all, ap_tupT, ap_attF, ap_makeL, ap_att, ap_prop, ap_isO, ap_bin, ap_ne, ap_meth, ap_make, ins_inj, FE_inj, ap_slI, ap_catI, ap_perm, ap_lenO, ap_strO, ap_listO, ap_reprB, ap_iterT, ap_neT, ap_negO, ap_binI, ap_catL, ap_tM1, ap_repTI, ap_popN, ap_par3, ap_catTT, ap_repTA, ap_countT, ap_notInT, ap_repL1, ap_cm, ap_shl, ap_shr, ap_mask, ap_comb, ap_bits, ap_rng3, List.set_cons_zero, List.set_cons_succ, List.getElem?_cons_zero, List.getElem?_cons_succ, List.cons_append, List.nil_append, List.append_nil, Option.some.injEq, V.int.injEq, V.ref.injEq, V.bl.injEq, V.str.injEq, V.ty.injEq, Bool.not_true, Bool.not_false, HO.lst.injEq, HO.tup.injEq, reduceCtorEq, Int.reduceToNat, Int.reduceLT, Int.reduceLE, Nat.reduceAdd, Int.cast_ofNat_Int, gi_c0, gi_c1, gi_c2, gi_c3, Int.natCast_inj, map_int_inj, map_nil_iff, List.cons.injEq, exists_eq_left, exists_eq_left', exists_eq, exists_eq', exists_and_left, exists_and_right, exists_const, and_assoc, and_true, true_and, and_false, false_and, or_false, false_or, or_true, true_or, ite_true, ite_false, if_true, if_false, Bool.false_eq_true, own_cons, own_nil, le1, le2, le3, le4, me_cons, me_nil, List.length_map, List.length_cons, List.length_nil, ne_eq, not_false_eq_true, not_true_eq_false, decide_eq_true_eq]
      refine ⟨r, a, b, rfl, er, fun H3 r2 s3 nr2 er2 => ?_⟩
      have D3 := D2.same s3
      simp only [ap_seq, ap_next, ap_asg, ap_gName, ap_ret, ap_retN, ap_drop, ap_ifS, ap_break, ap_cont, ap_par, ap_aug, ap_ip, ap_gSub, ap_gTup, ap_gNil, ap_gCons, ap_var, ap_c, ap_op, ap_un, ap_if, ap_test, ap_B, ap_and, ap_or, ap_not, ap_andV, ap_orV, ap_notV, ap_nil, ap_cons, ap_tup, ap_lst, ap_cb, ap_bm, ap_call, ap_chain, ap_rI, ap_rI0, ap_rU, ap_rEq, ap_rNe, ap_revT, ap_sl, ap_part, ap_noPart, ap_ixLI, ap_ixTI, ap_ixLV, ap_ixTV, ap_len, ap_setLI, ap_setLV, ap_appI, ap_appV, ap_tupL, ap_listS, ap_sumLI, ap_sumTI, ap_repLI, ap_intI, ap_intB, ap_eqTI, ap_neTI, ap_eqLI, ap_neLI, ap_isi, ap_for, ap_rng1, ap_rng2, ap_iList, ap_iTup, ap_lc, ap_yes, ap_cut, ap_gTupH, ap_fmt, ap_jsn, ap_jsc, ap_gcd, ap_isqrt, ap_ixL, tyV_l, wipe_nil, wipe_cons, upd_same, ap_iEnT, ap_iEnL, ap_iZipA, ap_all, ap_tupT, ap_attF, ap_makeL, ap_att, ap_prop, ap_isO, ap_bin, ap_ne, ap_meth, ap_make, ins_inj, FE_inj, ap_slI, ap_catI, ap_perm, ap_lenO, ap_strO, ap_listO, ap_reprB, ap_iterT, ap_neT, ap_negO, ap_binI, ap_catL, ap_tM1, ap_repTI, ap_popN, ap_par3, ap_catTT, ap_repTA, ap_countT, ap_notInT, ap_repL1, ap_cm, ap_shl, ap_shr, ap_mask, ap_comb, ap_bits, ap_rng3, List.set_cons_zero, List.set_cons_succ, List.getElem?_cons_zero, List.getElem?_cons_succ, List.cons_append, List.nil_append, List.append_nil, Option.some.injEq, V.int.injEq, V.ref.injEq, V.bl.injEq, V.str.injEq, V.ty.injEq, Bool.not_true, Bool.not_false, HO.lst.injEq, HO.tup.injEq, reduceCtorEq, Int.reduceToNat, Int.reduceLT, Int.reduceLE, Nat.reduceAdd, Int.cast_ofNat_Int, gi_c0, gi_c1, gi_c2, gi_c3, Int.natCast_inj, map_int_inj, map_nil_iff, List.cons.injEq, exists_eq_left, exists_eq_left', exists_eq, exists_eq', exists_and_left, exists_and_right, exists_const, and_assoc, and_true, true_and, and_false, false_and, or_false, false_or, or_true, true_or, ite_true, ite_false, if_true, if_false, Bool.false_eq_true, own_cons, own_nil, le1, le2, le3, le4, me_cons, me_nil, List.length_map, List.length_cons, List.length_nil, ne_eq, not_false_eq_true, not_true_eq_false, decide_eq_true_eq]
      refine ⟨d, (n : Int) + 1, rfl, D3, by omega, by omega, fun H4 o ex4 D4 o0 o1 => ?_⟩
      obtain ⟨o, rfl⟩ := Int.eq_ofNat_of_zero_le o0
      have lo : o ≤ n := by omega
      have lp := line_l1 pt
      have b40 : (6 : Nat) ^ 12 < 10 ^ 50 := by decide
      simp only [ap_seq, ap_next, ap_asg, ap_gName, ap_ret, ap_retN, ap_drop, ap_ifS, ap_break, ap_cont, ap_par, ap_aug, ap_ip, ap_gSub, ap_gTup, ap_gNil, ap_gCons, ap_var, ap_c, ap_op, ap_un, ap_if, ap_test, ap_B, ap_and, ap_or, ap_not, ap_andV, ap_orV, ap_notV, ap_nil, ap_cons, ap_tup, ap_lst, ap_cb, ap_bm, ap_call, ap_chain, ap_rI, ap_rI0, ap_rU, ap_rEq, ap_rNe, ap_revT, ap_sl, ap_part, ap_noPart, ap_ixLI, ap_ixTI, ap_ixLV, ap_ixTV, ap_len, ap_setLI, ap_setLV, ap_appI, ap_appV, ap_tupL, ap_listS, ap_sumLI, ap_sumTI, ap_repLI, ap_intI, ap_intB, ap_eqTI, ap_neTI, ap_eqLI, ap_neLI, ap_isi, ap_for, ap_rng1, ap_rng2, ap_iList, ap_iTup, ap_lc, ap_yes, ap_cut, ap_gTupH, ap_fmt, ap_jsn, ap_jsc, ap_gcd, ap_isqrt, ap_ixL, tyV_l, wipe_nil, wipe_cons, upd_same, ap_iEnT, ap_iEnL, ap_iZipA, ap_all, ap_tupT, ap_attF, ap_makeL, ap_att, ap_prop, ap_isO, ap_bin, ap_ne, ap_meth, ap_make, ins_inj, FE_inj, ap_slI, ap_catI, ap_perm, ap_lenO, ap_strO, ap_listO, ap_reprB, ap_iterT, ap_neT, ap_negO, ap_binI, ap_catL, ap_tM1, ap_repTI, ap_popN, ap_par3, ap_catTT, ap_repTA, ap_countT, ap_notInT, ap_repL1, ap_cm, ap_shl, ap_shr, ap_mask, ap_comb, ap_bits, ap_rng3, List.set_cons_zero, List.set_cons_succ, List.getElem?_cons_zero, List.getElem?_cons_succ, List.cons_append, List.nil_append, List.append_nil, Option.some.injEq, V.int.injEq, V.ref.injEq, V.bl.injEq, V.str.injEq, V.ty.injEq, Bool.not_true, Bool.not_false, HO.lst.injEq, HO.tup.injEq, reduceCtorEq, Int.reduceToNat, Int.reduceLT, Int.reduceLE, Nat.reduceAdd, Int.cast_ofNat_Int, gi_c0, gi_c1, gi_c2, gi_c3, Int.natCast_inj, map_int_inj, map_nil_iff, List.cons.injEq, exists_eq_left, exists_eq_left', exists_eq, exists_eq', exists_and_left, exists_and_right, exists_const, and_assoc, and_true, true_and, and_false, false_and, or_false, false_or, or_true, true_or, ite_true, ite_false, if_true, if_false, Bool.false_eq_true, own_cons, own_nil, le1, le2, le3, le4, me_cons, me_nil, List.length_map, List.length_cons, List.length_nil, ne_eq, not_false_eq_true, not_true_eq_false, decide_eq_true_eq]
      refine ⟨r2, [b, 0 - a], o, rfl, ex4 _ _ (not_dice D2 nr2) er2, by show 0 < 2; omega, by show 2 < 1000; omega, by omega, fun j hj => ⟨by rw [(pow_ok (ns := [b, 0 - a]) rfl lp (k := j) (by omega)).1]; omega, fun m hm => (pow_wd (ns := [b, 0 - a]) rfl lp (k := j) (by omega) m hm).wd⟩, fun m hm => (l1_wd lp (by omega) m hm).wd, fun H5 r5 s5 nr5 er5 => ?_⟩
      have D5 := D4.same s5
      simp only [ap_seq, ap_next, ap_asg, ap_gName, ap_ret, ap_retN, ap_drop, ap_ifS, ap_break, ap_cont, ap_par, ap_aug, ap_ip, ap_gSub, ap_gTup, ap_gNil, ap_gCons, ap_var, ap_c, ap_op, ap_un, ap_if, ap_test, ap_B, ap_and, ap_or, ap_not, ap_andV, ap_orV, ap_notV, ap_nil, ap_cons, ap_tup, ap_lst, ap_cb, ap_bm, ap_call, ap_chain, ap_rI, ap_rI0, ap_rU, ap_rEq, ap_rNe, ap_revT, ap_sl, ap_part, ap_noPart, ap_ixLI, ap_ixTI, ap_ixLV, ap_ixTV, ap_len, ap_setLI, ap_setLV, ap_appI, ap_appV, ap_tupL, ap_listS, ap_sumLI, ap_sumTI, ap_repLI, ap_intI, ap_intB, ap_eqTI, ap_neTI, ap_eqLI, ap_neLI, ap_isi, ap_for, ap_rng1, ap_rng2, ap_iList, ap_iTup, ap_lc, ap_yes, ap_cut, ap_gTupH, ap_fmt, ap_jsn, ap_jsc, ap_gcd, ap_isqrt, ap_ixL, tyV_l, wipe_nil, wipe_cons, upd_same, ap_iEnT, ap_iEnL, ap_iZipA, ap_all, ap_tupT, ap_attF, ap_makeL, ap_att, ap_prop, ap_isO, ap_bin, ap_ne, ap_meth, ap_make, ins_inj, FE_inj, ap_slI, ap_catI, ap_perm, ap_lenO, ap_strO, ap_listO, ap_reprB, ap_iterT, ap_neT, ap_negO, ap_binI, ap_catL, ap_tM1, ap_repTI, ap_popN, ap_par3, ap_catTT, ap_repTA, ap_countT, ap_notInT, ap_repL1, ap_cm, ap_shl, ap_shr, ap_mask, ap_comb, ap_bits, ap_rng3, List.set_cons_zero, List.set_cons_succ, List.getElem?_cons_zero, List.getElem?_cons_succ, List.cons_append, List.nil_append, List.append_nil, Option.some.injEq, V.int.injEq, V.ref.injEq, V.bl.injEq, V.str.injEq, V.ty.injEq, Bool.not_true, Bool.not_false, HO.lst.injEq, HO.tup.injEq, reduceCtorEq, Int.reduceToNat, Int.reduceLT, Int.reduceLE, Nat.reduceAdd, Int.cast_ofNat_Int, gi_c0, gi_c1, gi_c2, gi_c3, Int.natCast_inj, map_int_inj, map_nil_iff, List.cons.injEq, exists_eq_left, exists_eq_left', exists_eq, exists_eq', exists_and_left, exists_and_right, exists_const, and_assoc, and_true, true_and, and_false, false_and, or_false, false_or, or_true, true_or, ite_true, ite_false, if_true, if_false, Bool.false_eq_true, own_cons, own_nil, le1, le2, le3, le4, me_cons, me_nil, List.length_map, List.length_cons, List.length_nil, ne_eq, not_false_eq_true, not_true_eq_false, decide_eq_true_eq]
      have eno : (n : Int) - (o : Int) = ((n - o : Nat) : Int) := by omega
      rw [eno]
      refine ⟨d, n - o, 4, rfl, D5, by omega, by omega, by omega, fun H6 r6 ms ex6 D6 nr6 lm bm er6 => ?_⟩
      have po := pow_ok (ns := [b, 0 - a]) rfl lp (k := o) (by omega)
      have lms := l1_Bd (m := 4) bm
      have lms2 : l1 ms ≤ 164 := by
        rw [lm] at lms
        omega
      refine ⟨r5, r6, powP [b, 0 - a] o, ms, rfl, ex6 _ _ (not_dice D4 nr5) er5, er6, by omega, by omega, by omega, by omega, fun m hm => (l1_wd po.2 b40 m hm).wd, fun m hm => (l1_wd lms2 (by omega) m hm).wd, fun H7 r7 s7 nr7 er7 => ?_⟩
      have EX := ((((ex1.trans ex2).trans (.same s3)).trans ex4).trans (.same s5)).trans ex6
      refine k H7 r7 _ (EX.trans (.same s7)) (D6.same s7) (free_ex EX D6 nr7) ⟨by rw [mulP_len]; omega, ?_⟩ er7
      have lb := Nat.le_trans (l1_mulP (powP [b, 0 - a] o) ms) (Nat.mul_le_mul po.2 lms2)
      exact l1_bd lb (by decide)
    refine ⟨rfl, iteC (fun c => ?_) (fun _ => ?_)⟩
    · have en : ((n : Int) + 1).toNat = n + 1 := by omega
      rw [en]
      refine ⟨by omega, by omega, lc_rangeI (fun _ => 0) (by omega) (fun x => rfl) (fun i G hi sm Q' k' => ?_) (fun A G nA sm eA => ?_)⟩
      · simp only [ap_seq, ap_next, ap_asg, ap_gName, ap_ret, ap_retN, ap_drop, ap_ifS, ap_break, ap_cont, ap_par, ap_aug, ap_ip, ap_gSub, ap_gTup, ap_gNil, ap_gCons, ap_var, ap_c, ap_op, ap_un, ap_if, ap_test, ap_B, ap_and, ap_or, ap_not, ap_andV, ap_orV, ap_notV, ap_nil, ap_cons, ap_tup, ap_lst, ap_cb, ap_bm, ap_call, ap_chain, ap_rI, ap_rI0, ap_rU, ap_rEq, ap_rNe, ap_revT, ap_sl, ap_part, ap_noPart, ap_ixLI, ap_ixTI, ap_ixLV, ap_ixTV, ap_len, ap_setLI, ap_setLV, ap_appI, ap_appV, ap_tupL, ap_listS, ap_sumLI, ap_sumTI, ap_repLI, ap_intI, ap_intB, ap_eqTI, ap_neTI, ap_eqLI, ap_neLI, ap_isi, ap_for, ap_rng1, ap_rng2, ap_iList, ap_iTup, ap_lc, ap_yes, ap_cut, ap_gTupH, ap_fmt, ap_jsn, ap_jsc, ap_gcd, ap_isqrt, ap_ixL, tyV_l, wipe_nil, wipe_cons, upd_same, ap_iEnT, ap_iEnL, ap_iZipA, ap_all, ap_tupT, ap_attF, ap_makeL, ap_att, ap_prop, ap_isO, ap_bin, ap_ne, ap_meth, ap_make, ins_inj, FE_inj, ap_slI, ap_catI, ap_perm, ap_lenO, ap_strO, ap_listO, ap_reprB, ap_iterT, ap_neT, ap_negO, ap_binI, ap_catL, ap_tM1, ap_repTI, ap_popN, ap_par3, ap_catTT, ap_repTA, ap_countT, ap_notInT, ap_repL1, ap_cm, ap_shl, ap_shr, ap_mask, ap_comb, ap_bits, ap_rng3, List.set_cons_zero, List.set_cons_succ, List.getElem?_cons_zero, List.getElem?_cons_succ, List.cons_append, List.nil_append, List.append_nil, Option.some.injEq, V.int.injEq, V.ref.injEq, V.bl.injEq, V.str.injEq, V.ty.injEq, Bool.not_true, Bool.not_false, HO.lst.injEq, HO.tup.injEq, reduceCtorEq, Int.reduceToNat, Int.reduceLT, Int.reduceLE, Nat.reduceAdd, Int.cast_ofNat_Int, gi_c0, gi_c1, gi_c2, gi_c3, Int.natCast_inj, map_int_inj, map_nil_iff, List.cons.injEq, exists_eq_left, exists_eq_left', exists_eq, exists_eq', exists_and_left, exists_and_right, exists_const, and_assoc, and_true, true_and, and_false, false_and, or_false, false_or, or_true, true_or, ite_true, ite_false, if_true, if_false, Bool.false_eq_true, own_cons, own_nil, le1, le2, le3, le4, me_cons, me_nil, List.length_map, List.length_cons, List.length_nil, ne_eq, not_false_eq_true, not_true_eq_false, decide_eq_true_eq]
        exact k' G (Same.refl G)
      · refine ⟨A, rfl, _, eA, fun l nl => ?_⟩
        have s1 := sm.trans (same_upd (o := TI ((List.range (n + 1)).map fun _ => (0 : Int))) nl)
        have D2 := D1.same s1
        have el : upd G l (TI ((List.range (n + 1)).map fun _ => (0 : Int))) l = some (TI ((List.range (n + 1)).map fun _ => (0 : Int))) := upd_same
        have ld : l ≠ d := not_dice D1 (free_of sm nl)
        have fl : H l = none := free_ex ex1 D1 (free_of sm nl)
        refine ⟨d, 3, rfl, D2, by omega, by omega, fun H2 o ex2 D3 o0 o1 => ⟨o, rfl, by omega, by omega, ?_⟩⟩
        refine loop_range (fun i σ' H' => (∃ r ns y, σ' = [some (V.ref d), some (V.int (n : Nat)), some (V.int x), none, none, some (V.ref r), y, none] ∧ H r = none ∧ H' r = some (TI ns) ∧ ns.length = n + 1 ∧ Bd ((i : Int) * (4 * 6 ^ 12)) ns) ∧ Exc d H H' ∧ Dc H' d) ⟨⟨l, _, none, rfl, fl, ex2 _ _ ld el, by simp, fun m hm => ?_⟩, (ex1.trans (.same s1)).trans ex2, D3⟩ (fun i σ' G2 hi hP => ?_) (fun σ' G2 hP => ?_)
        · obtain ⟨_, _, rfl⟩ := List.mem_map.mp hm
          omega
        · obtain ⟨⟨r, ns, y, e, nr, er, ln, bn⟩, ex, dc⟩ := hP
          subst e
          have rd := not_dice hD nr
          simp only [ap_seq, ap_next, ap_asg, ap_gName, ap_ret, ap_retN, ap_drop, ap_ifS, ap_break, ap_cont, ap_par, ap_aug, ap_ip, ap_gSub, ap_gTup, ap_gNil, ap_gCons, ap_var, ap_c, ap_op, ap_un, ap_if, ap_test, ap_B, ap_and, ap_or, ap_not, ap_andV, ap_orV, ap_notV, ap_nil, ap_cons, ap_tup, ap_lst, ap_cb, ap_bm, ap_call, ap_chain, ap_rI, ap_rI0, ap_rU, ap_rEq, ap_rNe, ap_revT, ap_sl, ap_part, ap_noPart, ap_ixLI, ap_ixTI, ap_ixLV, ap_ixTV, ap_len, ap_setLI, ap_setLV, ap_appI, ap_appV, ap_tupL, ap_listS, ap_sumLI, ap_sumTI, ap_repLI, ap_intI, ap_intB, ap_eqTI, ap_neTI, ap_eqLI, ap_neLI, ap_isi, ap_for, ap_rng1, ap_rng2, ap_iList, ap_iTup, ap_lc, ap_yes, ap_cut, ap_gTupH, ap_fmt, ap_jsn, ap_jsc, ap_gcd, ap_isqrt, ap_ixL, tyV_l, wipe_nil, wipe_cons, upd_same, ap_iEnT, ap_iEnL, ap_iZipA, ap_all, ap_tupT, ap_attF, ap_makeL, ap_att, ap_prop, ap_isO, ap_bin, ap_ne, ap_meth, ap_make, ins_inj, FE_inj, ap_slI, ap_catI, ap_perm, ap_lenO, ap_strO, ap_listO, ap_reprB, ap_iterT, ap_neT, ap_negO, ap_binI, ap_catL, ap_tM1, ap_repTI, ap_popN, ap_par3, ap_catTT, ap_repTA, ap_countT, ap_notInT, ap_repL1, ap_cm, ap_shl, ap_shr, ap_mask, ap_comb, ap_bits, ap_rng3, List.set_cons_zero, List.set_cons_succ, List.getElem?_cons_zero, List.getElem?_cons_succ, List.cons_append, List.nil_append, List.append_nil, Option.some.injEq, V.int.injEq, V.ref.injEq, V.bl.injEq, V.str.injEq, V.ty.injEq, Bool.not_true, Bool.not_false, HO.lst.injEq, HO.tup.injEq, reduceCtorEq, Int.reduceToNat, Int.reduceLT, Int.reduceLE, Nat.reduceAdd, Int.cast_ofNat_Int, gi_c0, gi_c1, gi_c2, gi_c3, Int.natCast_inj, map_int_inj, map_nil_iff, List.cons.injEq, exists_eq_left, exists_eq_left', exists_eq, exists_eq', exists_and_left, exists_and_right, exists_const, and_assoc, and_true, true_and, and_false, false_and, or_false, false_or, or_true, true_or, ite_true, ite_false, if_true, if_false, Bool.false_eq_true, own_cons, own_nil, le1, le2, le3, le4, me_cons, me_nil, List.length_map, List.length_cons, List.length_nil, ne_eq, not_false_eq_true, not_true_eq_false, decide_eq_true_eq]
          refine ⟨d, 3, rfl, dc, by omega, by omega, fun H3 p a b ex3 D3 np ep pt => ?_⟩
          have lp := point_l1 pt
          have po := pow_ok (ns := [a, b]) rfl lp (k := n) hn
          simp only [ap_seq, ap_next, ap_asg, ap_gName, ap_ret, ap_retN, ap_drop, ap_ifS, ap_break, ap_cont, ap_par, ap_aug, ap_ip, ap_gSub, ap_gTup, ap_gNil, ap_gCons, ap_var, ap_c, ap_op, ap_un, ap_if, ap_test, ap_B, ap_and, ap_or, ap_not, ap_andV, ap_orV, ap_notV, ap_nil, ap_cons, ap_tup, ap_lst, ap_cb, ap_bm, ap_call, ap_chain, ap_rI, ap_rI0, ap_rU, ap_rEq, ap_rNe, ap_revT, ap_sl, ap_part, ap_noPart, ap_ixLI, ap_ixTI, ap_ixLV, ap_ixTV, ap_len, ap_setLI, ap_setLV, ap_appI, ap_appV, ap_tupL, ap_listS, ap_sumLI, ap_sumTI, ap_repLI, ap_intI, ap_intB, ap_eqTI, ap_neTI, ap_eqLI, ap_neLI, ap_isi, ap_for, ap_rng1, ap_rng2, ap_iList, ap_iTup, ap_lc, ap_yes, ap_cut, ap_gTupH, ap_fmt, ap_jsn, ap_jsc, ap_gcd, ap_isqrt, ap_ixL, tyV_l, wipe_nil, wipe_cons, upd_same, ap_iEnT, ap_iEnL, ap_iZipA, ap_all, ap_tupT, ap_attF, ap_makeL, ap_att, ap_prop, ap_isO, ap_bin, ap_ne, ap_meth, ap_make, ins_inj, FE_inj, ap_slI, ap_catI, ap_perm, ap_lenO, ap_strO, ap_listO, ap_reprB, ap_iterT, ap_neT, ap_negO, ap_binI, ap_catL, ap_tM1, ap_repTI, ap_popN, ap_par3, ap_catTT, ap_repTA, ap_countT, ap_notInT, ap_repL1, ap_cm, ap_shl, ap_shr, ap_mask, ap_comb, ap_bits, ap_rng3, List.set_cons_zero, List.set_cons_succ, List.getElem?_cons_zero, List.getElem?_cons_succ, List.cons_append, List.nil_append, List.append_nil, Option.some.injEq, V.int.injEq, V.ref.injEq, V.bl.injEq, V.str.injEq, V.ty.injEq, Bool.not_true, Bool.not_false, HO.lst.injEq, HO.tup.injEq, reduceCtorEq, Int.reduceToNat, Int.reduceLT, Int.reduceLE, Nat.reduceAdd, Int.cast_ofNat_Int, gi_c0, gi_c1, gi_c2, gi_c3, Int.natCast_inj, map_int_inj, map_nil_iff, List.cons.injEq, exists_eq_left, exists_eq_left', exists_eq, exists_eq', exists_and_left, exists_and_right, exists_const, and_assoc, and_true, true_and, and_false, false_and, or_false, false_or, or_true, true_or, ite_true, ite_false, if_true, if_false, Bool.false_eq_true, own_cons, own_nil, le1, le2, le3, le4, me_cons, me_nil, List.length_map, List.length_cons, List.length_nil, ne_eq, not_false_eq_true, not_true_eq_false, decide_eq_true_eq]
          refine ⟨p, [a, b], n, rfl, ep, by show 0 < 2; omega, by show 2 < 1000; omega, by omega, fun j hj => ⟨by rw [(pow_ok (ns := [a, b]) rfl lp (k := j) (by omega)).1]; omega, fun m hm => (pow_wd (ns := [a, b]) rfl lp (k := j) (by omega) m hm).wd⟩, fun m hm => (l1_wd lp (by omega) m hm).wd, fun H4 q s4 nq eq => ?_⟩
          have D4 := D3.same s4
          simp only [ap_seq, ap_next, ap_asg, ap_gName, ap_ret, ap_retN, ap_drop, ap_ifS, ap_break, ap_cont, ap_par, ap_aug, ap_ip, ap_gSub, ap_gTup, ap_gNil, ap_gCons, ap_var, ap_c, ap_op, ap_un, ap_if, ap_test, ap_B, ap_and, ap_or, ap_not, ap_andV, ap_orV, ap_notV, ap_nil, ap_cons, ap_tup, ap_lst, ap_cb, ap_bm, ap_call, ap_chain, ap_rI, ap_rI0, ap_rU, ap_rEq, ap_rNe, ap_revT, ap_sl, ap_part, ap_noPart, ap_ixLI, ap_ixTI, ap_ixLV, ap_ixTV, ap_len, ap_setLI, ap_setLV, ap_appI, ap_appV, ap_tupL, ap_listS, ap_sumLI, ap_sumTI, ap_repLI, ap_intI, ap_intB, ap_eqTI, ap_neTI, ap_eqLI, ap_neLI, ap_isi, ap_for, ap_rng1, ap_rng2, ap_iList, ap_iTup, ap_lc, ap_yes, ap_cut, ap_gTupH, ap_fmt, ap_jsn, ap_jsc, ap_gcd, ap_isqrt, ap_ixL, tyV_l, wipe_nil, wipe_cons, upd_same, ap_iEnT, ap_iEnL, ap_iZipA, ap_all, ap_tupT, ap_attF, ap_makeL, ap_att, ap_prop, ap_isO, ap_bin, ap_ne, ap_meth, ap_make, ins_inj, FE_inj, ap_slI, ap_catI, ap_perm, ap_lenO, ap_strO, ap_listO, ap_reprB, ap_iterT, ap_neT, ap_negO, ap_binI, ap_catL, ap_tM1, ap_repTI, ap_popN, ap_par3, ap_catTT, ap_repTA, ap_countT, ap_notInT, ap_repL1, ap_cm, ap_shl, ap_shr, ap_mask, ap_comb, ap_bits, ap_rng3, List.set_cons_zero, List.set_cons_succ, List.getElem?_cons_zero, List.getElem?_cons_succ, List.cons_append, List.nil_append, List.append_nil, Option.some.injEq, V.int.injEq, V.ref.injEq, V.bl.injEq, V.str.injEq, V.ty.injEq, Bool.not_true, Bool.not_false, HO.lst.injEq, HO.tup.injEq, reduceCtorEq, Int.reduceToNat, Int.reduceLT, Int.reduceLE, Nat.reduceAdd, Int.cast_ofNat_Int, gi_c0, gi_c1, gi_c2, gi_c3, Int.natCast_inj, map_int_inj, map_nil_iff, List.cons.injEq, exists_eq_left, exists_eq_left', exists_eq, exists_eq', exists_and_left, exists_and_right, exists_const, and_assoc, and_true, true_and, and_false, false_and, or_false, false_or, or_true, true_or, ite_true, ite_false, if_true, if_false, Bool.false_eq_true, own_cons, own_nil, le1, le2, le3, le4, me_cons, me_nil, List.length_map, List.length_cons, List.length_nil, ne_eq, not_false_eq_true, not_true_eq_false, decide_eq_true_eq]
          refine ⟨d, 4, rfl, D4, by omega, by omega, fun H5 f ex5 D5 f0 f1 => ?_⟩
          simp only [ap_seq, ap_next, ap_asg, ap_gName, ap_ret, ap_retN, ap_drop, ap_ifS, ap_break, ap_cont, ap_par, ap_aug, ap_ip, ap_gSub, ap_gTup, ap_gNil, ap_gCons, ap_var, ap_c, ap_op, ap_un, ap_if, ap_test, ap_B, ap_and, ap_or, ap_not, ap_andV, ap_orV, ap_notV, ap_nil, ap_cons, ap_tup, ap_lst, ap_cb, ap_bm, ap_call, ap_chain, ap_rI, ap_rI0, ap_rU, ap_rEq, ap_rNe, ap_revT, ap_sl, ap_part, ap_noPart, ap_ixLI, ap_ixTI, ap_ixLV, ap_ixTV, ap_len, ap_setLI, ap_setLV, ap_appI, ap_appV, ap_tupL, ap_listS, ap_sumLI, ap_sumTI, ap_repLI, ap_intI, ap_intB, ap_eqTI, ap_neTI, ap_eqLI, ap_neLI, ap_isi, ap_for, ap_rng1, ap_rng2, ap_iList, ap_iTup, ap_lc, ap_yes, ap_cut, ap_gTupH, ap_fmt, ap_jsn, ap_jsc, ap_gcd, ap_isqrt, ap_ixL, tyV_l, wipe_nil, wipe_cons, upd_same, ap_iEnT, ap_iEnL, ap_iZipA, ap_all, ap_tupT, ap_attF, ap_makeL, ap_att, ap_prop, ap_isO, ap_bin, ap_ne, ap_meth, ap_make, ins_inj, FE_inj, ap_slI, ap_catI, ap_perm, ap_lenO, ap_strO, ap_listO, ap_reprB, ap_iterT, ap_neT, ap_negO, ap_binI, ap_catL, ap_tM1, ap_repTI, ap_popN, ap_par3, ap_catTT, ap_repTA, ap_countT, ap_notInT, ap_repL1, ap_cm, ap_shl, ap_shr, ap_mask, ap_comb, ap_bits, ap_rng3, List.set_cons_zero, List.set_cons_succ, List.getElem?_cons_zero, List.getElem?_cons_succ, List.cons_append, List.nil_append, List.append_nil, Option.some.injEq, V.int.injEq, V.ref.injEq, V.bl.injEq, V.str.injEq, V.ty.injEq, Bool.not_true, Bool.not_false, HO.lst.injEq, HO.tup.injEq, reduceCtorEq, Int.reduceToNat, Int.reduceLT, Int.reduceLE, Nat.reduceAdd, Int.cast_ofNat_Int, gi_c0, gi_c1, gi_c2, gi_c3, Int.natCast_inj, map_int_inj, map_nil_iff, List.cons.injEq, exists_eq_left, exists_eq_left', exists_eq, exists_eq', exists_and_left, exists_and_right, exists_const, and_assoc, and_true, true_and, and_false, false_and, or_false, false_or, or_true, true_or, ite_true, ite_false, if_true, if_false, Bool.false_eq_true, own_cons, own_nil, le1, le2, le3, le4, me_cons, me_nil, List.length_map, List.length_cons, List.length_nil, ne_eq, not_false_eq_true, not_true_eq_false, decide_eq_true_eq]
          refine ⟨q, powP [a, b] n, f, rfl, ex5 _ _ (not_dice D3 nq) eq, by omega, fun n h => (pow_wd (ns := [a, b]) rfl lp hn n h).wd, by unfold Wd; omega, fun H6 t s6 nt et => ?_⟩
          have EX := ((ex3.trans (.same s4)).trans ex5).trans (.same s6)
          simp only [ap_seq, ap_next, ap_asg, ap_gName, ap_ret, ap_retN, ap_drop, ap_ifS, ap_break, ap_cont, ap_par, ap_aug, ap_ip, ap_gSub, ap_gTup, ap_gNil, ap_gCons, ap_var, ap_c, ap_op, ap_un, ap_if, ap_test, ap_B, ap_and, ap_or, ap_not, ap_andV, ap_orV, ap_notV, ap_nil, ap_cons, ap_tup, ap_lst, ap_cb, ap_bm, ap_call, ap_chain, ap_rI, ap_rI0, ap_rU, ap_rEq, ap_rNe, ap_revT, ap_sl, ap_part, ap_noPart, ap_ixLI, ap_ixTI, ap_ixLV, ap_ixTV, ap_len, ap_setLI, ap_setLV, ap_appI, ap_appV, ap_tupL, ap_listS, ap_sumLI, ap_sumTI, ap_repLI, ap_intI, ap_intB, ap_eqTI, ap_neTI, ap_eqLI, ap_neLI, ap_isi, ap_for, ap_rng1, ap_rng2, ap_iList, ap_iTup, ap_lc, ap_yes, ap_cut, ap_gTupH, ap_fmt, ap_jsn, ap_jsc, ap_gcd, ap_isqrt, ap_ixL, tyV_l, wipe_nil, wipe_cons, upd_same, ap_iEnT, ap_iEnL, ap_iZipA, ap_all, ap_tupT, ap_attF, ap_makeL, ap_att, ap_prop, ap_isO, ap_bin, ap_ne, ap_meth, ap_make, ins_inj, FE_inj, ap_slI, ap_catI, ap_perm, ap_lenO, ap_strO, ap_listO, ap_reprB, ap_iterT, ap_neT, ap_negO, ap_binI, ap_catL, ap_tM1, ap_repTI, ap_popN, ap_par3, ap_catTT, ap_repTA, ap_countT, ap_notInT, ap_repL1, ap_cm, ap_shl, ap_shr, ap_mask, ap_comb, ap_bits, ap_rng3, List.set_cons_zero, List.set_cons_succ, List.getElem?_cons_zero, List.getElem?_cons_succ, List.cons_append, List.nil_append, List.append_nil, Option.some.injEq, V.int.injEq, V.ref.injEq, V.bl.injEq, V.str.injEq, V.ty.injEq, Bool.not_true, Bool.not_false, HO.lst.injEq, HO.tup.injEq, reduceCtorEq, Int.reduceToNat, Int.reduceLT, Int.reduceLE, Nat.reduceAdd, Int.cast_ofNat_Int, gi_c0, gi_c1, gi_c2, gi_c3, Int.natCast_inj, map_int_inj, map_nil_iff, List.cons.injEq, exists_eq_left, exists_eq_left', exists_eq, exists_eq', exists_and_left, exists_and_right, exists_const, and_assoc, and_true, true_and, and_false, false_and, or_false, false_or, or_true, true_or, ite_true, ite_false, if_true, if_false, Bool.false_eq_true, own_cons, own_nil, le1, le2, le3, le4, me_cons, me_nil, List.length_map, List.length_cons, List.length_nil, ne_eq, not_false_eq_true, not_true_eq_false, decide_eq_true_eq]
          refine ⟨r, t, ns, _, rfl, EX _ _ rd er, et, by rw [List.length_map]; omega, by omega, fun H7 u s7 nu eu => ?_⟩
          have EX2 := ex.trans EX
          have D6 := D5.same s6
          simp only [ap_seq, ap_next, ap_asg, ap_gName, ap_ret, ap_retN, ap_drop, ap_ifS, ap_break, ap_cont, ap_par, ap_aug, ap_ip, ap_gSub, ap_gTup, ap_gNil, ap_gCons, ap_var, ap_c, ap_op, ap_un, ap_if, ap_test, ap_B, ap_and, ap_or, ap_not, ap_andV, ap_orV, ap_notV, ap_nil, ap_cons, ap_tup, ap_lst, ap_cb, ap_bm, ap_call, ap_chain, ap_rI, ap_rI0, ap_rU, ap_rEq, ap_rNe, ap_revT, ap_sl, ap_part, ap_noPart, ap_ixLI, ap_ixTI, ap_ixLV, ap_ixTV, ap_len, ap_setLI, ap_setLV, ap_appI, ap_appV, ap_tupL, ap_listS, ap_sumLI, ap_sumTI, ap_repLI, ap_intI, ap_intB, ap_eqTI, ap_neTI, ap_eqLI, ap_neLI, ap_isi, ap_for, ap_rng1, ap_rng2, ap_iList, ap_iTup, ap_lc, ap_yes, ap_cut, ap_gTupH, ap_fmt, ap_jsn, ap_jsc, ap_gcd, ap_isqrt, ap_ixL, tyV_l, wipe_nil, wipe_cons, upd_same, ap_iEnT, ap_iEnL, ap_iZipA, ap_all, ap_tupT, ap_attF, ap_makeL, ap_att, ap_prop, ap_isO, ap_bin, ap_ne, ap_meth, ap_make, ins_inj, FE_inj, ap_slI, ap_catI, ap_perm, ap_lenO, ap_strO, ap_listO, ap_reprB, ap_iterT, ap_neT, ap_negO, ap_binI, ap_catL, ap_tM1, ap_repTI, ap_popN, ap_par3, ap_catTT, ap_repTA, ap_countT, ap_notInT, ap_repL1, ap_cm, ap_shl, ap_shr, ap_mask, ap_comb, ap_bits, ap_rng3, List.set_cons_zero, List.set_cons_succ, List.getElem?_cons_zero, List.getElem?_cons_succ, List.cons_append, List.nil_append, List.append_nil, Option.some.injEq, V.int.injEq, V.ref.injEq, V.bl.injEq, V.str.injEq, V.ty.injEq, Bool.not_true, Bool.not_false, HO.lst.injEq, HO.tup.injEq, reduceCtorEq, Int.reduceToNat, Int.reduceLT, Int.reduceLE, Nat.reduceAdd, Int.cast_ofNat_Int, gi_c0, gi_c1, gi_c2, gi_c3, Int.natCast_inj, map_int_inj, map_nil_iff, List.cons.injEq, exists_eq_left, exists_eq_left', exists_eq, exists_eq', exists_and_left, exists_and_right, exists_const, and_assoc, and_true, true_and, and_false, false_and, or_false, false_or, or_true, true_or, ite_true, ite_false, if_true, if_false, Bool.false_eq_true, own_cons, own_nil, le1, le2, le3, le4, me_cons, me_nil, List.length_map, List.length_cons, List.length_nil, ne_eq, not_false_eq_true, not_true_eq_false, decide_eq_true_eq]
          refine ⟨free_ex EX2 D6 nu, ⟨_, eu, by rw [List.length_zipWith, List.length_map]; omega, ?_⟩, EX2.trans (.same s7), D6.same s7⟩
          have z := zip_bd bn (scale_bd (by omega) ⟨f0, f1⟩ (l1_B po.2))
          intro m hm
          have zz := z m hm
          have e6 : ((6 ^ 12 : Nat) : Int) = 6 ^ 12 := by decide
          rw [e6] at zz
          omega
        · obtain ⟨⟨r, ns, y, e, nr, er, ln, bn⟩, ex, dc⟩ := hP
          subst e
          simp only [ap_seq, ap_next, ap_asg, ap_gName, ap_ret, ap_retN, ap_drop, ap_ifS, ap_break, ap_cont, ap_par, ap_aug, ap_ip, ap_gSub, ap_gTup, ap_gNil, ap_gCons, ap_var, ap_c, ap_op, ap_un, ap_if, ap_test, ap_B, ap_and, ap_or, ap_not, ap_andV, ap_orV, ap_notV, ap_nil, ap_cons, ap_tup, ap_lst, ap_cb, ap_bm, ap_call, ap_chain, ap_rI, ap_rI0, ap_rU, ap_rEq, ap_rNe, ap_revT, ap_sl, ap_part, ap_noPart, ap_ixLI, ap_ixTI, ap_ixLV, ap_ixTV, ap_len, ap_setLI, ap_setLV, ap_appI, ap_appV, ap_tupL, ap_listS, ap_sumLI, ap_sumTI, ap_repLI, ap_intI, ap_intB, ap_eqTI, ap_neTI, ap_eqLI, ap_neLI, ap_isi, ap_for, ap_rng1, ap_rng2, ap_iList, ap_iTup, ap_lc, ap_yes, ap_cut, ap_gTupH, ap_fmt, ap_jsn, ap_jsc, ap_gcd, ap_isqrt, ap_ixL, tyV_l, wipe_nil, wipe_cons, upd_same, ap_iEnT, ap_iEnL, ap_iZipA, ap_all, ap_tupT, ap_attF, ap_makeL, ap_att, ap_prop, ap_isO, ap_bin, ap_ne, ap_meth, ap_make, ins_inj, FE_inj, ap_slI, ap_catI, ap_perm, ap_lenO, ap_strO, ap_listO, ap_reprB, ap_iterT, ap_neT, ap_negO, ap_binI, ap_catL, ap_tM1, ap_repTI, ap_popN, ap_par3, ap_catTT, ap_repTA, ap_countT, ap_notInT, ap_repL1, ap_cm, ap_shl, ap_shr, ap_mask, ap_comb, ap_bits, ap_rng3, List.set_cons_zero, List.set_cons_succ, List.getElem?_cons_zero, List.getElem?_cons_succ, List.cons_append, List.nil_append, List.append_nil, Option.some.injEq, V.int.injEq, V.ref.injEq, V.bl.injEq, V.str.injEq, V.ty.injEq, Bool.not_true, Bool.not_false, HO.lst.injEq, HO.tup.injEq, reduceCtorEq, Int.reduceToNat, Int.reduceLT, Int.reduceLE, Nat.reduceAdd, Int.cast_ofNat_Int, gi_c0, gi_c1, gi_c2, gi_c3, Int.natCast_inj, map_int_inj, map_nil_iff, List.cons.injEq, exists_eq_left, exists_eq_left', exists_eq, exists_eq', exists_and_left, exists_and_right, exists_const, and_assoc, and_true, true_and, and_false, false_and, or_false, false_or, or_true, true_or, ite_true, ite_false, if_true, if_false, Bool.false_eq_true, own_cons, own_nil, le1, le2, le3, le4, me_cons, me_nil, List.length_map, List.length_cons, List.length_nil, ne_eq, not_false_eq_true, not_true_eq_false, decide_eq_true_eq]
          refine k G2 r ns ex dc nr ⟨ln, fun m hm => ?_⟩ er
          have b := bn m hm
          omega
    refine ⟨rfl, iteC (fun c => ?_) (fun _ => ?_)⟩
    · have en : ((n : Int) + 1).toNat = n + 1 := by omega
      rw [en]
      refine ⟨by omega, by omega, lc_rangeR (fun x => -3 ≤ x ∧ x ≤ 3) (by omega) D1 (fun x => rfl) (fun i H2 hi ex2 D2 Q' k' => ?_) (fun A H2 ns nA ex2 D2 l r e => ?_)⟩
      · simp only [ap_seq, ap_next, ap_asg, ap_gName, ap_ret, ap_retN, ap_drop, ap_ifS, ap_break, ap_cont, ap_par, ap_aug, ap_ip, ap_gSub, ap_gTup, ap_gNil, ap_gCons, ap_var, ap_c, ap_op, ap_un, ap_if, ap_test, ap_B, ap_and, ap_or, ap_not, ap_andV, ap_orV, ap_notV, ap_nil, ap_cons, ap_tup, ap_lst, ap_cb, ap_bm, ap_call, ap_chain, ap_rI, ap_rI0, ap_rU, ap_rEq, ap_rNe, ap_revT, ap_sl, ap_part, ap_noPart, ap_ixLI, ap_ixTI, ap_ixLV, ap_ixTV, ap_len, ap_setLI, ap_setLV, ap_appI, ap_appV, ap_tupL, ap_listS, ap_sumLI, ap_sumTI, ap_repLI, ap_intI, ap_intB, ap_eqTI, ap_neTI, ap_eqLI, ap_neLI, ap_isi, ap_for, ap_rng1, ap_rng2, ap_iList, ap_iTup, ap_lc, ap_yes, ap_cut, ap_gTupH, ap_fmt, ap_jsn, ap_jsc, ap_gcd, ap_isqrt, ap_ixL, tyV_l, wipe_nil, wipe_cons, upd_same, ap_iEnT, ap_iEnL, ap_iZipA, ap_all, ap_tupT, ap_attF, ap_makeL, ap_att, ap_prop, ap_isO, ap_bin, ap_ne, ap_meth, ap_make, ins_inj, FE_inj, ap_slI, ap_catI, ap_perm, ap_lenO, ap_strO, ap_listO, ap_reprB, ap_iterT, ap_neT, ap_negO, ap_binI, ap_catL, ap_tM1, ap_repTI, ap_popN, ap_par3, ap_catTT, ap_repTA, ap_countT, ap_notInT, ap_repL1, ap_cm, ap_shl, ap_shr, ap_mask, ap_comb, ap_bits, ap_rng3, List.set_cons_zero, List.set_cons_succ, List.getElem?_cons_zero, List.getElem?_cons_succ, List.cons_append, List.nil_append, List.append_nil, Option.some.injEq, V.int.injEq, V.ref.injEq, V.bl.injEq, V.str.injEq, V.ty.injEq, Bool.not_true, Bool.not_false, HO.lst.injEq, HO.tup.injEq, reduceCtorEq, Int.reduceToNat, Int.reduceLT, Int.reduceLE, Nat.reduceAdd, Int.cast_ofNat_Int, gi_c0, gi_c1, gi_c2, gi_c3, Int.natCast_inj, map_int_inj, map_nil_iff, List.cons.injEq, exists_eq_left, exists_eq_left', exists_eq, exists_eq', exists_and_left, exists_and_right, exists_const, and_assoc, and_true, true_and, and_false, false_and, or_false, false_or, or_true, true_or, ite_true, ite_false, if_true, if_false, Bool.false_eq_true, own_cons, own_nil, le1, le2, le3, le4, me_cons, me_nil, List.length_map, List.length_cons, List.length_nil, ne_eq, not_false_eq_true, not_true_eq_false, decide_eq_true_eq]
        refine ⟨d, 3, rfl, D2, by omega, by omega, fun H3 u ex3 D3 u0 u1 => ?_⟩
        simp only [ap_seq, ap_next, ap_asg, ap_gName, ap_ret, ap_retN, ap_drop, ap_ifS, ap_break, ap_cont, ap_par, ap_aug, ap_ip, ap_gSub, ap_gTup, ap_gNil, ap_gCons, ap_var, ap_c, ap_op, ap_un, ap_if, ap_test, ap_B, ap_and, ap_or, ap_not, ap_andV, ap_orV, ap_notV, ap_nil, ap_cons, ap_tup, ap_lst, ap_cb, ap_bm, ap_call, ap_chain, ap_rI, ap_rI0, ap_rU, ap_rEq, ap_rNe, ap_revT, ap_sl, ap_part, ap_noPart, ap_ixLI, ap_ixTI, ap_ixLV, ap_ixTV, ap_len, ap_setLI, ap_setLV, ap_appI, ap_appV, ap_tupL, ap_listS, ap_sumLI, ap_sumTI, ap_repLI, ap_intI, ap_intB, ap_eqTI, ap_neTI, ap_eqLI, ap_neLI, ap_isi, ap_for, ap_rng1, ap_rng2, ap_iList, ap_iTup, ap_lc, ap_yes, ap_cut, ap_gTupH, ap_fmt, ap_jsn, ap_jsc, ap_gcd, ap_isqrt, ap_ixL, tyV_l, wipe_nil, wipe_cons, upd_same, ap_iEnT, ap_iEnL, ap_iZipA, ap_all, ap_tupT, ap_attF, ap_makeL, ap_att, ap_prop, ap_isO, ap_bin, ap_ne, ap_meth, ap_make, ins_inj, FE_inj, ap_slI, ap_catI, ap_perm, ap_lenO, ap_strO, ap_listO, ap_reprB, ap_iterT, ap_neT, ap_negO, ap_binI, ap_catL, ap_tM1, ap_repTI, ap_popN, ap_par3, ap_catTT, ap_repTA, ap_countT, ap_notInT, ap_repL1, ap_cm, ap_shl, ap_shr, ap_mask, ap_comb, ap_bits, ap_rng3, List.set_cons_zero, List.set_cons_succ, List.getElem?_cons_zero, List.getElem?_cons_succ, List.cons_append, List.nil_append, List.append_nil, Option.some.injEq, V.int.injEq, V.ref.injEq, V.bl.injEq, V.str.injEq, V.ty.injEq, Bool.not_true, Bool.not_false, HO.lst.injEq, HO.tup.injEq, reduceCtorEq, Int.reduceToNat, Int.reduceLT, Int.reduceLE, Nat.reduceAdd, Int.cast_ofNat_Int, gi_c0, gi_c1, gi_c2, gi_c3, Int.natCast_inj, map_int_inj, map_nil_iff, List.cons.injEq, exists_eq_left, exists_eq_left', exists_eq, exists_eq', exists_and_left, exists_and_right, exists_const, and_assoc, and_true, true_and, and_false, false_and, or_false, false_or, or_true, true_or, ite_true, ite_false, if_true, if_false, Bool.false_eq_true, own_cons, own_nil, le1, le2, le3, le4, me_cons, me_nil, List.length_map, List.length_cons, List.length_nil, ne_eq, not_false_eq_true, not_true_eq_false, decide_eq_true_eq]
        refine ⟨d, 2, rfl, D3, by omega, by omega, fun H4 v ex4 D4 v0 v1 => ?_⟩
        simp only [ap_seq, ap_next, ap_asg, ap_gName, ap_ret, ap_retN, ap_drop, ap_ifS, ap_break, ap_cont, ap_par, ap_aug, ap_ip, ap_gSub, ap_gTup, ap_gNil, ap_gCons, ap_var, ap_c, ap_op, ap_un, ap_if, ap_test, ap_B, ap_and, ap_or, ap_not, ap_andV, ap_orV, ap_notV, ap_nil, ap_cons, ap_tup, ap_lst, ap_cb, ap_bm, ap_call, ap_chain, ap_rI, ap_rI0, ap_rU, ap_rEq, ap_rNe, ap_revT, ap_sl, ap_part, ap_noPart, ap_ixLI, ap_ixTI, ap_ixLV, ap_ixTV, ap_len, ap_setLI, ap_setLV, ap_appI, ap_appV, ap_tupL, ap_listS, ap_sumLI, ap_sumTI, ap_repLI, ap_intI, ap_intB, ap_eqTI, ap_neTI, ap_eqLI, ap_neLI, ap_isi, ap_for, ap_rng1, ap_rng2, ap_iList, ap_iTup, ap_lc, ap_yes, ap_cut, ap_gTupH, ap_fmt, ap_jsn, ap_jsc, ap_gcd, ap_isqrt, ap_ixL, tyV_l, wipe_nil, wipe_cons, upd_same, ap_iEnT, ap_iEnL, ap_iZipA, ap_all, ap_tupT, ap_attF, ap_makeL, ap_att, ap_prop, ap_isO, ap_bin, ap_ne, ap_meth, ap_make, ins_inj, FE_inj, ap_slI, ap_catI, ap_perm, ap_lenO, ap_strO, ap_listO, ap_reprB, ap_iterT, ap_neT, ap_negO, ap_binI, ap_catL, ap_tM1, ap_repTI, ap_popN, ap_par3, ap_catTT, ap_repTA, ap_countT, ap_notInT, ap_repL1, ap_cm, ap_shl, ap_shr, ap_mask, ap_comb, ap_bits, ap_rng3, List.set_cons_zero, List.set_cons_succ, List.getElem?_cons_zero, List.getElem?_cons_succ, List.cons_append, List.nil_append, List.append_nil, Option.some.injEq, V.int.injEq, V.ref.injEq, V.bl.injEq, V.str.injEq, V.ty.injEq, Bool.not_true, Bool.not_false, HO.lst.injEq, HO.tup.injEq, reduceCtorEq, Int.reduceToNat, Int.reduceLT, Int.reduceLE, Nat.reduceAdd, Int.cast_ofNat_Int, gi_c0, gi_c1, gi_c2, gi_c3, Int.natCast_inj, map_int_inj, map_nil_iff, List.cons.injEq, exists_eq_left, exists_eq_left', exists_eq, exists_eq', exists_and_left, exists_and_right, exists_const, and_assoc, and_true, true_and, and_false, false_and, or_false, false_or, or_true, true_or, ite_true, ite_false, if_true, if_false, Bool.false_eq_true, own_cons, own_nil, le1, le2, le3, le4, me_cons, me_nil, List.length_map, List.length_cons, List.length_nil, ne_eq, not_false_eq_true, not_true_eq_false, decide_eq_true_eq, CMu]
        refine ⟨by omega, by omega, by omega, by omega, k' H4 _ (ex3.trans ex4) D4 ?_⟩
        rcases (show v = 0 ∨ v = 1 by omega) with rfl | rfl
        · omega
        · omega
      · refine ⟨A, rfl, _, e, fun t nt => ?_⟩
        have EX := ex1.trans ex2
        exact k _ t ns (EX.trans (.same (same_upd nt))) (D2.same (same_upd nt)) (free_ex EX D2 nt) ⟨l, fun m hm => by have := r m hm; omega⟩ upd_same
    have small : ∀ H2, Exc d H1 H2 → Dc H2 d → sp_law_small_form [V.ref d, V.int (n : Nat), V.int 6] H2 Q E0 := fun H2 ex2 D2 =>
      ⟨d, n, 6, rfl, D2, by omega, by omega, by omega, fun H3 r ns ex3 D3 nr ln bn er => k H3 r ns ((ex1.trans ex2).trans ex3) D3 (free_ex (ex1.trans ex2) D2 nr) ⟨ln, fun m hm => by have := bn m hm; omega⟩ er⟩
    refine ⟨rfl, iteC (fun c => ?_) (fun _ => small H1 Exc.refl D1)⟩
    refine ⟨d, 4, rfl, D1, by omega, by omega, fun H2 z ex2 D2 z0 z1 => ?_⟩
    simp only [ap_seq, ap_next, ap_asg, ap_gName, ap_ret, ap_retN, ap_drop, ap_ifS, ap_break, ap_cont, ap_par, ap_aug, ap_ip, ap_gSub, ap_gTup, ap_gNil, ap_gCons, ap_var, ap_c, ap_op, ap_un, ap_if, ap_test, ap_B, ap_and, ap_or, ap_not, ap_andV, ap_orV, ap_notV, ap_nil, ap_cons, ap_tup, ap_lst, ap_cb, ap_bm, ap_call, ap_chain, ap_rI, ap_rI0, ap_rU, ap_rEq, ap_rNe, ap_revT, ap_sl, ap_part, ap_noPart, ap_ixLI, ap_ixTI, ap_ixLV, ap_ixTV, ap_len, ap_setLI, ap_setLV, ap_appI, ap_appV, ap_tupL, ap_listS, ap_sumLI, ap_sumTI, ap_repLI, ap_intI, ap_intB, ap_eqTI, ap_neTI, ap_eqLI, ap_neLI, ap_isi, ap_for, ap_rng1, ap_rng2, ap_iList, ap_iTup, ap_lc, ap_yes, ap_cut, ap_gTupH, ap_fmt, ap_jsn, ap_jsc, ap_gcd, ap_isqrt, ap_ixL, tyV_l, wipe_nil, wipe_cons, upd_same, ap_iEnT, ap_iEnL, ap_iZipA, ap_all, ap_tupT, ap_attF, ap_makeL, ap_att, ap_prop, ap_isO, ap_bin, ap_ne, ap_meth, ap_make, ins_inj, FE_inj, ap_slI, ap_catI, ap_perm, ap_lenO, ap_strO, ap_listO, ap_reprB, ap_iterT, ap_neT, ap_negO, ap_binI, ap_catL, ap_tM1, ap_repTI, ap_popN, ap_par3, ap_catTT, ap_repTA, ap_countT, ap_notInT, ap_repL1, ap_cm, ap_shl, ap_shr, ap_mask, ap_comb, ap_bits, ap_rng3, List.set_cons_zero, List.set_cons_succ, List.getElem?_cons_zero, List.getElem?_cons_succ, List.cons_append, List.nil_append, List.append_nil, Option.some.injEq, V.int.injEq, V.ref.injEq, V.bl.injEq, V.str.injEq, V.ty.injEq, Bool.not_true, Bool.not_false, HO.lst.injEq, HO.tup.injEq, reduceCtorEq, Int.reduceToNat, Int.reduceLT, Int.reduceLE, Nat.reduceAdd, Int.cast_ofNat_Int, gi_c0, gi_c1, gi_c2, gi_c3, Int.natCast_inj, map_int_inj, map_nil_iff, List.cons.injEq, exists_eq_left, exists_eq_left', exists_eq, exists_eq', exists_and_left, exists_and_right, exists_const, and_assoc, and_true, true_and, and_false, false_and, or_false, false_or, or_true, true_or, ite_true, ite_false, if_true, if_false, Bool.false_eq_true, own_cons, own_nil, le1, le2, le3, le4, me_cons, me_nil, List.length_map, List.length_cons, List.length_nil, ne_eq, not_false_eq_true, not_true_eq_false, decide_eq_true_eq]
    refine ⟨rfl, iteC (fun c => ?_) (fun _ => small H2 ex2 D2)⟩
    have en : ((n : Int) + 1).toNat = n + 1 := by omega
    rw [en]
    refine ⟨by omega, by omega, lc_rangeR (fun x => -(10 ^ 12) ≤ x ∧ x ≤ 10 ^ 12) (by omega) D2 (fun x => rfl) (fun i H3 hi ex3 D3 Q' k' => ?_) (fun A H3 ns nA ex3 D3 l r e => ?_)⟩
    · simp only [ap_seq, ap_next, ap_asg, ap_gName, ap_ret, ap_retN, ap_drop, ap_ifS, ap_break, ap_cont, ap_par, ap_aug, ap_ip, ap_gSub, ap_gTup, ap_gNil, ap_gCons, ap_var, ap_c, ap_op, ap_un, ap_if, ap_test, ap_B, ap_and, ap_or, ap_not, ap_andV, ap_orV, ap_notV, ap_nil, ap_cons, ap_tup, ap_lst, ap_cb, ap_bm, ap_call, ap_chain, ap_rI, ap_rI0, ap_rU, ap_rEq, ap_rNe, ap_revT, ap_sl, ap_part, ap_noPart, ap_ixLI, ap_ixTI, ap_ixLV, ap_ixTV, ap_len, ap_setLI, ap_setLV, ap_appI, ap_appV, ap_tupL, ap_listS, ap_sumLI, ap_sumTI, ap_repLI, ap_intI, ap_intB, ap_eqTI, ap_neTI, ap_eqLI, ap_neLI, ap_isi, ap_for, ap_rng1, ap_rng2, ap_iList, ap_iTup, ap_lc, ap_yes, ap_cut, ap_gTupH, ap_fmt, ap_jsn, ap_jsc, ap_gcd, ap_isqrt, ap_ixL, tyV_l, wipe_nil, wipe_cons, upd_same, ap_iEnT, ap_iEnL, ap_iZipA, ap_all, ap_tupT, ap_attF, ap_makeL, ap_att, ap_prop, ap_isO, ap_bin, ap_ne, ap_meth, ap_make, ins_inj, FE_inj, ap_slI, ap_catI, ap_perm, ap_lenO, ap_strO, ap_listO, ap_reprB, ap_iterT, ap_neT, ap_negO, ap_binI, ap_catL, ap_tM1, ap_repTI, ap_popN, ap_par3, ap_catTT, ap_repTA, ap_countT, ap_notInT, ap_repL1, ap_cm, ap_shl, ap_shr, ap_mask, ap_comb, ap_bits, ap_rng3, List.set_cons_zero, List.set_cons_succ, List.getElem?_cons_zero, List.getElem?_cons_succ, List.cons_append, List.nil_append, List.append_nil, Option.some.injEq, V.int.injEq, V.ref.injEq, V.bl.injEq, V.str.injEq, V.ty.injEq, Bool.not_true, Bool.not_false, HO.lst.injEq, HO.tup.injEq, reduceCtorEq, Int.reduceToNat, Int.reduceLT, Int.reduceLE, Nat.reduceAdd, Int.cast_ofNat_Int, gi_c0, gi_c1, gi_c2, gi_c3, Int.natCast_inj, map_int_inj, map_nil_iff, List.cons.injEq, exists_eq_left, exists_eq_left', exists_eq, exists_eq', exists_and_left, exists_and_right, exists_const, and_assoc, and_true, true_and, and_false, false_and, or_false, false_or, or_true, true_or, ite_true, ite_false, if_true, if_false, Bool.false_eq_true, own_cons, own_nil, le1, le2, le3, le4, me_cons, me_nil, List.length_map, List.length_cons, List.length_nil, ne_eq, not_false_eq_true, not_true_eq_false, decide_eq_true_eq]
      refine ⟨⟨by decide, by decide, by decide⟩, d, _, rfl, D3, by decide, by decide, fun H4 u ex4 D4 u0 u1 => k' H4 u ex4 D4 ⟨u0, u1⟩⟩
    · refine ⟨A, rfl, _, e, fun t nt => ?_⟩
      have EX := (ex1.trans ex2).trans ex3
      exact k _ t ns (EX.trans (.same (same_upd nt))) (D3.same (same_upd nt)) (free_ex EX D3 nt) ⟨l, fun m hm => by have := r m hm; omega⟩ upd_same
end
end My
namespace My
open PySem PySem.Spec PyProof.Rows L2 Pr
/-! ### values -/
/-- the value of a form: the sum of c x^(n-i) y^i -/
def val : List Int → Int → Int → Int
  | [], _, _ => 0
  | c :: cs, x, y => c * x ^ cs.length + y * val cs x y
theorem val_nil (x y : Int) : val [] x y = 0 := rfl
theorem val_cons (c : Int) (cs : List Int) (x y : Int) : val (c :: cs) x y = c * x ^ cs.length + y * val cs x y := rfl
theorem val_app (a b : List Int) (x y : Int) : val (a ++ b) x y = val a x y * x ^ b.length + y ^ a.length * val b x y := by
  induction a with
  | nil =>
    show val b x y = 0 * x ^ b.length + y ^ 0 * val b x y
    rw [Int.zero_mul, Int.pow_zero, Int.one_mul, Int.zero_add]
  | cons c cs ih =>
    show c * x ^ (cs ++ b).length + y * val (cs ++ b) x y = (c * x ^ cs.length + y * val cs x y) * x ^ b.length + y ^ (cs.length + 1) * val b x y
    rw [ih, List.length_append, Int.pow_add, Int.pow_succ, Int.add_mul, Int.mul_add]
    generalize val cs x y = v
    generalize val b x y = w
    generalize x ^ cs.length = p
    generalize x ^ b.length = q
    generalize y ^ cs.length = r
    grind
theorem val_snoc (a : List Int) (c x y : Int) : val (a ++ [c]) x y = val a x y * x + y ^ a.length * c := by
  rw [val_app]
  show val a x y * x ^ 1 + y ^ a.length * (c * x ^ 0 + y * 0) = _
  rw [Int.pow_zero, Int.mul_one, Int.mul_zero, Int.add_zero, Int.pow_succ, Int.pow_zero, Int.one_mul]
theorem val_zip : ∀ (a b : List Int) (x y : Int), a.length = b.length → val (List.zipWith (· + ·) a b) x y = val a x y + val b x y
  | [], [], _, _, _ => rfl
  | [], _ :: _, _, _, h => by cases h
  | _ :: _, [], _, _, h => by cases h
  | c :: cs, d :: ds, x, y, h => by
    have hl : cs.length = ds.length := by simpa using h
    rw [List.zipWith_cons_cons, val_cons, val_cons, val_cons, val_zip cs ds x y hl, List.length_zipWith, hl, Nat.min_self]
    grind
theorem val_map (m : Int) : ∀ (a : List Int) (x y : Int), val (a.map (m * ·)) x y = m * val a x y
  | [], _, _ => by rw [List.map_nil, val_nil, Int.mul_zero]
  | c :: cs, x, y => by
    rw [List.map_cons, val_cons, val_cons, val_map m cs, List.length_map]
    grind
theorem val_zeros {a : List Int} (h : ∀ c ∈ a, c = 0) (x y : Int) : val a x y = 0 := by
  induction a with
  | nil => rfl
  | cons c cs ih =>
    rw [val_cons, ih fun d hd => h d (List.mem_cons_of_mem _ hd), h c (List.mem_cons_self ..)]
    simp
/-- a row with the value 0 everywhere has entries 0 alone -/
theorem zero_of_val : ∀ (n : Nat) (a : List Int), a.length = n → (∀ x : Int, 0 < x → val a x 1 = 0) → ∀ c ∈ a, c = 0
  | 0, a, h, _ => by
    have : a = [] := List.length_eq_zero_iff.mp h
    subst this
    simp
  | n + 1, a, h, hv => by
    obtain ⟨b, c, rfl⟩ : ∃ b c, a = b ++ [c] := ⟨a.dropLast, a.getLast (by intro e; subst e; cases h), (List.dropLast_concat_getLast _).symm⟩
    have hb : b.length = n := by simpa using h
    have e : ∀ x : Int, 0 < x → val b x 1 * x + c = 0 := fun x hx => by
      have := hv x hx
      rw [val_snoc, Int.one_pow, Int.one_mul] at this
      exact this
    have c0 : c = 0 := by
      have h1 := e ((c.natAbs : Int) + 1) (by omega)
      refine Int.eq_zero_of_dvd_of_natAbs_lt_natAbs (d := (c.natAbs : Int) + 1) (show ((c.natAbs : Int) + 1) ∣ c from ⟨-val b ((c.natAbs : Int) + 1) 1, ?_⟩) (by omega)
      rw [Int.mul_neg, Int.mul_comm]
      omega
    subst c0
    have hz := zero_of_val n b hb fun x hx => by
      have := e x hx
      rw [Int.add_zero] at this
      rcases Int.mul_eq_zero.mp this with h | h
      · exact h
      · omega
    intro d hd
    rcases List.mem_append.mp hd with h | h
    · exact hz d h
    · simpa using h
theorem eq_of_val {a b : List Int} (h : a.length = b.length) (hv : ∀ x : Int, 0 < x → val a x 1 = val b x 1) : a = b := by
  have z := zero_of_val _ (List.zipWith (· + ·) a (b.map ((-1) * ·))) rfl fun x hx => by
    rw [val_zip _ _ _ _ (by rw [List.length_map]; exact h), val_map, hv x hx]
    omega
  refine List.ext_getElem h fun i h1 h2 => ?_
  have hl : i < (List.zipWith (· + ·) a (b.map ((-1) * ·))).length := by
    rw [List.length_zipWith, List.length_map]
    omega
  have := z _ (List.getElem_mem hl)
  rw [List.getElem_zipWith, List.getElem_map] at this
  omega
/-- values of products -/
def sh (b : List Int) (k N : Nat) : List Int := List.replicate k 0 ++ b ++ List.replicate (N - k - b.length) 0
theorem val_rep (k : Nat) (x y : Int) : val (List.replicate k 0) x y = 0 := val_zeros (fun c hc => (List.mem_replicate.mp hc).2) x y
theorem val_sh {b : List Int} {k N : Nat} (x y : Int) : val (sh b k N) x y = y ^ k * val b x y * x ^ (N - k - b.length) := by
  unfold sh
  rw [val_app, val_app, val_rep, val_rep, List.length_replicate, List.length_replicate, Int.zero_mul, Int.zero_add, Int.mul_zero, Int.add_zero]
theorem sh_get {b : List Int} {k N x : Nat} (hk : k + b.length ≤ N) (hx : x < N) : (sh b k N).getD x 0 = if k ≤ x then b.getD (x - k) 0 else 0 := by
  unfold sh
  by_cases h1 : x < k
  · rw [if_neg (by omega), List.append_assoc, List.getD_eq_getElem?_getD, List.getElem?_append_left (by simpa using h1)]
    simp [h1]
  · rw [if_pos (by omega)]
    by_cases h2 : x < k + b.length
    · rw [List.getD_eq_getElem?_getD, List.getElem?_append_left (by simp; omega), List.getElem?_append_right (by simp; omega), List.length_replicate, List.getD_eq_getElem?_getD]
    · rw [List.getD_eq_getElem?_getD, List.getElem?_append_right (by simp; omega), List.getD_eq_getElem?_getD, List.getElem?_eq_none (l := b) (by omega), List.getElem?_replicate]
      split <;> rfl
theorem val_cv {ns ms : List Int} {N : Nat} (hN : N + 1 = ns.length + ms.length) (hm : 0 < ms.length) (x y : Int) : ∀ i, i ≤ ns.length → val ((List.range N).map (cv ns ms i)) x y = val (ns.take i) x y * x ^ (ns.length - i) * val ms x y
  | 0, _ => by
    rw [List.take_zero, val_nil, Int.zero_mul, Int.zero_mul]
    refine val_zeros (fun c hc => ?_) x y
    obtain ⟨k, _, rfl⟩ := List.mem_map.mp hc
    rfl
  | i + 1, hi => by
    have e : (List.range N).map (cv ns ms (i + 1)) = List.zipWith (· + ·) ((List.range N).map (cv ns ms i)) ((sh ms i N).map (ns.getD i 0 * ·)) := by
      have lsh : (sh ms i N).length = N := by
        unfold sh
        simp
        omega
      refine List.ext_getElem (by simp [lsh]) fun k h1 h2 => ?_
      have hk : k < N := by simpa using h1
      rw [List.getElem_zipWith, List.getElem_map, List.getElem_map, List.getElem_map, List.getElem_range]
      have g := sh_get (b := ms) (k := i) (N := N) (x := k) (by omega) hk
      rw [List.getD_eq_getElem?_getD, List.getElem?_eq_getElem (by omega)] at g
      have g2 : (sh ms i N)[k] = if i ≤ k then ms.getD (k - i) 0 else 0 := g
      rw [g2]
      show cv ns ms i k + _ = cv ns ms i k + _
      congr 1
      split
      · rfl
      · rw [Int.mul_zero]
    have et : ns.take (i + 1) = ns.take i ++ [ns.getD i 0] := by
      rw [List.take_succ, List.getD_eq_getElem?_getD, List.getElem?_eq_getElem (by omega)]
      rfl
    have lt : (ns.take i).length = i := by rw [List.length_take]; omega
    rw [e, val_zip _ _ _ _ (by unfold sh; simp; omega), val_cv hN hm x y i (by omega), val_map, val_sh, et, val_snoc, lt]
    have p1 : ns.length - i = (ns.length - (i + 1)) + 1 := by omega
    have p2 : N - i - ms.length = ns.length - (i + 1) := by omega
    rw [p1, p2, Int.pow_succ]
    generalize val (ns.take i) x y = v
    generalize val ms x y = w
    generalize x ^ (ns.length - (i + 1)) = p
    generalize y ^ i = q
    grind
theorem val_mulP {a b : List Int} (ha : 0 < a.length) (hb : 0 < b.length) (x y : Int) : val (mulP a b) x y = val a x y * val b x y := by
  unfold mulP
  have h := val_cv (ns := a) (ms := b) (N := a.length + b.length - 1) (by omega) hb x y a.length (Nat.le_refl _)
  rw [List.take_length, Nat.sub_self, Int.pow_zero, Int.mul_one] at h
  exact h
theorem val_powP {a : List Int} (ha : 0 < a.length) (x y : Int) : ∀ k, val (powP a k) x y = val a x y ^ k
  | 0 => by
    rw [Int.pow_zero]
    show 1 * x ^ 0 + y * 0 = (1 : Int)
    rw [Int.pow_zero, Int.mul_zero, Int.add_zero, Int.mul_one]
  | k + 1 => by
    have hl := powP_lenE ha k
    show val (mulP (powP a k) a) x y = _
    rw [val_mulP (by omega) ha, val_powP ha x y k, Int.pow_succ]
theorem val_two (p q x y : Int) : val [p, q] x y = p * x + q * y := by
  show p * x ^ 1 + y * (q * x ^ 0 + y * 0) = _
  rw [Int.pow_zero, Int.pow_succ, Int.pow_zero, Int.one_mul, Int.mul_zero, Int.add_zero, Int.mul_one, Int.mul_comm y q]
end My
namespace My
open PySem PySem.Spec PyProof.Rows L2 Pr
section
variable {P : Program} {w : World} {K : PySem.W.Frag} {mg : Str → Option Value} {base : Heap}
def sp_product_row : Sp := fun vs H Q _ => ∃ (p q : Addr) (ns ms : List Int), vs = [.ref p, .ref q] ∧ H p = some (TI ns) ∧ H q = some (TI ms) ∧ 0 < ns.length ∧ 0 < ms.length ∧ ns.length < 1000 ∧ ms.length < 1000 ∧
  (∀ n ∈ ns, Wd n) ∧ (∀ n ∈ ms, Wd n) ∧ ∀ H' r, Same H H' → H r = none → H' r = some (TI (mulP ns ms)) → Q (.ref r) H'
theorem ok_product_row (T : Tx K mg) : FnOk P w K mg base CX0 1 T.f_product_row T.d_product_row p_product_row sp_product_row := by
  refine T.F_product_row.ok sc_product_row (fun vs H Q E h => ?_) (fun cdv A outer s H vs Q E hr h => ?_)
  · obtain ⟨p, q, ns, ms, rfl, _⟩ := h
    rfl
  · obtain ⟨p, q, ns, ms, rfl, hp, hq, h1, h2, h3, h4, b1, b2, k⟩ := h
    refine ⟨_, (pss_cons (ps_setLc (i := 2) (own := [("_", 7)]) (g := gName 7) (tt := tYes) rfl sc_product_row.nd rfl rfl (sw_true rfl rfl rfl (by decide +kernel)) (pi_range1 (by rfl) T.z_range (pa_cons (pe_op op_sub (pe_op op_add (pe_callB cr_len (by rfl) T.z_len PySem.boot_len (pa_cons (pv 0) pa_nil)) (pe_callB cr_len (by rfl) T.z_len PySem.boot_len (pa_cons (pv 1) pa_nil))) pe_int) pa_nil)) (blkOk_by (N := n_product_row) (sc := defScope s_product_row) (by decide +kernel)) (fun _ _ _ _ _ => (pg_name (i := 7) sc_product_row.nd rfl (by first | exact .inl rfl | exact .inr rfl))) (fun _ _ _ _ _ => pts_nil) (fun _ _ _ _ _ => pe_int))
      (pss_cons (ps_for PassesOwn.never rfl (pi_enT (by rfl) T.z_enumerate (pa_cons (pv 0) pa_nil)) (pg_tupH (n := 2) (by rfl) (pgs_cons (pg_name (i := 3) sc_product_row.nd rfl (by first | exact .inl rfl | exact .inr rfl)) (pgs_cons (pg_name (i := 4) sc_product_row.nd rfl (by first | exact .inl rfl | exact .inr rfl)) pgs_nil)))
      (pss_one (ps_for PassesOwn.never rfl (pi_enT (by rfl) T.z_enumerate (pa_cons (pv 1) pa_nil)) (pg_tupH (n := 2) (by rfl) (pgs_cons (pg_name (i := 5) sc_product_row.nd rfl (by first | exact .inl rfl | exact .inr rfl)) (pgs_cons (pg_name (i := 6) sc_product_row.nd rfl (by first | exact .inl rfl | exact .inr rfl)) pgs_nil)))
      (pss_one (ps_asg (pe_op op_add (pe_ix ix_LI (pv 2) (pe_op op_add (pv 3) (pv 5)) (fun _ _ => rfl)) (pe_op op_mulB (pv 4) (pv 6))) (pg_sub (pv 2) (pe_op op_add (pv 3) (pv 5)) set_LI))))))
      (pss_one (ps_ret (pe_callTy cr_tupL (by rfl) T.z_tuple (by decide +kernel) (pa_cons (pv 2) pa_nil)))))), ?_⟩
    rw [st_product_row]
    simp only [ap_seq, ap_next, ap_asg, ap_gName, ap_ret, ap_retN, ap_drop, ap_ifS, ap_break, ap_cont, ap_par, ap_aug, ap_ip, ap_gSub, ap_gTup, ap_gNil, ap_gCons, ap_var, ap_c, ap_op, ap_un, ap_if, ap_test, ap_B, ap_and, ap_or, ap_not, ap_andV, ap_orV, ap_notV, ap_nil, ap_cons, ap_tup, ap_lst, ap_cb, ap_bm, ap_call, ap_chain, ap_rI, ap_rI0, ap_rU, ap_rEq, ap_rNe, ap_revT, ap_sl, ap_part, ap_noPart, ap_ixLI, ap_ixTI, ap_ixLV, ap_ixTV, ap_len, ap_setLI, ap_setLV, ap_appI, ap_appV, ap_tupL, ap_listS, ap_sumLI, ap_sumTI, ap_repLI, ap_intI, ap_intB, ap_eqTI, ap_neTI, ap_eqLI, ap_neLI, ap_isi, ap_for, ap_rng1, ap_rng2, ap_iList, ap_iTup, ap_lc, ap_yes, ap_cut, ap_gTupH, ap_fmt, ap_jsn, ap_jsc, ap_gcd, ap_isqrt, ap_ixL, tyV_l, wipe_nil, wipe_cons, upd_same, ap_iEnT, ap_iEnL, ap_iZipA, ap_all, ap_tupT, ap_attF, ap_makeL, ap_att, ap_prop, ap_isO, ap_bin, ap_ne, ap_meth, ap_make, ins_inj, FE_inj, ap_slI, ap_catI, ap_perm, ap_lenO, ap_strO, ap_listO, ap_reprB, ap_iterT, ap_neT, ap_negO, ap_binI, ap_catL, ap_tM1, ap_repTI, ap_popN, ap_par3, ap_catTT, ap_repTA, ap_countT, ap_notInT, ap_repL1, ap_cm, ap_shl, ap_shr, ap_mask, ap_comb, ap_bits, ap_rng3, List.set_cons_zero, List.set_cons_succ, List.getElem?_cons_zero, List.getElem?_cons_succ, List.cons_append, List.nil_append, List.append_nil, Option.some.injEq, V.int.injEq, V.ref.injEq, V.bl.injEq, V.str.injEq, V.ty.injEq, Bool.not_true, Bool.not_false, HO.lst.injEq, HO.tup.injEq, reduceCtorEq, Int.reduceToNat, Int.reduceLT, Int.reduceLE, Nat.reduceAdd, Int.cast_ofNat_Int, gi_c0, gi_c1, gi_c2, gi_c3, Int.natCast_inj, map_int_inj, map_nil_iff, List.cons.injEq, exists_eq_left, exists_eq_left', exists_eq, exists_eq', exists_and_left, exists_and_right, exists_const, and_assoc, and_true, true_and, and_false, false_and, or_false, false_or, or_true, true_or, ite_true, ite_false, if_true, if_false, Bool.false_eq_true, own_cons, own_nil, le1, le2, le3, le4, me_cons, me_nil, List.length_map, List.length_cons, List.length_nil, ne_eq, not_false_eq_true, not_true_eq_false, decide_eq_true_eq, hp, hq]
    have eN : ((ns.length : Int) + (ms.length : Int) - 1).toNat = ns.length + ms.length - 1 := by omega
    rw [eN]
    refine ⟨by omega, by omega, lc_rangeI (fun _ => 0) (by omega) (fun x => rfl) (fun i G hi sm Q' k' => ?_) (fun f G nf sm ef => ?_)⟩
    · simp only [ap_seq, ap_next, ap_asg, ap_gName, ap_ret, ap_retN, ap_drop, ap_ifS, ap_break, ap_cont, ap_par, ap_aug, ap_ip, ap_gSub, ap_gTup, ap_gNil, ap_gCons, ap_var, ap_c, ap_op, ap_un, ap_if, ap_test, ap_B, ap_and, ap_or, ap_not, ap_andV, ap_orV, ap_notV, ap_nil, ap_cons, ap_tup, ap_lst, ap_cb, ap_bm, ap_call, ap_chain, ap_rI, ap_rI0, ap_rU, ap_rEq, ap_rNe, ap_revT, ap_sl, ap_part, ap_noPart, ap_ixLI, ap_ixTI, ap_ixLV, ap_ixTV, ap_len, ap_setLI, ap_setLV, ap_appI, ap_appV, ap_tupL, ap_listS, ap_sumLI, ap_sumTI, ap_repLI, ap_intI, ap_intB, ap_eqTI, ap_neTI, ap_eqLI, ap_neLI, ap_isi, ap_for, ap_rng1, ap_rng2, ap_iList, ap_iTup, ap_lc, ap_yes, ap_cut, ap_gTupH, ap_fmt, ap_jsn, ap_jsc, ap_gcd, ap_isqrt, ap_ixL, tyV_l, wipe_nil, wipe_cons, upd_same, ap_iEnT, ap_iEnL, ap_iZipA, ap_all, ap_tupT, ap_attF, ap_makeL, ap_att, ap_prop, ap_isO, ap_bin, ap_ne, ap_meth, ap_make, ins_inj, FE_inj, ap_slI, ap_catI, ap_perm, ap_lenO, ap_strO, ap_listO, ap_reprB, ap_iterT, ap_neT, ap_negO, ap_binI, ap_catL, ap_tM1, ap_repTI, ap_popN, ap_par3, ap_catTT, ap_repTA, ap_countT, ap_notInT, ap_repL1, ap_cm, ap_shl, ap_shr, ap_mask, ap_comb, ap_bits, ap_rng3, List.set_cons_zero, List.set_cons_succ, List.getElem?_cons_zero, List.getElem?_cons_succ, List.cons_append, List.nil_append, List.append_nil, Option.some.injEq, V.int.injEq, V.ref.injEq, V.bl.injEq, V.str.injEq, V.ty.injEq, Bool.not_true, Bool.not_false, HO.lst.injEq, HO.tup.injEq, reduceCtorEq, Int.reduceToNat, Int.reduceLT, Int.reduceLE, Nat.reduceAdd, Int.cast_ofNat_Int, gi_c0, gi_c1, gi_c2, gi_c3, Int.natCast_inj, map_int_inj, map_nil_iff, List.cons.injEq, exists_eq_left, exists_eq_left', exists_eq, exists_eq', exists_and_left, exists_and_right, exists_const, and_assoc, and_true, true_and, and_false, false_and, or_false, false_or, or_true, true_or, ite_true, ite_false, if_true, if_false, Bool.false_eq_true, own_cons, own_nil, le1, le2, le3, le4, me_cons, me_nil, List.length_map, List.length_cons, List.length_nil, ne_eq, not_false_eq_true, not_true_eq_false, decide_eq_true_eq]
      exact k' G (Same.refl G)
    · refine ⟨⟨_, sqT_of (sm _ _ hp)⟩, loop_pair gives_en (fun i σ' H' => (∃ y1 y2 y3 y4 y9, σ' = [some (V.ref p), some (V.ref q), some (V.ref f), y1, y2, y3, y4, y9]) ∧ Same H H' ∧ H' f = some (LI ((List.range (ns.length + ms.length - 1)).map (cv ns ms i)))) ⟨⟨_, _, _, _, _, rfl⟩, sm, ef⟩ (fun i σ' H' hi hP => hP.2.1 _ _ hp) (fun i a b t σ' G1 hi hP nt r => ?_) (fun σ' G1 hP => ?_)⟩
      · obtain ⟨⟨y1, y2, y3, y4, y9, e⟩, sm1, ef1⟩ := hP
        obtain ⟨rfl, r⟩ := r
        obtain ⟨n, rfl, en⟩ := at_int r
        subst e
        have s2 := same_upd (o := HO.tup [V.int (i : Nat), V.int n]) nt
        have hq2 := s2 _ _ (sm1 _ _ hq)
        have ef2 := s2 _ _ ef1
        have bn := b1 n (List.mem_of_getElem? en)
        have li : i < ns.length := (List.getElem?_eq_some_iff.mp en).1
        rw [← cvj_zero] at ef2
        simp only [ap_seq, ap_next, ap_asg, ap_gName, ap_ret, ap_retN, ap_drop, ap_ifS, ap_break, ap_cont, ap_par, ap_aug, ap_ip, ap_gSub, ap_gTup, ap_gNil, ap_gCons, ap_var, ap_c, ap_op, ap_un, ap_if, ap_test, ap_B, ap_and, ap_or, ap_not, ap_andV, ap_orV, ap_notV, ap_nil, ap_cons, ap_tup, ap_lst, ap_cb, ap_bm, ap_call, ap_chain, ap_rI, ap_rI0, ap_rU, ap_rEq, ap_rNe, ap_revT, ap_sl, ap_part, ap_noPart, ap_ixLI, ap_ixTI, ap_ixLV, ap_ixTV, ap_len, ap_setLI, ap_setLV, ap_appI, ap_appV, ap_tupL, ap_listS, ap_sumLI, ap_sumTI, ap_repLI, ap_intI, ap_intB, ap_eqTI, ap_neTI, ap_eqLI, ap_neLI, ap_isi, ap_for, ap_rng1, ap_rng2, ap_iList, ap_iTup, ap_lc, ap_yes, ap_cut, ap_gTupH, ap_fmt, ap_jsn, ap_jsc, ap_gcd, ap_isqrt, ap_ixL, tyV_l, wipe_nil, wipe_cons, upd_same, ap_iEnT, ap_iEnL, ap_iZipA, ap_all, ap_tupT, ap_attF, ap_makeL, ap_att, ap_prop, ap_isO, ap_bin, ap_ne, ap_meth, ap_make, ins_inj, FE_inj, ap_slI, ap_catI, ap_perm, ap_lenO, ap_strO, ap_listO, ap_reprB, ap_iterT, ap_neT, ap_negO, ap_binI, ap_catL, ap_tM1, ap_repTI, ap_popN, ap_par3, ap_catTT, ap_repTA, ap_countT, ap_notInT, ap_repL1, ap_cm, ap_shl, ap_shr, ap_mask, ap_comb, ap_bits, ap_rng3, List.set_cons_zero, List.set_cons_succ, List.getElem?_cons_zero, List.getElem?_cons_succ, List.cons_append, List.nil_append, List.append_nil, Option.some.injEq, V.int.injEq, V.ref.injEq, V.bl.injEq, V.str.injEq, V.ty.injEq, Bool.not_true, Bool.not_false, HO.lst.injEq, HO.tup.injEq, reduceCtorEq, Int.reduceToNat, Int.reduceLT, Int.reduceLE, Nat.reduceAdd, Int.cast_ofNat_Int, gi_c0, gi_c1, gi_c2, gi_c3, Int.natCast_inj, map_int_inj, map_nil_iff, List.cons.injEq, exists_eq_left, exists_eq_left', exists_eq, exists_eq', exists_and_left, exists_and_right, exists_const, and_assoc, and_true, true_and, and_false, false_and, or_false, false_or, or_true, true_or, ite_true, ite_false, if_true, if_false, Bool.false_eq_true, own_cons, own_nil, le1, le2, le3, le4, me_cons, me_nil, List.length_map, List.length_cons, List.length_nil, ne_eq, not_false_eq_true, not_true_eq_false, decide_eq_true_eq]
        refine ⟨⟨_, sqT_of hq2⟩, loop_pair gives_en (fun j σ' H' => (∃ y5 y6, σ' = [some (V.ref p), some (V.ref q), some (V.ref f), some (V.int (i : Nat)), some (V.int n), y5, y6, y9]) ∧ Same H H' ∧ H' f = some (LI ((List.range (ns.length + ms.length - 1)).map (cvj ns ms i j)))) ⟨⟨_, _, rfl⟩, sm1.trans s2, ef2⟩ (fun j σ' H' hj hP => hP.2.1 _ _ hq) (fun j a b u σ' G2 hj hP nu r => ?_) (fun σ' G2 hP => ?_)⟩
        · obtain ⟨⟨y5, y6, e⟩, sm3, ef3⟩ := hP
          obtain ⟨rfl, r⟩ := r
          obtain ⟨m, rfl, em⟩ := at_int r
          subst e
          have s4 := same_upd (o := HO.tup [V.int (j : Nat), V.int m]) nu
          have ef4 := s4 _ _ ef3
          have bm := b2 m (List.mem_of_getElem? em)
          have lj : j < ms.length := (List.getElem?_eq_some_iff.mp em).1
          unfold Wd at bn bm
          simp only [ap_seq, ap_next, ap_asg, ap_gName, ap_ret, ap_retN, ap_drop, ap_ifS, ap_break, ap_cont, ap_par, ap_aug, ap_ip, ap_gSub, ap_gTup, ap_gNil, ap_gCons, ap_var, ap_c, ap_op, ap_un, ap_if, ap_test, ap_B, ap_and, ap_or, ap_not, ap_andV, ap_orV, ap_notV, ap_nil, ap_cons, ap_tup, ap_lst, ap_cb, ap_bm, ap_call, ap_chain, ap_rI, ap_rI0, ap_rU, ap_rEq, ap_rNe, ap_revT, ap_sl, ap_part, ap_noPart, ap_ixLI, ap_ixTI, ap_ixLV, ap_ixTV, ap_len, ap_setLI, ap_setLV, ap_appI, ap_appV, ap_tupL, ap_listS, ap_sumLI, ap_sumTI, ap_repLI, ap_intI, ap_intB, ap_eqTI, ap_neTI, ap_eqLI, ap_neLI, ap_isi, ap_for, ap_rng1, ap_rng2, ap_iList, ap_iTup, ap_lc, ap_yes, ap_cut, ap_gTupH, ap_fmt, ap_jsn, ap_jsc, ap_gcd, ap_isqrt, ap_ixL, tyV_l, wipe_nil, wipe_cons, upd_same, ap_iEnT, ap_iEnL, ap_iZipA, ap_all, ap_tupT, ap_attF, ap_makeL, ap_att, ap_prop, ap_isO, ap_bin, ap_ne, ap_meth, ap_make, ins_inj, FE_inj, ap_slI, ap_catI, ap_perm, ap_lenO, ap_strO, ap_listO, ap_reprB, ap_iterT, ap_neT, ap_negO, ap_binI, ap_catL, ap_tM1, ap_repTI, ap_popN, ap_par3, ap_catTT, ap_repTA, ap_countT, ap_notInT, ap_repL1, ap_cm, ap_shl, ap_shr, ap_mask, ap_comb, ap_bits, ap_rng3, List.set_cons_zero, List.set_cons_succ, List.getElem?_cons_zero, List.getElem?_cons_succ, List.cons_append, List.nil_append, List.append_nil, Option.some.injEq, V.int.injEq, V.ref.injEq, V.bl.injEq, V.str.injEq, V.ty.injEq, Bool.not_true, Bool.not_false, HO.lst.injEq, HO.tup.injEq, reduceCtorEq, Int.reduceToNat, Int.reduceLT, Int.reduceLE, Nat.reduceAdd, Int.cast_ofNat_Int, gi_c0, gi_c1, gi_c2, gi_c3, Int.natCast_inj, map_int_inj, map_nil_iff, List.cons.injEq, exists_eq_left, exists_eq_left', exists_eq, exists_eq', exists_and_left, exists_and_right, exists_const, and_assoc, and_true, true_and, and_false, false_and, or_false, false_or, or_true, true_or, ite_true, ite_false, if_true, if_false, Bool.false_eq_true, own_cons, own_nil, le1, le2, le3, le4, me_cons, me_nil, List.length_map, List.length_cons, List.length_nil, ne_eq, not_false_eq_true, not_true_eq_false, decide_eq_true_eq, CMu, ef4]
          have eij : (i : Int) + (j : Int) = ((i + j : Nat) : Int) := by omega
          rw [eij, Int.toNat_natCast, gi_range (by omega), range_set, cvj_step en em, List.length_range]
          refine ⟨by omega, by omega, by omega, by omega, by omega, by omega, by omega, by omega, same_mut (sm3.trans s4) nf, rfl⟩
        · obtain ⟨⟨y5, y6, e⟩, sm3, ef3⟩ := hP
          subst e
          rw [List.length_map, cvj_full] at ef3
          exact ⟨⟨_, _, _, _, _, rfl⟩, sm3, ef3⟩
      · obtain ⟨⟨y1, y2, y3, y4, y9, e⟩, sm1, ef1⟩ := hP
        subst e
        rw [List.length_map] at ef1
        simp only [ap_seq, ap_next, ap_asg, ap_gName, ap_ret, ap_retN, ap_drop, ap_ifS, ap_break, ap_cont, ap_par, ap_aug, ap_ip, ap_gSub, ap_gTup, ap_gNil, ap_gCons, ap_var, ap_c, ap_op, ap_un, ap_if, ap_test, ap_B, ap_and, ap_or, ap_not, ap_andV, ap_orV, ap_notV, ap_nil, ap_cons, ap_tup, ap_lst, ap_cb, ap_bm, ap_call, ap_chain, ap_rI, ap_rI0, ap_rU, ap_rEq, ap_rNe, ap_revT, ap_sl, ap_part, ap_noPart, ap_ixLI, ap_ixTI, ap_ixLV, ap_ixTV, ap_len, ap_setLI, ap_setLV, ap_appI, ap_appV, ap_tupL, ap_listS, ap_sumLI, ap_sumTI, ap_repLI, ap_intI, ap_intB, ap_eqTI, ap_neTI, ap_eqLI, ap_neLI, ap_isi, ap_for, ap_rng1, ap_rng2, ap_iList, ap_iTup, ap_lc, ap_yes, ap_cut, ap_gTupH, ap_fmt, ap_jsn, ap_jsc, ap_gcd, ap_isqrt, ap_ixL, tyV_l, wipe_nil, wipe_cons, upd_same, ap_iEnT, ap_iEnL, ap_iZipA, ap_all, ap_tupT, ap_attF, ap_makeL, ap_att, ap_prop, ap_isO, ap_bin, ap_ne, ap_meth, ap_make, ins_inj, FE_inj, ap_slI, ap_catI, ap_perm, ap_lenO, ap_strO, ap_listO, ap_reprB, ap_iterT, ap_neT, ap_negO, ap_binI, ap_catL, ap_tM1, ap_repTI, ap_popN, ap_par3, ap_catTT, ap_repTA, ap_countT, ap_notInT, ap_repL1, ap_cm, ap_shl, ap_shr, ap_mask, ap_comb, ap_bits, ap_rng3, List.set_cons_zero, List.set_cons_succ, List.getElem?_cons_zero, List.getElem?_cons_succ, List.cons_append, List.nil_append, List.append_nil, Option.some.injEq, V.int.injEq, V.ref.injEq, V.bl.injEq, V.str.injEq, V.ty.injEq, Bool.not_true, Bool.not_false, HO.lst.injEq, HO.tup.injEq, reduceCtorEq, Int.reduceToNat, Int.reduceLT, Int.reduceLE, Nat.reduceAdd, Int.cast_ofNat_Int, gi_c0, gi_c1, gi_c2, gi_c3, Int.natCast_inj, map_int_inj, map_nil_iff, List.cons.injEq, exists_eq_left, exists_eq_left', exists_eq, exists_eq', exists_and_left, exists_and_right, exists_const, and_assoc, and_true, true_and, and_false, false_and, or_false, false_or, or_true, true_or, ite_true, ite_false, if_true, if_false, Bool.false_eq_true, own_cons, own_nil, le1, le2, le3, le4, me_cons, me_nil, List.length_map, List.length_cons, List.length_nil, ne_eq, not_false_eq_true, not_true_eq_false, decide_eq_true_eq, ef1]
        exact fun l nl => k _ l (sm1.trans (same_upd nl)) (free_of sm1 nl) upd_same
/-! ### the class -/
theorem isC (T : Tx K mg) : IsC K T.C_Form := ⟨T.cl_Form, T.x_cls, T.x_get, T.x_tak, T.x_obj, T.x_ty, T.x_int, T.x_tup⟩
abbrev FEe (t : Addr) : List (Str × V) := FE "_entries" t
/-- entries that may be passed -/
structure Good (es : List Int) : Prop where
  lo : 1 ≤ es.length
  hi : es.length ≤ 41
  sm : ∀ n ∈ es, Sm n
def sp_Form___init__ (C : Addr) : Sp := fun vs H Q _ => ∃ (x dx t : Addr) (es : List Int), vs = [.ref x, .ref t] ∧ H x = some (.ins C dx []) ∧ H t = some (TI es) ∧ Good es ∧
  ∀ H', (∀ b o, b ≠ x → H b = some o → H' b = some o) → H' x = some (.ins C dx (FEe t)) → Q .non H'
theorem ok_Form___init__ (T : Tx K mg) : FnOk P w K mg base CX0 8 T.f_Form___init__ T.d_Form___init__ p_Form___init__ (sp_Form___init__ T.C_Form) := by
  refine T.F_Form___init__.ok sc_Form___init__ (fun vs H Q E h => ?_) (fun cdv A outer s H vs Q E hr h => ?_)
  · obtain ⟨x, dx, t, es, rfl, _⟩ := h
    rfl
  · obtain ⟨x, dx, t, es, rfl, hx, ht, g, q⟩ := h
    refine ⟨_, (pss_cons (ps_if (PW.pt (pw_or (pt_not (pt_val (pe_call (ok_is_row T) (hr.mono (by decide)) (by rfl) T.m_is_row T.F_is_row.kp T.b_is_row .nil pass0 (pa_cons (pv 1) pa_nil)))) (pw_or1 (pt_not (pt_chain op_le op_le pe_int (pe_callB cr_len (by rfl) T.z_len PySem.boot_len (pa_cons (pv 1) pa_nil)) (pe_op op_add (pe_glob (v := .int 40) (by rfl) T.c_MAX_DEGREE ⟨_, rfl⟩) pe_int)))))) (pss_one ps_never) pss_nil)
      (pss_one (ps_fld (pv 0) (pv 1) rfl))), ?_⟩
    rw [st_Form___init__]
    have h1 := g.lo
    have h2 := g.hi
    simp only [ap_seq, ap_next, ap_asg, ap_gName, ap_ret, ap_retN, ap_drop, ap_ifS, ap_break, ap_cont, ap_par, ap_aug, ap_ip, ap_gSub, ap_gTup, ap_gNil, ap_gCons, ap_var, ap_c, ap_op, ap_un, ap_if, ap_test, ap_B, ap_and, ap_or, ap_not, ap_andV, ap_orV, ap_notV, ap_nil, ap_cons, ap_tup, ap_lst, ap_cb, ap_bm, ap_call, ap_chain, ap_rI, ap_rI0, ap_rU, ap_rEq, ap_rNe, ap_revT, ap_sl, ap_part, ap_noPart, ap_ixLI, ap_ixTI, ap_ixLV, ap_ixTV, ap_len, ap_setLI, ap_setLV, ap_appI, ap_appV, ap_tupL, ap_listS, ap_sumLI, ap_sumTI, ap_repLI, ap_intI, ap_intB, ap_eqTI, ap_neTI, ap_eqLI, ap_neLI, ap_isi, ap_for, ap_rng1, ap_rng2, ap_iList, ap_iTup, ap_lc, ap_yes, ap_cut, ap_gTupH, ap_fmt, ap_jsn, ap_jsc, ap_gcd, ap_isqrt, ap_ixL, tyV_l, wipe_nil, wipe_cons, upd_same, ap_iEnT, ap_iEnL, ap_iZipA, ap_all, ap_tupT, ap_attF, ap_makeL, ap_att, ap_prop, ap_isO, ap_bin, ap_ne, ap_meth, ap_make, ins_inj, FE_inj, ap_slI, ap_catI, ap_perm, ap_lenO, ap_strO, ap_listO, ap_reprB, ap_iterT, ap_neT, ap_negO, ap_binI, ap_catL, ap_tM1, ap_repTI, ap_popN, ap_par3, ap_catTT, ap_repTA, ap_countT, ap_notInT, ap_repL1, ap_cm, ap_shl, ap_shr, ap_mask, ap_comb, ap_bits, ap_rng3, List.set_cons_zero, List.set_cons_succ, List.getElem?_cons_zero, List.getElem?_cons_succ, List.cons_append, List.nil_append, List.append_nil, Option.some.injEq, V.int.injEq, V.ref.injEq, V.bl.injEq, V.str.injEq, V.ty.injEq, Bool.not_true, Bool.not_false, HO.lst.injEq, HO.tup.injEq, reduceCtorEq, Int.reduceToNat, Int.reduceLT, Int.reduceLE, Nat.reduceAdd, Int.cast_ofNat_Int, gi_c0, gi_c1, gi_c2, gi_c3, Int.natCast_inj, map_int_inj, map_nil_iff, List.cons.injEq, exists_eq_left, exists_eq_left', exists_eq, exists_eq', exists_and_left, exists_and_right, exists_const, and_assoc, and_true, true_and, and_false, false_and, or_false, false_or, or_true, true_or, ite_true, ite_false, if_true, if_false, Bool.false_eq_true, own_cons, own_nil, le1, le2, le3, le4, me_cons, me_nil, List.length_map, List.length_cons, List.length_nil, ne_eq, not_false_eq_true, not_true_eq_false, decide_eq_true_eq, sp_is_row]
    refine ⟨es, ht, by omega, g.sm, fun H1 s1 => ?_⟩
    have ht1 := s1 _ _ ht
    have hx1 := s1 _ _ hx
    refine ⟨_, .inr ht1, ?_⟩
    rw [List.length_map, if_pos (by omega), decide_eq_true (by omega), if_neg (by simp)]
    refine ⟨_, rfl, _, rfl, x, T.C_Form, dx, _, rfl, hx1, T.cl_Form, T.no_Form_entries, by decide, ?_⟩
    refine q _ (fun b o hb e => ?_) upd_same
    rw [upd_ne hb]
    exact s1 _ _ e
/-- a new form -/
theorem new_ok {H1 : Hp} {t C : Addr} {es : List Int} {Q : VK} (h : H1 t = some (TI es)) (g : Good es) (k : ∀ p dx H', Same H1 H' → H1 p = none → H' p = some (.ins C dx (FEe t)) → Q (.ref p) H') :
    NewV C (sp_Form___init__ C) [] E0 [.ref t] H1 Q := fun x dx nx ndx ne => by
  have ntx : t ≠ x := ne_of_none h nx
  have ntd : t ≠ dx := ne_of_none h ndx
  refine ⟨x, dx, t, es, rfl, upd_same, by rw [upd_ne ntx, upd_ne ntd]; exact h, g, fun H' s hx => ⟨rfl, k x dx H' (fun b o e => ?_) nx hx⟩⟩
  have nbx : b ≠ x := ne_of_none e nx
  have nbd : b ≠ dx := ne_of_none e ndx
  exact s _ _ nbx (by rw [upd_ne nbx, upd_ne nbd]; exact e)
/-! ### properties -/
def sp_Form_entries (C : Addr) : Sp := fun vs H Q _ => ∃ (p dx t : Addr), vs = [.ref p] ∧ H p = some (.ins C dx (FEe t)) ∧ Q (.ref t) H
theorem ok_Form_entries (T : Tx K mg) : FnOk P w K mg base CX0 2 T.f_Form_entries T.d_Form_entries p_Form_entries (sp_Form_entries T.C_Form) := by
  refine T.F_Form_entries.ok sc_Form_entries (fun vs H Q E h => ?_) (fun cdv A outer s H vs Q E hr h => ?_)
  · obtain ⟨p, dx, t, rfl, _⟩ := h
    rfl
  · obtain ⟨p, dx, t, rfl, hp, q⟩ := h
    refine ⟨_, (pss_one (ps_ret (pe_att (pe_fld (pv 0) rfl) mono_var T.cl_Form T.no_Form_entries))), ?_⟩
    rw [st_Form_entries]
    simp only [ap_seq, ap_next, ap_asg, ap_gName, ap_ret, ap_retN, ap_drop, ap_ifS, ap_break, ap_cont, ap_par, ap_aug, ap_ip, ap_gSub, ap_gTup, ap_gNil, ap_gCons, ap_var, ap_c, ap_op, ap_un, ap_if, ap_test, ap_B, ap_and, ap_or, ap_not, ap_andV, ap_orV, ap_notV, ap_nil, ap_cons, ap_tup, ap_lst, ap_cb, ap_bm, ap_call, ap_chain, ap_rI, ap_rI0, ap_rU, ap_rEq, ap_rNe, ap_revT, ap_sl, ap_part, ap_noPart, ap_ixLI, ap_ixTI, ap_ixLV, ap_ixTV, ap_len, ap_setLI, ap_setLV, ap_appI, ap_appV, ap_tupL, ap_listS, ap_sumLI, ap_sumTI, ap_repLI, ap_intI, ap_intB, ap_eqTI, ap_neTI, ap_eqLI, ap_neLI, ap_isi, ap_for, ap_rng1, ap_rng2, ap_iList, ap_iTup, ap_lc, ap_yes, ap_cut, ap_gTupH, ap_fmt, ap_jsn, ap_jsc, ap_gcd, ap_isqrt, ap_ixL, tyV_l, wipe_nil, wipe_cons, upd_same, ap_iEnT, ap_iEnL, ap_iZipA, ap_all, ap_tupT, ap_attF, ap_makeL, ap_att, ap_prop, ap_isO, ap_bin, ap_ne, ap_meth, ap_make, ins_inj, FE_inj, ap_slI, ap_catI, ap_perm, ap_lenO, ap_strO, ap_listO, ap_reprB, ap_iterT, ap_neT, ap_negO, ap_binI, ap_catL, ap_tM1, ap_repTI, ap_popN, ap_par3, ap_catTT, ap_repTA, ap_countT, ap_notInT, ap_repL1, ap_cm, ap_shl, ap_shr, ap_mask, ap_comb, ap_bits, ap_rng3, List.set_cons_zero, List.set_cons_succ, List.getElem?_cons_zero, List.getElem?_cons_succ, List.cons_append, List.nil_append, List.append_nil, Option.some.injEq, V.int.injEq, V.ref.injEq, V.bl.injEq, V.str.injEq, V.ty.injEq, Bool.not_true, Bool.not_false, HO.lst.injEq, HO.tup.injEq, reduceCtorEq, Int.reduceToNat, Int.reduceLT, Int.reduceLE, Nat.reduceAdd, Int.cast_ofNat_Int, gi_c0, gi_c1, gi_c2, gi_c3, Int.natCast_inj, map_int_inj, map_nil_iff, List.cons.injEq, exists_eq_left, exists_eq_left', exists_eq, exists_eq', exists_and_left, exists_and_right, exists_const, and_assoc, and_true, true_and, and_false, false_and, or_false, false_or, or_true, true_or, ite_true, ite_false, if_true, if_false, Bool.false_eq_true, own_cons, own_nil, le1, le2, le3, le4, me_cons, me_nil, List.length_map, List.length_cons, List.length_nil, ne_eq, not_false_eq_true, not_true_eq_false, decide_eq_true_eq, hp]
    exact q
def sp_Form_degree (C : Addr) : Sp := fun vs H Q _ => ∃ (p dx t : Addr) (es : List Int), vs = [.ref p] ∧ H p = some (.ins C dx (FEe t)) ∧ H t = some (TI es) ∧ Q (.int (es.length - 1)) H
theorem ok_Form_degree (T : Tx K mg) : FnOk P w K mg base CX0 2 T.f_Form_degree T.d_Form_degree p_Form_degree (sp_Form_degree T.C_Form) := by
  refine T.F_Form_degree.ok sc_Form_degree (fun vs H Q E h => ?_) (fun cdv A outer s H vs Q E hr h => ?_)
  · obtain ⟨p, dx, t, es, rfl, _⟩ := h
    rfl
  · obtain ⟨p, dx, t, es, rfl, hp, ht, q⟩ := h
    refine ⟨_, (pss_one (ps_ret (pe_op op_sub (pe_callB cr_len (by rfl) T.z_len PySem.boot_len (pa_cons (pe_att (pe_fld (pv 0) rfl) mono_var T.cl_Form T.no_Form_entries) pa_nil)) pe_int))), ?_⟩
    rw [st_Form_degree]
    simp only [ap_seq, ap_next, ap_asg, ap_gName, ap_ret, ap_retN, ap_drop, ap_ifS, ap_break, ap_cont, ap_par, ap_aug, ap_ip, ap_gSub, ap_gTup, ap_gNil, ap_gCons, ap_var, ap_c, ap_op, ap_un, ap_if, ap_test, ap_B, ap_and, ap_or, ap_not, ap_andV, ap_orV, ap_notV, ap_nil, ap_cons, ap_tup, ap_lst, ap_cb, ap_bm, ap_call, ap_chain, ap_rI, ap_rI0, ap_rU, ap_rEq, ap_rNe, ap_revT, ap_sl, ap_part, ap_noPart, ap_ixLI, ap_ixTI, ap_ixLV, ap_ixTV, ap_len, ap_setLI, ap_setLV, ap_appI, ap_appV, ap_tupL, ap_listS, ap_sumLI, ap_sumTI, ap_repLI, ap_intI, ap_intB, ap_eqTI, ap_neTI, ap_eqLI, ap_neLI, ap_isi, ap_for, ap_rng1, ap_rng2, ap_iList, ap_iTup, ap_lc, ap_yes, ap_cut, ap_gTupH, ap_fmt, ap_jsn, ap_jsc, ap_gcd, ap_isqrt, ap_ixL, tyV_l, wipe_nil, wipe_cons, upd_same, ap_iEnT, ap_iEnL, ap_iZipA, ap_all, ap_tupT, ap_attF, ap_makeL, ap_att, ap_prop, ap_isO, ap_bin, ap_ne, ap_meth, ap_make, ins_inj, FE_inj, ap_slI, ap_catI, ap_perm, ap_lenO, ap_strO, ap_listO, ap_reprB, ap_iterT, ap_neT, ap_negO, ap_binI, ap_catL, ap_tM1, ap_repTI, ap_popN, ap_par3, ap_catTT, ap_repTA, ap_countT, ap_notInT, ap_repL1, ap_cm, ap_shl, ap_shr, ap_mask, ap_comb, ap_bits, ap_rng3, List.set_cons_zero, List.set_cons_succ, List.getElem?_cons_zero, List.getElem?_cons_succ, List.cons_append, List.nil_append, List.append_nil, Option.some.injEq, V.int.injEq, V.ref.injEq, V.bl.injEq, V.str.injEq, V.ty.injEq, Bool.not_true, Bool.not_false, HO.lst.injEq, HO.tup.injEq, reduceCtorEq, Int.reduceToNat, Int.reduceLT, Int.reduceLE, Nat.reduceAdd, Int.cast_ofNat_Int, gi_c0, gi_c1, gi_c2, gi_c3, Int.natCast_inj, map_int_inj, map_nil_iff, List.cons.injEq, exists_eq_left, exists_eq_left', exists_eq, exists_eq', exists_and_left, exists_and_right, exists_const, and_assoc, and_true, true_and, and_false, false_and, or_false, false_or, or_true, true_or, ite_true, ite_false, if_true, if_false, Bool.false_eq_true, own_cons, own_nil, le1, le2, le3, le4, me_cons, me_nil, List.length_map, List.length_cons, List.length_nil, ne_eq, not_false_eq_true, not_true_eq_false, decide_eq_true_eq, hp]
    refine ⟨_, .inr ht, ?_⟩
    rw [List.length_map]
    exact q
end
end My
namespace My
open PySem PySem.Spec PyProof.Rows L2 Pr
section
variable {P : Program} {w : World} {K : PySem.W.Frag} {mg : Str → Option Value} {base : Heap}
def sp_is_pair : Sp := fun vs H Q _ => ∃ (p : Addr) (a b : Int), vs = [.ref p] ∧ H p = some (TI [a, b]) ∧ Sm a ∧ Sm b ∧ ∀ H', Same H H' → Q (.bl true) H'
theorem ok_is_pair (T : Tx K mg) : FnOk P w K mg base CX0 5 T.f_is_pair T.d_is_pair p_is_pair sp_is_pair := by
  refine T.F_is_pair.ok sc_is_pair (fun vs H Q E h => ?_) (fun cdv A outer s H vs Q E hr h => ?_)
  · obtain ⟨p, a, b, rfl, _⟩ := h
    rfl
  · obtain ⟨p, a, b, rfl, hp, ba, bb, q⟩ := h
    refine ⟨_, (pss_one (ps_ret (pe_and (pe_call (ok_is_row T) (hr.mono (by decide)) (by rfl) T.m_is_row T.F_is_row.kp T.b_is_row .nil pass0 (pa_cons (pv 0) pa_nil)) (pe_one (pe_cmpR op_eq (pe_callB cr_len (by rfl) T.z_len PySem.boot_len (pa_cons (pv 0) pa_nil)) pe_int (nomark _)))))), ?_⟩
    rw [st_is_pair]
    simp only [ap_seq, ap_next, ap_asg, ap_gName, ap_ret, ap_retN, ap_drop, ap_ifS, ap_break, ap_cont, ap_par, ap_aug, ap_ip, ap_gSub, ap_gTup, ap_gNil, ap_gCons, ap_var, ap_c, ap_op, ap_un, ap_if, ap_test, ap_B, ap_and, ap_or, ap_not, ap_andV, ap_orV, ap_notV, ap_nil, ap_cons, ap_tup, ap_lst, ap_cb, ap_bm, ap_call, ap_chain, ap_rI, ap_rI0, ap_rU, ap_rEq, ap_rNe, ap_revT, ap_sl, ap_part, ap_noPart, ap_ixLI, ap_ixTI, ap_ixLV, ap_ixTV, ap_len, ap_setLI, ap_setLV, ap_appI, ap_appV, ap_tupL, ap_listS, ap_sumLI, ap_sumTI, ap_repLI, ap_intI, ap_intB, ap_eqTI, ap_neTI, ap_eqLI, ap_neLI, ap_isi, ap_for, ap_rng1, ap_rng2, ap_iList, ap_iTup, ap_lc, ap_yes, ap_cut, ap_gTupH, ap_fmt, ap_jsn, ap_jsc, ap_gcd, ap_isqrt, ap_ixL, tyV_l, wipe_nil, wipe_cons, upd_same, ap_iEnT, ap_iEnL, ap_iZipA, ap_all, ap_tupT, ap_attF, ap_makeL, ap_att, ap_prop, ap_isO, ap_bin, ap_ne, ap_meth, ap_make, ins_inj, FE_inj, ap_slI, ap_catI, ap_perm, ap_lenO, ap_strO, ap_listO, ap_reprB, ap_iterT, ap_neT, ap_negO, ap_binI, ap_catL, ap_tM1, ap_repTI, ap_popN, ap_par3, ap_catTT, ap_repTA, ap_countT, ap_notInT, ap_repL1, ap_cm, ap_shl, ap_shr, ap_mask, ap_comb, ap_bits, ap_rng3, List.set_cons_zero, List.set_cons_succ, List.getElem?_cons_zero, List.getElem?_cons_succ, List.cons_append, List.nil_append, List.append_nil, Option.some.injEq, V.int.injEq, V.ref.injEq, V.bl.injEq, V.str.injEq, V.ty.injEq, Bool.not_true, Bool.not_false, HO.lst.injEq, HO.tup.injEq, reduceCtorEq, Int.reduceToNat, Int.reduceLT, Int.reduceLE, Nat.reduceAdd, Int.cast_ofNat_Int, gi_c0, gi_c1, gi_c2, gi_c3, Int.natCast_inj, map_int_inj, map_nil_iff, List.cons.injEq, exists_eq_left, exists_eq_left', exists_eq, exists_eq', exists_and_left, exists_and_right, exists_const, and_assoc, and_true, true_and, and_false, false_and, or_false, false_or, or_true, true_or, ite_true, ite_false, if_true, if_false, Bool.false_eq_true, own_cons, own_nil, le1, le2, le3, le4, me_cons, me_nil, List.length_map, List.length_cons, List.length_nil, ne_eq, not_false_eq_true, not_true_eq_false, decide_eq_true_eq, sp_is_row]
    refine ⟨[a, b], hp, by simp, fun n hn => ?_, fun H1 s1 => ?_⟩
    · simp at hn
      rcases hn with rfl | rfl
      · exact ba
      · exact bb
    · have h1 := s1 _ _ hp
      simp only [ap_seq, ap_next, ap_asg, ap_gName, ap_ret, ap_retN, ap_drop, ap_ifS, ap_break, ap_cont, ap_par, ap_aug, ap_ip, ap_gSub, ap_gTup, ap_gNil, ap_gCons, ap_var, ap_c, ap_op, ap_un, ap_if, ap_test, ap_B, ap_and, ap_or, ap_not, ap_andV, ap_orV, ap_notV, ap_nil, ap_cons, ap_tup, ap_lst, ap_cb, ap_bm, ap_call, ap_chain, ap_rI, ap_rI0, ap_rU, ap_rEq, ap_rNe, ap_revT, ap_sl, ap_part, ap_noPart, ap_ixLI, ap_ixTI, ap_ixLV, ap_ixTV, ap_len, ap_setLI, ap_setLV, ap_appI, ap_appV, ap_tupL, ap_listS, ap_sumLI, ap_sumTI, ap_repLI, ap_intI, ap_intB, ap_eqTI, ap_neTI, ap_eqLI, ap_neLI, ap_isi, ap_for, ap_rng1, ap_rng2, ap_iList, ap_iTup, ap_lc, ap_yes, ap_cut, ap_gTupH, ap_fmt, ap_jsn, ap_jsc, ap_gcd, ap_isqrt, ap_ixL, tyV_l, wipe_nil, wipe_cons, upd_same, ap_iEnT, ap_iEnL, ap_iZipA, ap_all, ap_tupT, ap_attF, ap_makeL, ap_att, ap_prop, ap_isO, ap_bin, ap_ne, ap_meth, ap_make, ins_inj, FE_inj, ap_slI, ap_catI, ap_perm, ap_lenO, ap_strO, ap_listO, ap_reprB, ap_iterT, ap_neT, ap_negO, ap_binI, ap_catL, ap_tM1, ap_repTI, ap_popN, ap_par3, ap_catTT, ap_repTA, ap_countT, ap_notInT, ap_repL1, ap_cm, ap_shl, ap_shr, ap_mask, ap_comb, ap_bits, ap_rng3, List.set_cons_zero, List.set_cons_succ, List.getElem?_cons_zero, List.getElem?_cons_succ, List.cons_append, List.nil_append, List.append_nil, Option.some.injEq, V.int.injEq, V.ref.injEq, V.bl.injEq, V.str.injEq, V.ty.injEq, Bool.not_true, Bool.not_false, HO.lst.injEq, HO.tup.injEq, reduceCtorEq, Int.reduceToNat, Int.reduceLT, Int.reduceLE, Nat.reduceAdd, Int.cast_ofNat_Int, gi_c0, gi_c1, gi_c2, gi_c3, Int.natCast_inj, map_int_inj, map_nil_iff, List.cons.injEq, exists_eq_left, exists_eq_left', exists_eq, exists_eq', exists_and_left, exists_and_right, exists_const, and_assoc, and_true, true_and, and_false, false_and, or_false, false_or, or_true, true_or, ite_true, ite_false, if_true, if_false, Bool.false_eq_true, own_cons, own_nil, le1, le2, le3, le4, me_cons, me_nil, List.length_map, List.length_cons, List.length_nil, ne_eq, not_false_eq_true, not_true_eq_false, decide_eq_true_eq, h1]
      exact ⟨rfl, by rw [decide_eq_true trivial]; exact q H1 s1⟩
/-- two rows of two numbers at p -/
def TabAt (H : Hp) (p : Addr) (a b c d : Int) : Prop := ∃ r s, H p = some (.tup [.ref r, .ref s]) ∧ H r = some (TI [a, b]) ∧ H s = some (TI [c, d])
theorem TabAt.same {H H' : Hp} {p : Addr} {a b c d : Int} (h : TabAt H p a b c d) (s : Same H H') : TabAt H' p a b c d := by
  obtain ⟨r, t, h1, h2, h3⟩ := h
  exact ⟨r, t, s _ _ h1, s _ _ h2, s _ _ h3⟩
def sp_is_change : Sp := fun vs H Q _ => ∃ (p : Addr) (a b c d : Int), vs = [.ref p] ∧ TabAt H p a b c d ∧ Sm a ∧ Sm b ∧ Sm c ∧ Sm d ∧ ∀ H', Same H H' → Q (.bl true) H'
theorem ok_is_change (T : Tx K mg) : FnOk P w K mg base CX0 8 T.f_is_change T.d_is_change p_is_change sp_is_change := by
  refine T.F_is_change.ok sc_is_change (fun vs H Q E h => ?_) (fun cdv A outer s H vs Q E hr h => ?_)
  · obtain ⟨p, a, b, c, d, rfl, _⟩ := h
    rfl
  · obtain ⟨p, a, b, c, d, rfl, ⟨r, s', h1, h2, h3⟩, ba, bb, bc, bd, q⟩ := h
    refine ⟨_, (pss_one (ps_ret (pe_and (pe_callB cr_isiS (by rfl) T.z_isinstance (by decide +kernel) (pa_cons (pv 0) (pa_cons (pe_bltn (v := .ty "tuple") (by rfl) T.z_tuple (by decide +kernel) rfl) pa_nil))) (pe_and (pe_cmpR op_eq (pe_callB cr_len (by rfl) T.z_len PySem.boot_len (pa_cons (pv 0) pa_nil)) pe_int (nomark _)) (pe_one (pe_callB (cr_all rfl) (by rfl) T.z_all (by decide +kernel) (pa_cons (pe_lc (own := [("row", 1)]) (g := gName 1) (tt := tYes) rfl sc_is_change.nd (pi_tup (pv 0)) (blkOk_by (N := n_is_change) (sc := defScope s_is_change) (by decide +kernel)) (fun _ _ _ _ _ => (pg_name (i := 1) sc_is_change.nd rfl (by first | exact .inl rfl | exact .inr rfl))) (fun _ _ _ _ _ => pts_nil) (fun _ _ _ _ _ => (pe_call (ok_is_pair T) (hr.mono (by decide)) (by rfl) T.m_is_pair T.F_is_pair.kp T.b_is_pair .nil pass0 (pa_cons (pv 1) pa_nil)))) pa_nil))))))), ?_⟩
    rw [st_is_change]
    simp only [ap_seq, ap_next, ap_asg, ap_gName, ap_ret, ap_retN, ap_drop, ap_ifS, ap_break, ap_cont, ap_par, ap_aug, ap_ip, ap_gSub, ap_gTup, ap_gNil, ap_gCons, ap_var, ap_c, ap_op, ap_un, ap_if, ap_test, ap_B, ap_and, ap_or, ap_not, ap_andV, ap_orV, ap_notV, ap_nil, ap_cons, ap_tup, ap_lst, ap_cb, ap_bm, ap_call, ap_chain, ap_rI, ap_rI0, ap_rU, ap_rEq, ap_rNe, ap_revT, ap_sl, ap_part, ap_noPart, ap_ixLI, ap_ixTI, ap_ixLV, ap_ixTV, ap_len, ap_setLI, ap_setLV, ap_appI, ap_appV, ap_tupL, ap_listS, ap_sumLI, ap_sumTI, ap_repLI, ap_intI, ap_intB, ap_eqTI, ap_neTI, ap_eqLI, ap_neLI, ap_isi, ap_for, ap_rng1, ap_rng2, ap_iList, ap_iTup, ap_lc, ap_yes, ap_cut, ap_gTupH, ap_fmt, ap_jsn, ap_jsc, ap_gcd, ap_isqrt, ap_ixL, tyV_l, wipe_nil, wipe_cons, upd_same, ap_iEnT, ap_iEnL, ap_iZipA, ap_all, ap_tupT, ap_attF, ap_makeL, ap_att, ap_prop, ap_isO, ap_bin, ap_ne, ap_meth, ap_make, ins_inj, FE_inj, ap_slI, ap_catI, ap_perm, ap_lenO, ap_strO, ap_listO, ap_reprB, ap_iterT, ap_neT, ap_negO, ap_binI, ap_catL, ap_tM1, ap_repTI, ap_popN, ap_par3, ap_catTT, ap_repTA, ap_countT, ap_notInT, ap_repL1, ap_cm, ap_shl, ap_shr, ap_mask, ap_comb, ap_bits, ap_rng3, List.set_cons_zero, List.set_cons_succ, List.getElem?_cons_zero, List.getElem?_cons_succ, List.cons_append, List.nil_append, List.append_nil, Option.some.injEq, V.int.injEq, V.ref.injEq, V.bl.injEq, V.str.injEq, V.ty.injEq, Bool.not_true, Bool.not_false, HO.lst.injEq, HO.tup.injEq, reduceCtorEq, Int.reduceToNat, Int.reduceLT, Int.reduceLE, Nat.reduceAdd, Int.cast_ofNat_Int, gi_c0, gi_c1, gi_c2, gi_c3, Int.natCast_inj, map_int_inj, map_nil_iff, List.cons.injEq, exists_eq_left, exists_eq_left', exists_eq, exists_eq', exists_and_left, exists_and_right, exists_const, and_assoc, and_true, true_and, and_false, false_and, or_false, false_or, or_true, true_or, ite_true, ite_false, if_true, if_false, Bool.false_eq_true, own_cons, own_nil, le1, le2, le3, le4, me_cons, me_nil, List.length_map, List.length_cons, List.length_nil, ne_eq, not_false_eq_true, not_true_eq_false, decide_eq_true_eq]
    have ht := ty_tup h1
    refine ⟨_, ht, _, kit_tt, ?_⟩
    rw [if_pos rfl]
    refine ⟨_, .inr h1, rfl, ?_⟩
    rw [if_pos (show ((([V.ref r, V.ref s'] : List V).length : Nat) : Int) = 2 from rfl)]
    refine ⟨⟨_, sqT_of h1⟩, lc_tupV (fun _ => .bl true) h1 (by show 2 < 1000000; omega) (fun x => rfl) (fun i x G hx sm Q' hq => ?_) (fun D G nD sm eD => ?_)⟩
    · have hG2 := sm _ _ h2
      have hG3 := sm _ _ h3
      have hx2 : x = .ref r ∨ x = .ref s' := by
        have := List.mem_of_getElem? hx
        simpa using this
      rcases hx2 with rfl | rfl
      · simp only [ap_seq, ap_next, ap_asg, ap_gName, ap_ret, ap_retN, ap_drop, ap_ifS, ap_break, ap_cont, ap_par, ap_aug, ap_ip, ap_gSub, ap_gTup, ap_gNil, ap_gCons, ap_var, ap_c, ap_op, ap_un, ap_if, ap_test, ap_B, ap_and, ap_or, ap_not, ap_andV, ap_orV, ap_notV, ap_nil, ap_cons, ap_tup, ap_lst, ap_cb, ap_bm, ap_call, ap_chain, ap_rI, ap_rI0, ap_rU, ap_rEq, ap_rNe, ap_revT, ap_sl, ap_part, ap_noPart, ap_ixLI, ap_ixTI, ap_ixLV, ap_ixTV, ap_len, ap_setLI, ap_setLV, ap_appI, ap_appV, ap_tupL, ap_listS, ap_sumLI, ap_sumTI, ap_repLI, ap_intI, ap_intB, ap_eqTI, ap_neTI, ap_eqLI, ap_neLI, ap_isi, ap_for, ap_rng1, ap_rng2, ap_iList, ap_iTup, ap_lc, ap_yes, ap_cut, ap_gTupH, ap_fmt, ap_jsn, ap_jsc, ap_gcd, ap_isqrt, ap_ixL, tyV_l, wipe_nil, wipe_cons, upd_same, ap_iEnT, ap_iEnL, ap_iZipA, ap_all, ap_tupT, ap_attF, ap_makeL, ap_att, ap_prop, ap_isO, ap_bin, ap_ne, ap_meth, ap_make, ins_inj, FE_inj, ap_slI, ap_catI, ap_perm, ap_lenO, ap_strO, ap_listO, ap_reprB, ap_iterT, ap_neT, ap_negO, ap_binI, ap_catL, ap_tM1, ap_repTI, ap_popN, ap_par3, ap_catTT, ap_repTA, ap_countT, ap_notInT, ap_repL1, ap_cm, ap_shl, ap_shr, ap_mask, ap_comb, ap_bits, ap_rng3, List.set_cons_zero, List.set_cons_succ, List.getElem?_cons_zero, List.getElem?_cons_succ, List.cons_append, List.nil_append, List.append_nil, Option.some.injEq, V.int.injEq, V.ref.injEq, V.bl.injEq, V.str.injEq, V.ty.injEq, Bool.not_true, Bool.not_false, HO.lst.injEq, HO.tup.injEq, reduceCtorEq, Int.reduceToNat, Int.reduceLT, Int.reduceLE, Nat.reduceAdd, Int.cast_ofNat_Int, gi_c0, gi_c1, gi_c2, gi_c3, Int.natCast_inj, map_int_inj, map_nil_iff, List.cons.injEq, exists_eq_left, exists_eq_left', exists_eq, exists_eq', exists_and_left, exists_and_right, exists_const, and_assoc, and_true, true_and, and_false, false_and, or_false, false_or, or_true, true_or, ite_true, ite_false, if_true, if_false, Bool.false_eq_true, own_cons, own_nil, le1, le2, le3, le4, me_cons, me_nil, List.length_map, List.length_cons, List.length_nil, ne_eq, not_false_eq_true, not_true_eq_false, decide_eq_true_eq]
        exact ⟨r, a, b, rfl, hG2, ba, bb, fun H1 s1 => hq H1 s1⟩
      · simp only [ap_seq, ap_next, ap_asg, ap_gName, ap_ret, ap_retN, ap_drop, ap_ifS, ap_break, ap_cont, ap_par, ap_aug, ap_ip, ap_gSub, ap_gTup, ap_gNil, ap_gCons, ap_var, ap_c, ap_op, ap_un, ap_if, ap_test, ap_B, ap_and, ap_or, ap_not, ap_andV, ap_orV, ap_notV, ap_nil, ap_cons, ap_tup, ap_lst, ap_cb, ap_bm, ap_call, ap_chain, ap_rI, ap_rI0, ap_rU, ap_rEq, ap_rNe, ap_revT, ap_sl, ap_part, ap_noPart, ap_ixLI, ap_ixTI, ap_ixLV, ap_ixTV, ap_len, ap_setLI, ap_setLV, ap_appI, ap_appV, ap_tupL, ap_listS, ap_sumLI, ap_sumTI, ap_repLI, ap_intI, ap_intB, ap_eqTI, ap_neTI, ap_eqLI, ap_neLI, ap_isi, ap_for, ap_rng1, ap_rng2, ap_iList, ap_iTup, ap_lc, ap_yes, ap_cut, ap_gTupH, ap_fmt, ap_jsn, ap_jsc, ap_gcd, ap_isqrt, ap_ixL, tyV_l, wipe_nil, wipe_cons, upd_same, ap_iEnT, ap_iEnL, ap_iZipA, ap_all, ap_tupT, ap_attF, ap_makeL, ap_att, ap_prop, ap_isO, ap_bin, ap_ne, ap_meth, ap_make, ins_inj, FE_inj, ap_slI, ap_catI, ap_perm, ap_lenO, ap_strO, ap_listO, ap_reprB, ap_iterT, ap_neT, ap_negO, ap_binI, ap_catL, ap_tM1, ap_repTI, ap_popN, ap_par3, ap_catTT, ap_repTA, ap_countT, ap_notInT, ap_repL1, ap_cm, ap_shl, ap_shr, ap_mask, ap_comb, ap_bits, ap_rng3, List.set_cons_zero, List.set_cons_succ, List.getElem?_cons_zero, List.getElem?_cons_succ, List.cons_append, List.nil_append, List.append_nil, Option.some.injEq, V.int.injEq, V.ref.injEq, V.bl.injEq, V.str.injEq, V.ty.injEq, Bool.not_true, Bool.not_false, HO.lst.injEq, HO.tup.injEq, reduceCtorEq, Int.reduceToNat, Int.reduceLT, Int.reduceLE, Nat.reduceAdd, Int.cast_ofNat_Int, gi_c0, gi_c1, gi_c2, gi_c3, Int.natCast_inj, map_int_inj, map_nil_iff, List.cons.injEq, exists_eq_left, exists_eq_left', exists_eq, exists_eq', exists_and_left, exists_and_right, exists_const, and_assoc, and_true, true_and, and_false, false_and, or_false, false_or, or_true, true_or, ite_true, ite_false, if_true, if_false, Bool.false_eq_true, own_cons, own_nil, le1, le2, le3, le4, me_cons, me_nil, List.length_map, List.length_cons, List.length_nil, ne_eq, not_false_eq_true, not_true_eq_false, decide_eq_true_eq]
        exact ⟨s', c, d, rfl, hG3, bc, bd, fun H1 s1 => hq H1 s1⟩
    · refine ⟨_, rfl, [true, true], sqL_of eD, ?_⟩
      exact q G sm
end
end My
namespace My
open PySem PySem.Spec PyProof.Rows L2 Pr
/-! ### changed forms -/
/-- a step of the change: the total and the power of the second row -/
def chT (F S : List Int) : List Int → List Int × List Int → List Int × List Int
  | [], st => st
  | c :: cs, st => chT F S cs (List.zipWith (· + ·) (mulP st.1 F) ((mulP st.2 S).map (· * c)), mulP st.2 S)
def chP (F S : List Int) (es : List Int) : List Int := (chT F S (es.drop 1) ([es.getD 0 0], [1])).1
/-- what holds of a state behind k steps -/
structure ChS (F S es : List Int) (k : Nat) (st : List Int × List Int) : Prop where
  len : st.1.length = k + 1
  pow : st.2 = powP S k
  val : ∀ x y, val st.1 x y = val (es.take (k + 1)) (My.val F x y) (My.val S x y)
theorem chS_zero {F S es : List Int} (h : 0 < es.length) : ChS F S es 0 ([es.getD 0 0], [1]) := by
  refine ⟨rfl, rfl, fun x y => ?_⟩
  have e : es.take 1 = [es.getD 0 0] := by
    cases es with
    | nil => cases h
    | cons c cs => rfl
  rw [e]
  show es.getD 0 0 * x ^ 0 + y * 0 = es.getD 0 0 * _ ^ 0 + _ * 0
  rw [Int.pow_zero, Int.pow_zero, Int.mul_zero, Int.mul_zero]
theorem chS_next {F S es : List Int} {k : Nat} {st : List Int × List Int} (hF : F.length = 2) (hS : S.length = 2) (h : ChS F S es k st) (hk : k + 1 < es.length) :
    ChS F S es (k + 1) (List.zipWith (· + ·) (mulP st.1 F) ((mulP st.2 S).map (· * es.getD (k + 1) 0)), mulP st.2 S) := by
  have lp : st.2.length = k + 1 := by rw [h.pow, powP_lenE (by omega) k, hS]; omega
  have l1 : (mulP st.1 F).length = k + 2 := by rw [mulP_len, h.len]; omega
  have l2 : (mulP st.2 S).length = k + 2 := by rw [mulP_len, lp]; omega
  refine ⟨by simp [l1, l2], by show mulP st.2 S = mulP (powP S k) S; rw [h.pow], fun x y => ?_⟩
  have e : (mulP st.2 S).map (· * es.getD (k + 1) 0) = (mulP st.2 S).map (es.getD (k + 1) 0 * ·) := List.map_congr_left fun z _ => Int.mul_comm _ _
  have et : es.take (k + 1 + 1) = es.take (k + 1) ++ [es.getD (k + 1) 0] := by
    rw [List.take_succ (i := k + 1), List.getD_eq_getElem?_getD, List.getElem?_eq_getElem hk]
    rfl
  have lt : (es.take (k + 1)).length = k + 1 := by rw [List.length_take]; omega
  show val (List.zipWith _ _ _) x y = _
  rw [e, val_zip _ _ _ _ (by rw [List.length_map]; omega), val_map, val_mulP (by have := h.len; omega) (by omega), val_mulP (by omega) (by omega), h.val, h.pow, val_powP (by omega), et, val_snoc, lt, Int.pow_succ]
  grind
theorem chT_run {F S es : List Int} (hF : F.length = 2) (hS : S.length = 2) : ∀ (n k : Nat) (st : List Int × List Int), k + 1 + n = es.length → ChS F S es k st → ChS F S es (es.length - 1) (chT F S (es.drop (k + 1)) st)
  | 0, k, st, hn, h => by
    rw [List.drop_of_length_le (by omega)]
    have e : es.length - 1 = k := by omega
    rw [e]
    exact h
  | n + 1, k, st, hn, h => by
    have hk : k + 1 < es.length := by omega
    have e : es.drop (k + 1) = es.getD (k + 1) 0 :: es.drop (k + 1 + 1) := by
      rw [List.drop_eq_getElem_cons hk, List.getD_eq_getElem?_getD, List.getElem?_eq_getElem hk]
      rfl
    rw [e]
    exact chT_run hF hS n (k + 1) _ (by omega) (chS_next hF hS h hk)
theorem chP_all {F S es : List Int} (hF : F.length = 2) (hS : S.length = 2) (h : 0 < es.length) : ChS F S es (es.length - 1) (chT F S (es.drop 1) ([es.getD 0 0], [1])) := chT_run hF hS (es.length - 1) 0 _ (by omega) (chS_zero h)
theorem chP_len {F S es : List Int} (hF : F.length = 2) (hS : S.length = 2) (h : 0 < es.length) : (chP F S es).length = es.length := by
  have := (chP_all (es := es) hF hS h).len
  unfold chP
  omega
theorem chP_val {F S es : List Int} (hF : F.length = 2) (hS : S.length = 2) (h : 0 < es.length) (x y : Int) : val (chP F S es) x y = val es (val F x y) (val S x y) := by
  have := (chP_all (es := es) hF hS h).val x y
  unfold chP
  rw [this]
  have e : es.length - 1 + 1 = es.length := by omega
  rw [e, List.take_length]
/-- a row that is told by its values -/
theorem chP_eq {F S es r : List Int} (hF : F.length = 2) (hS : S.length = 2) (h : 0 < es.length) (hl : r.length = es.length) (hv : ∀ x y, val r x y = val es (val F x y) (val S x y)) : chP F S es = r :=
  eq_of_val (by rw [chP_len hF hS h, hl]) fun x _ => by rw [chP_val hF hS h, hv]
/-- sizes -/
theorem l1_zip : ∀ (a b : List Int), l1 (List.zipWith (· + ·) a b) ≤ l1 a + l1 b
  | [], _ => Nat.zero_le _
  | _ :: _, [] => Nat.zero_le _
  | c :: cs, d :: ds => by
    have := l1_zip cs ds
    show (c + d).natAbs + l1 (List.zipWith (· + ·) cs ds) ≤ (c.natAbs + l1 cs) + (d.natAbs + l1 ds)
    omega
theorem l1_map (m : Int) : ∀ a : List Int, l1 (a.map (· * m)) = l1 a * m.natAbs
  | [] => by simp [l1]
  | c :: cs => by
    have := l1_map m cs
    show (c * m).natAbs + l1 (cs.map (· * m)) = (c.natAbs + l1 cs) * m.natAbs
    rw [this, Int.natAbs_mul, Nat.add_mul]
theorem l1_step {F S : List Int} {t pw : List Int} {c : Int} {A L k : Nat} (hF : l1 F ≤ L) (hS : l1 S ≤ L) (ht : l1 t ≤ (k + 1) * A * L ^ k) (hp : l1 pw ≤ L ^ k) (hc : c.natAbs ≤ A) :
    l1 (mulP pw S) ≤ L ^ (k + 1) ∧ l1 (List.zipWith (· + ·) (mulP t F) ((mulP pw S).map (· * c))) ≤ (k + 2) * A * L ^ (k + 1) := by
  have p1 : l1 (mulP pw S) ≤ L ^ (k + 1) := Nat.le_trans (l1_mulP pw S) (by rw [Nat.pow_succ]; exact Nat.mul_le_mul hp hS)
  refine ⟨p1, Nat.le_trans (l1_zip _ _) ?_⟩
  have q1 : l1 (mulP t F) ≤ (k + 1) * A * L ^ (k + 1) := Nat.le_trans (l1_mulP t F) (by rw [Nat.pow_succ, ← Nat.mul_assoc]; exact Nat.mul_le_mul ht hF)
  have q2 : l1 ((mulP pw S).map (· * c)) ≤ L ^ (k + 1) * A := by
    rw [l1_map]
    exact Nat.mul_le_mul p1 hc
  have e : (k + 2) * A * L ^ (k + 1) = (k + 1) * A * L ^ (k + 1) + L ^ (k + 1) * A := by
    rw [show k + 2 = (k + 1) + 1 from rfl, Nat.succ_mul (k + 1) A, Nat.add_mul, Nat.mul_comm A (L ^ (k + 1))]
  omega
end My
namespace My
open PySem PySem.Spec PyProof.Rows L2 Pr
section
variable {P : Program} {w : World} {K : PySem.W.Frag} {mg : Str → Option Value} {base : Heap}
/-- rows that are changed: n entries up to A, l1 of both rows up to L -/
structure Chg (es F S : List Int) (A L : Nat) : Prop where
  pos : 0 < es.length
  hi : es.length ≤ 30
  bd : ∀ n ∈ es, n.natAbs ≤ A
  sm : A < 10 ^ 200
  fl : F.length = 2
  sl : S.length = 2
  f1 : l1 F ≤ L
  s1 : l1 S ≤ L
  lp : 1 ≤ L
  pw : L ^ es.length < 10 ^ 250
theorem Chg.tot {es F S : List Int} {A L : Nat} (h : Chg es F S A L) {k : Nat} (hk : k < es.length) : (k + 1) * A * L ^ k < 2 ^ 4000 := by
  have h1 : L ^ k ≤ L ^ es.length := Nat.pow_le_pow_right h.lp (by omega)
  have h2 : (k + 1) * A * L ^ k ≤ 30 * 10 ^ 200 * 10 ^ 250 := Nat.mul_le_mul (Nat.mul_le_mul (by have := h.hi; omega) (Nat.le_of_lt h.sm)) (Nat.le_trans h1 (Nat.le_of_lt h.pw))
  exact Nat.lt_of_le_of_lt h2 (by decide +kernel)
theorem wd_of {n : Int} (h : n.natAbs < 2 ^ 4000) : Wd n := by
  have e := bigE
  unfold Wd
  generalize (2 ^ 4000 : Nat) = B at e h
  rw [e]
  omega
def sp_changed_row : Sp := fun vs H Q _ => ∃ (p q : Addr) (es : List Int) (a b c d : Int) (A L : Nat), vs = [.ref p, .ref q] ∧ H p = some (TI es) ∧ TabAt H q a b c d ∧ Chg es [a, b] [c, d] A L ∧
  ∀ H' r, Same H H' → H' r = some (TI (chP [a, b] [c, d] es)) → (∀ n ∈ chP [a, b] [c, d] es, n.natAbs ≤ es.length * A * L ^ (es.length - 1)) → Q (.ref r) H'
theorem ok_changed_row (T : Tx K mg) : FnOk P w K mg base CX0 4 T.f_changed_row T.d_changed_row p_changed_row sp_changed_row := by
  refine T.F_changed_row.ok sc_changed_row (fun vs H Q E h => ?_) (fun cdv A outer s H vs Q E hr h => ?_)
  · obtain ⟨p, q, es, a, b, c, d, A', L, rfl, _⟩ := h
    rfl
  · obtain ⟨p, q, es, a, b, c, d, B, L, rfl, hp, ⟨r1, r2, h1, h2, h3⟩, hc, k⟩ := h
    refine ⟨_, (pss_cons (ps_asg (pv 1) (pg_tupH (n := 2) (by rfl) (pgs_cons (pg_name (i := 2) sc_changed_row.nd rfl (by first | exact .inl rfl | exact .inr rfl)) (pgs_cons (pg_name (i := 3) sc_changed_row.nd rfl (by first | exact .inl rfl | exact .inr rfl)) pgs_nil))))
      (pss_cons (ps_par (i := 4) (j := 5) (by rfl) sc_changed_row.nd rfl rfl (by decide) rfl rfl (pa_cons (pe_tup (pa_cons (pe_ix ix_TI (pv 0) pe_int (fun _ _ => rfl)) pa_nil)) (pa_cons (pe_tup (pa_cons pe_int pa_nil)) pa_nil)) (by rfl))
      (pss_cons (ps_for PassesOwn.never rfl (pi_tup (pe_slice sl_tupI (pv 0) (po_some pe_int) po_none)) (pg_name (i := 6) sc_changed_row.nd rfl (by first | exact .inl rfl | exact .inr rfl))
      (pss_cons (ps_set (i := 5) sc_changed_row.nd rfl (Or.inl rfl) (pe_call (ok_product_row T) (hr.mono (by decide)) (by rfl) T.m_product_row T.F_product_row.kp T.b_product_row .nil pass0 (pa_cons (pv 5) (pa_cons (pv 3) pa_nil))))
      (pss_one (ps_set (i := 4) sc_changed_row.nd rfl (Or.inl rfl) (pe_call (ok_sum_row T) (hr.mono (by decide)) (by rfl) T.m_sum_row T.F_sum_row.kp T.b_sum_row .nil pass0 (pa_cons (pe_call (ok_product_row T) (hr.mono (by decide)) (by rfl) T.m_product_row T.F_product_row.kp T.b_product_row .nil pass0 (pa_cons (pv 4) (pa_cons (pv 2) pa_nil))) (pa_cons (pe_call (ok_multiple_row T) (hr.mono (by decide)) (by rfl) T.m_multiple_row T.F_multiple_row.kp T.b_multiple_row .nil pass0 (pa_cons (pv 5) (pa_cons (pv 6) pa_nil))) pa_nil)))))))
      (pss_one (ps_ret (pv 4)))))), ?_⟩
    rw [st_changed_row]
    simp only [ap_seq, ap_next, ap_asg, ap_gName, ap_ret, ap_retN, ap_drop, ap_ifS, ap_break, ap_cont, ap_par, ap_aug, ap_ip, ap_gSub, ap_gTup, ap_gNil, ap_gCons, ap_var, ap_c, ap_op, ap_un, ap_if, ap_test, ap_B, ap_and, ap_or, ap_not, ap_andV, ap_orV, ap_notV, ap_nil, ap_cons, ap_tup, ap_lst, ap_cb, ap_bm, ap_call, ap_chain, ap_rI, ap_rI0, ap_rU, ap_rEq, ap_rNe, ap_revT, ap_sl, ap_part, ap_noPart, ap_ixLI, ap_ixTI, ap_ixLV, ap_ixTV, ap_len, ap_setLI, ap_setLV, ap_appI, ap_appV, ap_tupL, ap_listS, ap_sumLI, ap_sumTI, ap_repLI, ap_intI, ap_intB, ap_eqTI, ap_neTI, ap_eqLI, ap_neLI, ap_isi, ap_for, ap_rng1, ap_rng2, ap_iList, ap_iTup, ap_lc, ap_yes, ap_cut, ap_gTupH, ap_fmt, ap_jsn, ap_jsc, ap_gcd, ap_isqrt, ap_ixL, tyV_l, wipe_nil, wipe_cons, upd_same, ap_iEnT, ap_iEnL, ap_iZipA, ap_all, ap_tupT, ap_attF, ap_makeL, ap_att, ap_prop, ap_isO, ap_bin, ap_ne, ap_meth, ap_make, ins_inj, FE_inj, ap_slI, ap_catI, ap_perm, ap_lenO, ap_strO, ap_listO, ap_reprB, ap_iterT, ap_neT, ap_negO, ap_binI, ap_catL, ap_tM1, ap_repTI, ap_popN, ap_par3, ap_catTT, ap_repTA, ap_countT, ap_notInT, ap_repL1, ap_cm, ap_shl, ap_shr, ap_mask, ap_comb, ap_bits, ap_rng3, List.set_cons_zero, List.set_cons_succ, List.getElem?_cons_zero, List.getElem?_cons_succ, List.cons_append, List.nil_append, List.append_nil, Option.some.injEq, V.int.injEq, V.ref.injEq, V.bl.injEq, V.str.injEq, V.ty.injEq, Bool.not_true, Bool.not_false, HO.lst.injEq, HO.tup.injEq, reduceCtorEq, Int.reduceToNat, Int.reduceLT, Int.reduceLE, Nat.reduceAdd, Int.cast_ofNat_Int, gi_c0, gi_c1, gi_c2, gi_c3, Int.natCast_inj, map_int_inj, map_nil_iff, List.cons.injEq, exists_eq_left, exists_eq_left', exists_eq, exists_eq', exists_and_left, exists_and_right, exists_const, and_assoc, and_true, true_and, and_false, false_and, or_false, false_or, or_true, true_or, ite_true, ite_false, if_true, if_false, Bool.false_eq_true, own_cons, own_nil, le1, le2, le3, le4, me_cons, me_nil, List.length_map, List.length_cons, List.length_nil, ne_eq, not_false_eq_true, not_true_eq_false, decide_eq_true_eq, h1, hp]
    have pos := hc.pos
    have hi := hc.hi
    refine ⟨by omega, by decide, fun t0 nt0 => ⟨by decide, fun p0 np0 => ?_⟩⟩
    have s1 := same_upd (o := TI [gi es 0]) nt0
    have s2 := same_upd (o := TI [1]) np0
    refine ⟨es, s2 _ _ (s1 _ _ hp), fun r H1 s3 er => ?_⟩
    have e1 : cutI es (some 1) none = es.drop 1 := cut_drop es 1
    rw [e1] at er
    have S3 := (s1.trans s2).trans s3
    have g0 : gi es 0 = es.getD 0 0 := gi_nat es 0
    have lF : ([a, b] : List Int).length = 2 := rfl
    have lS : ([c, d] : List Int).length = 2 := rfl
    have wF : ∀ n ∈ ([a, b] : List Int), Wd n := fun n hn => wd_of (Nat.lt_of_le_of_lt (Nat.le_trans (l1_mem hn) hc.f1) (Nat.lt_of_le_of_lt (Nat.le_self_pow (by omega) L) (Nat.lt_trans hc.pw (by decide +kernel))))
    have wS : ∀ n ∈ ([c, d] : List Int), Wd n := fun n hn => wd_of (Nat.lt_of_le_of_lt (Nat.le_trans (l1_mem hn) hc.s1) (Nat.lt_of_le_of_lt (Nat.le_self_pow (by omega) L) (Nat.lt_trans hc.pw (by decide +kernel))))
    have ldr : (es.drop 1).length = es.length - 1 := List.length_drop ..
    refine ⟨⟨_, sqT_of er⟩, loop_gen (gives_tup (xs := (es.drop 1).map V.int)) (fun i σ' H' => ∃ (tp pp : Addr) (st : List Int × List Int) (y : Option V), σ' = [some (.ref p), some (.ref q), some (.ref r1), some (.ref r2), some (.ref tp), some (.ref pp), y] ∧ Same H1 H' ∧ H' tp = some (TI st.1) ∧ H' pp = some (TI st.2) ∧ ChS [a, b] [c, d] es i st ∧ l1 st.1 ≤ (i + 1) * B * L ^ i ∧ l1 st.2 ≤ L ^ i ∧ (chT [a, b] [c, d] ((es.drop 1).drop i) st).1 = chP [a, b] [c, d] es)
      ⟨t0, p0, ([es.getD 0 0], [1]), none, rfl, Same.refl H1, ?_, ?_, chS_zero pos, ?_, (by rw [Nat.pow_zero]; exact Nat.le_refl 1), rfl⟩ (fun i σ' H' _ hP => ?_) (fun i v σ' H' H'' hi hP hy => ?_) (fun σ' H' hP => ?_)⟩
    · rw [← g0]
      exact s3 _ _ (s2 _ _ upd_same)
    · exact s3 _ _ upd_same
    · rw [Nat.pow_zero, Nat.mul_one, Nat.zero_add, Nat.one_mul]
      show (es.getD 0 0).natAbs + 0 ≤ B
      rw [Nat.add_zero]
      refine hc.bd _ ?_
      rw [List.getD_eq_getElem?_getD, List.getElem?_eq_getElem pos]
      exact List.getElem_mem pos
    · obtain ⟨tp, pp, st, y, _, sm, _⟩ := hP
      exact sm _ _ er
    · obtain ⟨tp, pp, st, y, e, sm, et, ep, cs, b1, b2, fin⟩ := hP
      obtain ⟨rfl, hv⟩ := hy
      obtain ⟨n, rfl, en⟩ := at_int hv
      subst e
      rw [List.length_map, ldr] at hi
      have hk : i + 1 < es.length := by omega
      have en2 : n = es.getD (i + 1) 0 := by
        rw [List.getElem?_drop, Nat.add_comm] at en
        rw [List.getD_eq_getElem?_getD, en]
        rfl
      have bn : n.natAbs ≤ B := by
        rw [en2, List.getD_eq_getElem?_getD, List.getElem?_eq_getElem hk]
        exact hc.bd _ (List.getElem_mem hk)
      have nx := l1_step hc.f1 hc.s1 b1 b2 bn
      have lst := cs.len
      have lpw : st.2.length = i + 1 := by rw [cs.pow, powP_lenE (by show 0 < 2; omega) i]; simp
      have S1 := S3.trans sm
      simp only [ap_seq, ap_next, ap_asg, ap_gName, ap_ret, ap_retN, ap_drop, ap_ifS, ap_break, ap_cont, ap_par, ap_aug, ap_ip, ap_gSub, ap_gTup, ap_gNil, ap_gCons, ap_var, ap_c, ap_op, ap_un, ap_if, ap_test, ap_B, ap_and, ap_or, ap_not, ap_andV, ap_orV, ap_notV, ap_nil, ap_cons, ap_tup, ap_lst, ap_cb, ap_bm, ap_call, ap_chain, ap_rI, ap_rI0, ap_rU, ap_rEq, ap_rNe, ap_revT, ap_sl, ap_part, ap_noPart, ap_ixLI, ap_ixTI, ap_ixLV, ap_ixTV, ap_len, ap_setLI, ap_setLV, ap_appI, ap_appV, ap_tupL, ap_listS, ap_sumLI, ap_sumTI, ap_repLI, ap_intI, ap_intB, ap_eqTI, ap_neTI, ap_eqLI, ap_neLI, ap_isi, ap_for, ap_rng1, ap_rng2, ap_iList, ap_iTup, ap_lc, ap_yes, ap_cut, ap_gTupH, ap_fmt, ap_jsn, ap_jsc, ap_gcd, ap_isqrt, ap_ixL, tyV_l, wipe_nil, wipe_cons, upd_same, ap_iEnT, ap_iEnL, ap_iZipA, ap_all, ap_tupT, ap_attF, ap_makeL, ap_att, ap_prop, ap_isO, ap_bin, ap_ne, ap_meth, ap_make, ins_inj, FE_inj, ap_slI, ap_catI, ap_perm, ap_lenO, ap_strO, ap_listO, ap_reprB, ap_iterT, ap_neT, ap_negO, ap_binI, ap_catL, ap_tM1, ap_repTI, ap_popN, ap_par3, ap_catTT, ap_repTA, ap_countT, ap_notInT, ap_repL1, ap_cm, ap_shl, ap_shr, ap_mask, ap_comb, ap_bits, ap_rng3, List.set_cons_zero, List.set_cons_succ, List.getElem?_cons_zero, List.getElem?_cons_succ, List.cons_append, List.nil_append, List.append_nil, Option.some.injEq, V.int.injEq, V.ref.injEq, V.bl.injEq, V.str.injEq, V.ty.injEq, Bool.not_true, Bool.not_false, HO.lst.injEq, HO.tup.injEq, reduceCtorEq, Int.reduceToNat, Int.reduceLT, Int.reduceLE, Nat.reduceAdd, Int.cast_ofNat_Int, gi_c0, gi_c1, gi_c2, gi_c3, Int.natCast_inj, map_int_inj, map_nil_iff, List.cons.injEq, exists_eq_left, exists_eq_left', exists_eq, exists_eq', exists_and_left, exists_and_right, exists_const, and_assoc, and_true, true_and, and_false, false_and, or_false, false_or, or_true, true_or, ite_true, ite_false, if_true, if_false, Bool.false_eq_true, own_cons, own_nil, le1, le2, le3, le4, me_cons, me_nil, List.length_map, List.length_cons, List.length_nil, ne_eq, not_false_eq_true, not_true_eq_false, decide_eq_true_eq, sp_product_row]
      have bL : ∀ j, j ≤ es.length → L ^ j < 10 ^ 250 := fun j hj => Nat.lt_of_le_of_lt (Nat.pow_le_pow_right hc.lp hj) hc.pw
      refine ⟨st.2, ep, [c, d], S1 _ _ h3, by omega, by show 0 < 2; omega, by omega, by show 2 < 1000; omega, fun m hm => wd_of (Nat.lt_of_le_of_lt (Nat.le_trans (l1_mem hm) b2) (Nat.lt_trans (bL i (by omega)) (by decide +kernel))), wS, fun H2 pp2 s5 np2 ep2 => ?_⟩
      refine ⟨st.1, s5 _ _ et, [a, b], s5 _ _ (S1 _ _ h2), by omega, by show 0 < 2; omega, by omega, by show 2 < 1000; omega, fun m hm => wd_of (Nat.lt_of_le_of_lt (Nat.le_trans (l1_mem hm) b1) (hc.tot (by omega))), wF, fun H3 tp3 s6 np3 et3 => ?_⟩
      have l2 : (mulP st.2 [c, d]).length = i + 2 := by rw [mulP_len, lpw]; show i + 1 + 2 - 1 = _; omega
      have l1' : (mulP st.1 [a, b]).length = i + 2 := by rw [mulP_len, lst]; show i + 1 + 2 - 1 = _; omega
      refine ⟨pp2, mulP st.2 [c, d], n, rfl, s6 _ _ ep2, by omega, fun m hm => wd_of (Nat.lt_of_le_of_lt (Nat.le_trans (l1_mem hm) nx.1) (Nat.lt_trans (bL (i + 1) (by omega)) (by decide +kernel))), wd_of (Nat.lt_trans (Nat.lt_of_le_of_lt bn hc.sm) (by decide +kernel)), fun H4 mp s7 nmp emp => ?_⟩
      refine ⟨tp3, mp, mulP st.1 [a, b], _, rfl, s7 _ _ et3, emp, by rw [List.length_map]; omega, by omega, fun H5 tt s8 ntt ett => ?_⟩
      have cs2 := chS_next lF lS cs hk
      rw [← en2] at cs2
      refine ⟨tt, rfl, (((sm.trans s5).trans s6).trans s7).trans s8, (_, mulP st.2 [c, d]), ett, s8 _ _ (s7 _ _ (s6 _ _ ep2)), cs2, nx.2, nx.1, ?_⟩
      rw [← fin]
      have ed : (es.drop 1).drop i = n :: (es.drop 1).drop (i + 1) := by
        have hi2 : i < (es.drop 1).length := by omega
        rw [List.drop_eq_getElem_cons hi2]
        congr 1
        rw [List.getElem?_eq_getElem hi2] at en
        exact Option.some.inj en
      rw [ed]
      rfl
    · obtain ⟨tp, pp, st, y, e, sm, et, ep, cs, b1, b2, fin⟩ := hP
      subst e
      rw [List.length_map, ldr] at b1 fin
      rw [List.drop_of_length_le (by omega)] at fin
      simp only [ap_seq, ap_next, ap_asg, ap_gName, ap_ret, ap_retN, ap_drop, ap_ifS, ap_break, ap_cont, ap_par, ap_aug, ap_ip, ap_gSub, ap_gTup, ap_gNil, ap_gCons, ap_var, ap_c, ap_op, ap_un, ap_if, ap_test, ap_B, ap_and, ap_or, ap_not, ap_andV, ap_orV, ap_notV, ap_nil, ap_cons, ap_tup, ap_lst, ap_cb, ap_bm, ap_call, ap_chain, ap_rI, ap_rI0, ap_rU, ap_rEq, ap_rNe, ap_revT, ap_sl, ap_part, ap_noPart, ap_ixLI, ap_ixTI, ap_ixLV, ap_ixTV, ap_len, ap_setLI, ap_setLV, ap_appI, ap_appV, ap_tupL, ap_listS, ap_sumLI, ap_sumTI, ap_repLI, ap_intI, ap_intB, ap_eqTI, ap_neTI, ap_eqLI, ap_neLI, ap_isi, ap_for, ap_rng1, ap_rng2, ap_iList, ap_iTup, ap_lc, ap_yes, ap_cut, ap_gTupH, ap_fmt, ap_jsn, ap_jsc, ap_gcd, ap_isqrt, ap_ixL, tyV_l, wipe_nil, wipe_cons, upd_same, ap_iEnT, ap_iEnL, ap_iZipA, ap_all, ap_tupT, ap_attF, ap_makeL, ap_att, ap_prop, ap_isO, ap_bin, ap_ne, ap_meth, ap_make, ins_inj, FE_inj, ap_slI, ap_catI, ap_perm, ap_lenO, ap_strO, ap_listO, ap_reprB, ap_iterT, ap_neT, ap_negO, ap_binI, ap_catL, ap_tM1, ap_repTI, ap_popN, ap_par3, ap_catTT, ap_repTA, ap_countT, ap_notInT, ap_repL1, ap_cm, ap_shl, ap_shr, ap_mask, ap_comb, ap_bits, ap_rng3, List.set_cons_zero, List.set_cons_succ, List.getElem?_cons_zero, List.getElem?_cons_succ, List.cons_append, List.nil_append, List.append_nil, Option.some.injEq, V.int.injEq, V.ref.injEq, V.bl.injEq, V.str.injEq, V.ty.injEq, Bool.not_true, Bool.not_false, HO.lst.injEq, HO.tup.injEq, reduceCtorEq, Int.reduceToNat, Int.reduceLT, Int.reduceLE, Nat.reduceAdd, Int.cast_ofNat_Int, gi_c0, gi_c1, gi_c2, gi_c3, Int.natCast_inj, map_int_inj, map_nil_iff, List.cons.injEq, exists_eq_left, exists_eq_left', exists_eq, exists_eq', exists_and_left, exists_and_right, exists_const, and_assoc, and_true, true_and, and_false, false_and, or_false, false_or, or_true, true_or, ite_true, ite_false, if_true, if_false, Bool.false_eq_true, own_cons, own_nil, le1, le2, le3, le4, me_cons, me_nil, List.length_map, List.length_cons, List.length_nil, ne_eq, not_false_eq_true, not_true_eq_false, decide_eq_true_eq]
      have fin2 : st.1 = chP [a, b] [c, d] es := fin
      refine k H' tp (S3.trans sm) (by rw [← fin2]; exact et) fun n hn => ?_
      rw [← fin2] at hn
      have e2 : es.length - 1 + 1 = es.length := by omega
      rw [e2] at b1
      exact Nat.le_trans (l1_mem hn) b1
end
end My
namespace My
open PySem PySem.Spec PyProof.Rows L2 Pr
theorem big_of' {i : Int} (h : i.natAbs < 2 ^ 4000) : -((2 ^ 250) ^ 16) < i ∧ i < (2 ^ 250) ^ 16 := by
  have e := bigE
  generalize (2 ^ 4000 : Nat) = B at e h
  rw [e]
  omega
theorem abs_pow (x : Int) {M : Nat} (h : x.natAbs ≤ M) : ∀ k : Nat, (x ^ k).natAbs ≤ M ^ k
  | 0 => by rw [Int.pow_zero, Nat.pow_zero]; exact Nat.le_refl 1
  | k + 1 => by
    rw [Int.pow_succ, Nat.pow_succ, Int.natAbs_mul]
    exact Nat.mul_le_mul (abs_pow x h k) h
theorem val_abs {x y : Int} {A M : Nat} (hM : 1 ≤ M) (hx : x.natAbs ≤ M) (hy : y.natAbs ≤ M) : ∀ (a : List Int), (∀ c ∈ a, c.natAbs ≤ A) → (val a x y).natAbs ≤ a.length * A * M ^ a.length
  | [], _ => Nat.zero_le _
  | c :: cs, h => by
    have ih := val_abs (A := A) hM hx hy cs fun d hd => h d (List.mem_cons_of_mem _ hd)
    have hc := h c (List.mem_cons_self ..)
    have hp := abs_pow x hx cs.length
    rw [val_cons, List.length_cons, Nat.pow_succ]
    have e1 : (c * x ^ cs.length).natAbs ≤ A * M ^ cs.length := by
      rw [Int.natAbs_mul]
      exact Nat.mul_le_mul hc hp
    have e2 : (y * val cs x y).natAbs ≤ M * (cs.length * A * M ^ cs.length) := by
      rw [Int.natAbs_mul]
      exact Nat.mul_le_mul hy ih
    have e3 : A * M ^ cs.length ≤ M * (A * M ^ cs.length) := Nat.le_mul_of_pos_left _ hM
    have e4 : (cs.length + 1) * A * (M ^ cs.length * M) = M * (cs.length * A * M ^ cs.length) + M * (A * M ^ cs.length) := by
      rw [Nat.add_mul, Nat.one_mul, Nat.add_mul, Nat.mul_comm (M ^ cs.length) M, Nat.mul_left_comm, Nat.mul_left_comm A M]
    omega
end My
namespace My
open PySem PySem.Spec PyProof.Rows L2 Pr
section
variable {P : Program} {w : World} {K : PySem.W.Frag} {mg : Str → Option Value} {base : Heap}
/-! ### the law's defs -/
def sp_law_value : Sp := fun vs H Q _ => ∃ (p : Addr) (es : List Int) (x y : Int) (A M : Nat), vs = [.ref p, .int x, .int y] ∧ H p = some (TI es) ∧ es.length ≤ 20 ∧ (∀ n ∈ es, n.natAbs ≤ A) ∧ A < 10 ^ 60 ∧ 1 ≤ M ∧ x.natAbs ≤ M ∧ y.natAbs ≤ M ∧ M < 10 ^ 31 ∧
  ∀ H', Same H H' → Q (.int (val es x y)) H'
theorem ok_law_value (T : Tx K mg) : FnOk P w K mg base CX0 1 T.f_law_value T.d_law_value p_law_value sp_law_value := by
  refine T.F_law_value.ok sc_law_value (fun vs H Q E h => ?_) (fun cdv A outer s H vs Q E hr h => ?_)
  · obtain ⟨p, es, x, y, A', M, rfl, _⟩ := h
    rfl
  · obtain ⟨p, es, x, y, B, M, rfl, ht, l20, bA, hA, hM, mx, my, hM2, k⟩ := h
    refine ⟨_, (pss_cons (ps_asg (pe_tup (pa_cons pe_int (pa_cons pe_int pa_nil))) (pg_tupH (n := 2) (by rfl) (pgs_cons (pg_name (i := 3) sc_law_value.nd rfl (by first | exact .inl rfl | exact .inr rfl)) (pgs_cons (pg_name (i := 4) sc_law_value.nd rfl (by first | exact .inl rfl | exact .inr rfl)) pgs_nil))))
      (pss_cons (ps_for PassesOwn.never rfl (pi_tup (pv 0)) (pg_name (i := 5) sc_law_value.nd rfl (by first | exact .inl rfl | exact .inr rfl))
      (pss_one (ps_par (i := 3) (j := 4) (by rfl) sc_law_value.nd rfl rfl (by decide) rfl rfl (pa_cons (pe_op op_add (pe_op op_mulB (pv 3) (pv 1)) (pe_op op_mulB (pv 5) (pv 4))) (pa_cons (pe_op op_mulB (pv 4) (pv 2)) pa_nil)) (by rfl))))
      (pss_one (ps_ret (pv 3))))), ?_⟩
    rw [st_law_value]
    simp only [ap_seq, ap_next, ap_asg, ap_gName, ap_ret, ap_retN, ap_drop, ap_ifS, ap_break, ap_cont, ap_par, ap_aug, ap_ip, ap_gSub, ap_gTup, ap_gNil, ap_gCons, ap_var, ap_c, ap_op, ap_un, ap_if, ap_test, ap_B, ap_and, ap_or, ap_not, ap_andV, ap_orV, ap_notV, ap_nil, ap_cons, ap_tup, ap_lst, ap_cb, ap_bm, ap_call, ap_chain, ap_rI, ap_rI0, ap_rU, ap_rEq, ap_rNe, ap_revT, ap_sl, ap_part, ap_noPart, ap_ixLI, ap_ixTI, ap_ixLV, ap_ixTV, ap_len, ap_setLI, ap_setLV, ap_appI, ap_appV, ap_tupL, ap_listS, ap_sumLI, ap_sumTI, ap_repLI, ap_intI, ap_intB, ap_eqTI, ap_neTI, ap_eqLI, ap_neLI, ap_isi, ap_for, ap_rng1, ap_rng2, ap_iList, ap_iTup, ap_lc, ap_yes, ap_cut, ap_gTupH, ap_fmt, ap_jsn, ap_jsc, ap_gcd, ap_isqrt, ap_ixL, tyV_l, wipe_nil, wipe_cons, upd_same, ap_iEnT, ap_iEnL, ap_iZipA, ap_all, ap_tupT, ap_attF, ap_makeL, ap_att, ap_prop, ap_isO, ap_bin, ap_ne, ap_meth, ap_make, ins_inj, FE_inj, ap_slI, ap_catI, ap_perm, ap_lenO, ap_strO, ap_listO, ap_reprB, ap_iterT, ap_neT, ap_negO, ap_binI, ap_catL, ap_tM1, ap_repTI, ap_popN, ap_par3, ap_catTT, ap_repTA, ap_countT, ap_notInT, ap_repL1, ap_cm, ap_shl, ap_shr, ap_mask, ap_comb, ap_bits, ap_rng3, List.set_cons_zero, List.set_cons_succ, List.getElem?_cons_zero, List.getElem?_cons_succ, List.cons_append, List.nil_append, List.append_nil, Option.some.injEq, V.int.injEq, V.ref.injEq, V.bl.injEq, V.str.injEq, V.ty.injEq, Bool.not_true, Bool.not_false, HO.lst.injEq, HO.tup.injEq, reduceCtorEq, Int.reduceToNat, Int.reduceLT, Int.reduceLE, Nat.reduceAdd, Int.cast_ofNat_Int, gi_c0, gi_c1, gi_c2, gi_c3, Int.natCast_inj, map_int_inj, map_nil_iff, List.cons.injEq, exists_eq_left, exists_eq_left', exists_eq, exists_eq', exists_and_left, exists_and_right, exists_const, and_assoc, and_true, true_and, and_false, false_and, or_false, false_or, or_true, true_or, ite_true, ite_false, if_true, if_false, Bool.false_eq_true, own_cons, own_nil, le1, le2, le3, le4, me_cons, me_nil, List.length_map, List.length_cons, List.length_nil, ne_eq, not_false_eq_true, not_true_eq_false, decide_eq_true_eq]
    refine ⟨by decide, fun u nu => ?_⟩
    have su := same_upd (o := HO.tup [V.int 0, V.int 1]) nu
    have ht1 := su _ _ ht
    have big : ∀ k, k ≤ es.length → (val (es.take k) x y).natAbs < 2 ^ 4000 ∧ (y ^ k).natAbs < 2 ^ 4000 := fun k hk => by
      have lt : (es.take k).length = k := by rw [List.length_take]; omega
      have h1 := val_abs (A := B) hM mx my (es.take k) fun c hc => bA c (List.mem_of_mem_take hc)
      have h2 := abs_pow y my k
      rw [lt] at h1
      have h3 : M ^ k ≤ (10 ^ 31) ^ 20 := Nat.le_trans (Nat.pow_le_pow_left (Nat.le_of_lt hM2) k) (Nat.pow_le_pow_right (by decide) (by omega))
      have h4 : k * B * M ^ k ≤ 20 * 10 ^ 60 * (10 ^ 31) ^ 20 := Nat.mul_le_mul (Nat.mul_le_mul (by omega) (Nat.le_of_lt hA)) h3
      exact ⟨Nat.lt_of_le_of_lt (Nat.le_trans h1 h4) (by decide +kernel), Nat.lt_of_le_of_lt (Nat.le_trans h2 h3) (by decide +kernel)⟩
    have bx' := big_of' (Nat.lt_of_le_of_lt mx (Nat.lt_trans hM2 (by decide +kernel)))
    have by' := big_of' (Nat.lt_of_le_of_lt my (Nat.lt_trans hM2 (by decide +kernel)))
    refine ⟨⟨_, sqT_of ht1⟩, loop_gen (gives_tup (xs := es.map V.int)) (fun i σ' H' => (∃ z, σ' = [some (.ref p), some (.int x), some (.int y), some (.int (val (es.take i) x y)), some (.int (y ^ i)), z]) ∧ Same H H') ⟨⟨none, by rw [Int.pow_zero]; rfl⟩, su⟩ (fun i σ' H' _ hP => hP.2 _ _ ht) (fun i v σ' H' H'' hi hP hy => ?_) (fun σ' H' hP => ?_)⟩
    · obtain ⟨⟨z, e⟩, sm⟩ := hP
      obtain ⟨rfl, hv⟩ := hy
      obtain ⟨n, rfl, en⟩ := at_int hv
      subst e
      rw [List.length_map] at hi
      have bn := big_of' (Nat.lt_trans (Nat.lt_of_le_of_lt (bA n (List.mem_of_getElem? en)) hA) (show (10 : Nat) ^ 60 < 2 ^ 4000 by decide +kernel))
      have b1 := big_of' (big i (by omega)).1
      have b2 := big_of' (big i (by omega)).2
      simp only [ap_seq, ap_next, ap_asg, ap_gName, ap_ret, ap_retN, ap_drop, ap_ifS, ap_break, ap_cont, ap_par, ap_aug, ap_ip, ap_gSub, ap_gTup, ap_gNil, ap_gCons, ap_var, ap_c, ap_op, ap_un, ap_if, ap_test, ap_B, ap_and, ap_or, ap_not, ap_andV, ap_orV, ap_notV, ap_nil, ap_cons, ap_tup, ap_lst, ap_cb, ap_bm, ap_call, ap_chain, ap_rI, ap_rI0, ap_rU, ap_rEq, ap_rNe, ap_revT, ap_sl, ap_part, ap_noPart, ap_ixLI, ap_ixTI, ap_ixLV, ap_ixTV, ap_len, ap_setLI, ap_setLV, ap_appI, ap_appV, ap_tupL, ap_listS, ap_sumLI, ap_sumTI, ap_repLI, ap_intI, ap_intB, ap_eqTI, ap_neTI, ap_eqLI, ap_neLI, ap_isi, ap_for, ap_rng1, ap_rng2, ap_iList, ap_iTup, ap_lc, ap_yes, ap_cut, ap_gTupH, ap_fmt, ap_jsn, ap_jsc, ap_gcd, ap_isqrt, ap_ixL, tyV_l, wipe_nil, wipe_cons, upd_same, ap_iEnT, ap_iEnL, ap_iZipA, ap_all, ap_tupT, ap_attF, ap_makeL, ap_att, ap_prop, ap_isO, ap_bin, ap_ne, ap_meth, ap_make, ins_inj, FE_inj, ap_slI, ap_catI, ap_perm, ap_lenO, ap_strO, ap_listO, ap_reprB, ap_iterT, ap_neT, ap_negO, ap_binI, ap_catL, ap_tM1, ap_repTI, ap_popN, ap_par3, ap_catTT, ap_repTA, ap_countT, ap_notInT, ap_repL1, ap_cm, ap_shl, ap_shr, ap_mask, ap_comb, ap_bits, ap_rng3, List.set_cons_zero, List.set_cons_succ, List.getElem?_cons_zero, List.getElem?_cons_succ, List.cons_append, List.nil_append, List.append_nil, Option.some.injEq, V.int.injEq, V.ref.injEq, V.bl.injEq, V.str.injEq, V.ty.injEq, Bool.not_true, Bool.not_false, HO.lst.injEq, HO.tup.injEq, reduceCtorEq, Int.reduceToNat, Int.reduceLT, Int.reduceLE, Nat.reduceAdd, Int.cast_ofNat_Int, gi_c0, gi_c1, gi_c2, gi_c3, Int.natCast_inj, map_int_inj, map_nil_iff, List.cons.injEq, exists_eq_left, exists_eq_left', exists_eq, exists_eq', exists_and_left, exists_and_right, exists_const, and_assoc, and_true, true_and, and_false, false_and, or_false, false_or, or_true, true_or, ite_true, ite_false, if_true, if_false, Bool.false_eq_true, own_cons, own_nil, le1, le2, le3, le4, me_cons, me_nil, List.length_map, List.length_cons, List.length_nil, ne_eq, not_false_eq_true, not_true_eq_false, decide_eq_true_eq, CMu]
      refine ⟨b1.1, b1.2, bx'.1, bx'.2, bn.1, bn.2, b2.1, b2.2, b2.1, b2.2, by'.1, by'.2, ?_, ?_, sm⟩
      · have et : es.take (i + 1) = es.take i ++ [n] := by rw [List.take_succ, en]; rfl
        have lt : (es.take i).length = i := by rw [List.length_take]; omega
        rw [et, val_snoc, lt, Int.mul_comm n]
      · rw [Int.pow_succ]
    · obtain ⟨⟨z, e⟩, sm⟩ := hP
      subst e
      rw [List.length_map, List.take_length]
      simp only [ap_seq, ap_next, ap_asg, ap_gName, ap_ret, ap_retN, ap_drop, ap_ifS, ap_break, ap_cont, ap_par, ap_aug, ap_ip, ap_gSub, ap_gTup, ap_gNil, ap_gCons, ap_var, ap_c, ap_op, ap_un, ap_if, ap_test, ap_B, ap_and, ap_or, ap_not, ap_andV, ap_orV, ap_notV, ap_nil, ap_cons, ap_tup, ap_lst, ap_cb, ap_bm, ap_call, ap_chain, ap_rI, ap_rI0, ap_rU, ap_rEq, ap_rNe, ap_revT, ap_sl, ap_part, ap_noPart, ap_ixLI, ap_ixTI, ap_ixLV, ap_ixTV, ap_len, ap_setLI, ap_setLV, ap_appI, ap_appV, ap_tupL, ap_listS, ap_sumLI, ap_sumTI, ap_repLI, ap_intI, ap_intB, ap_eqTI, ap_neTI, ap_eqLI, ap_neLI, ap_isi, ap_for, ap_rng1, ap_rng2, ap_iList, ap_iTup, ap_lc, ap_yes, ap_cut, ap_gTupH, ap_fmt, ap_jsn, ap_jsc, ap_gcd, ap_isqrt, ap_ixL, tyV_l, wipe_nil, wipe_cons, upd_same, ap_iEnT, ap_iEnL, ap_iZipA, ap_all, ap_tupT, ap_attF, ap_makeL, ap_att, ap_prop, ap_isO, ap_bin, ap_ne, ap_meth, ap_make, ins_inj, FE_inj, ap_slI, ap_catI, ap_perm, ap_lenO, ap_strO, ap_listO, ap_reprB, ap_iterT, ap_neT, ap_negO, ap_binI, ap_catL, ap_tM1, ap_repTI, ap_popN, ap_par3, ap_catTT, ap_repTA, ap_countT, ap_notInT, ap_repL1, ap_cm, ap_shl, ap_shr, ap_mask, ap_comb, ap_bits, ap_rng3, List.set_cons_zero, List.set_cons_succ, List.getElem?_cons_zero, List.getElem?_cons_succ, List.cons_append, List.nil_append, List.append_nil, Option.some.injEq, V.int.injEq, V.ref.injEq, V.bl.injEq, V.str.injEq, V.ty.injEq, Bool.not_true, Bool.not_false, HO.lst.injEq, HO.tup.injEq, reduceCtorEq, Int.reduceToNat, Int.reduceLT, Int.reduceLE, Nat.reduceAdd, Int.cast_ofNat_Int, gi_c0, gi_c1, gi_c2, gi_c3, Int.natCast_inj, map_int_inj, map_nil_iff, List.cons.injEq, exists_eq_left, exists_eq_left', exists_eq, exists_eq', exists_and_left, exists_and_right, exists_const, and_assoc, and_true, true_and, and_false, false_and, or_false, false_or, or_true, true_or, ite_true, ite_false, if_true, if_false, Bool.false_eq_true, own_cons, own_nil, le1, le2, le3, le4, me_cons, me_nil, List.length_map, List.length_cons, List.length_nil, ne_eq, not_false_eq_true, not_true_eq_false, decide_eq_true_eq]
      exact k H' sm
def sp_law_det : Sp := fun vs H Q _ => ∃ (p : Addr) (a b c d : Int), vs = [.ref p] ∧ TabAt H p a b c d ∧ Sm a ∧ Sm b ∧ Sm c ∧ Sm d ∧ Q (.int (a * d - b * c)) H
theorem ok_law_det (T : Tx K mg) : FnOk P w K mg base CX0 1 T.f_law_det T.d_law_det p_law_det sp_law_det := by
  refine T.F_law_det.ok sc_law_det (fun vs H Q E h => ?_) (fun cdv A outer s H vs Q E hr h => ?_)
  · obtain ⟨p, a, b, c, d, rfl, _⟩ := h
    rfl
  · obtain ⟨p, a, b, c, d, rfl, ⟨r, t, h1, h2, h3⟩, ba, bb, bc, bd, q⟩ := h
    refine ⟨_, (pss_one (ps_ret (pe_op op_sub (pe_op op_mulB (pe_ix ix_TI (pe_ix ix_TV (pv 0) pe_int (fun _ _ => rfl)) pe_int (fun _ _ => rfl)) (pe_ix ix_TI (pe_ix ix_TV (pv 0) pe_int (fun _ _ => rfl)) pe_int (fun _ _ => rfl))) (pe_op op_mulB (pe_ix ix_TI (pe_ix ix_TV (pv 0) pe_int (fun _ _ => rfl)) pe_int (fun _ _ => rfl)) (pe_ix ix_TI (pe_ix ix_TV (pv 0) pe_int (fun _ _ => rfl)) pe_int (fun _ _ => rfl)))))), ?_⟩
    rw [st_law_det]
    simp only [ap_seq, ap_next, ap_asg, ap_gName, ap_ret, ap_retN, ap_drop, ap_ifS, ap_break, ap_cont, ap_par, ap_aug, ap_ip, ap_gSub, ap_gTup, ap_gNil, ap_gCons, ap_var, ap_c, ap_op, ap_un, ap_if, ap_test, ap_B, ap_and, ap_or, ap_not, ap_andV, ap_orV, ap_notV, ap_nil, ap_cons, ap_tup, ap_lst, ap_cb, ap_bm, ap_call, ap_chain, ap_rI, ap_rI0, ap_rU, ap_rEq, ap_rNe, ap_revT, ap_sl, ap_part, ap_noPart, ap_ixLI, ap_ixTI, ap_ixLV, ap_ixTV, ap_len, ap_setLI, ap_setLV, ap_appI, ap_appV, ap_tupL, ap_listS, ap_sumLI, ap_sumTI, ap_repLI, ap_intI, ap_intB, ap_eqTI, ap_neTI, ap_eqLI, ap_neLI, ap_isi, ap_for, ap_rng1, ap_rng2, ap_iList, ap_iTup, ap_lc, ap_yes, ap_cut, ap_gTupH, ap_fmt, ap_jsn, ap_jsc, ap_gcd, ap_isqrt, ap_ixL, tyV_l, wipe_nil, wipe_cons, upd_same, ap_iEnT, ap_iEnL, ap_iZipA, ap_all, ap_tupT, ap_attF, ap_makeL, ap_att, ap_prop, ap_isO, ap_bin, ap_ne, ap_meth, ap_make, ins_inj, FE_inj, ap_slI, ap_catI, ap_perm, ap_lenO, ap_strO, ap_listO, ap_reprB, ap_iterT, ap_neT, ap_negO, ap_binI, ap_catL, ap_tM1, ap_repTI, ap_popN, ap_par3, ap_catTT, ap_repTA, ap_countT, ap_notInT, ap_repL1, ap_cm, ap_shl, ap_shr, ap_mask, ap_comb, ap_bits, ap_rng3, List.set_cons_zero, List.set_cons_succ, List.getElem?_cons_zero, List.getElem?_cons_succ, List.cons_append, List.nil_append, List.append_nil, Option.some.injEq, V.int.injEq, V.ref.injEq, V.bl.injEq, V.str.injEq, V.ty.injEq, Bool.not_true, Bool.not_false, HO.lst.injEq, HO.tup.injEq, reduceCtorEq, Int.reduceToNat, Int.reduceLT, Int.reduceLE, Nat.reduceAdd, Int.cast_ofNat_Int, gi_c0, gi_c1, gi_c2, gi_c3, Int.natCast_inj, map_int_inj, map_nil_iff, List.cons.injEq, exists_eq_left, exists_eq_left', exists_eq, exists_eq', exists_and_left, exists_and_right, exists_const, and_assoc, and_true, true_and, and_false, false_and, or_false, false_or, or_true, true_or, ite_true, ite_false, if_true, if_false, Bool.false_eq_true, own_cons, own_nil, le1, le2, le3, le4, me_cons, me_nil, List.length_map, List.length_cons, List.length_nil, ne_eq, not_false_eq_true, not_true_eq_false, decide_eq_true_eq, h1, h2, h3, CMu]
    have ca := ba.wd
    have cb := bb.wd
    have cc := bc.wd
    have cd := bd.wd
    refine ⟨_, rfl, r, rfl, _, h2, by show (0 : Int) < 2; omega, _, rfl, t, rfl, _, h3, by show (1 : Int) < 2; omega, ca.1, ca.2, cd.1, cd.2, _, rfl, r, rfl, _, h2, by show (1 : Int) < 2; omega, _, rfl, t, rfl, _, h3, by show (0 : Int) < 2; omega, cb.1, cb.2, cc.1, cc.2, q⟩
end
end My
namespace My
open PySem PySem.Spec PyProof.Rows L2 Pr
section
variable {P : Program} {w : World} {K : PySem.W.Frag} {mg : Str → Option Value} {base : Heap}
/-- one of the ints of a list -/
def sp_law_pick : Sp := fun vs H Q _ => ∃ (d a : Addr) (ns : List Int), vs = [.ref d, .ref a] ∧ Dc H d ∧ H a = some (LI ns) ∧ a ≠ d ∧ 0 < ns.length ∧ ns.length < 1000 ∧
  ∀ H' (i : Nat), Exc d H H' → Dc H' d → i < ns.length → Q (.int (ns.getD i 0)) H'
theorem ok_law_pick (T : Tx K mg) : FnOk P w K mg base CX0 2 T.f_law_pick T.d_law_pick p_law_pick sp_law_pick := by
  refine T.F_law_pick.ok sc_law_pick (fun vs H Q E h => ?_) (fun cdv A outer s H vs Q E hr h => ?_)
  · obtain ⟨d, a, ns, rfl, _⟩ := h
    rfl
  · obtain ⟨d, a, ns, rfl, hD, ha, nad, h0, h1, q⟩ := h
    refine ⟨_, (pss_one (ps_ret (pe_ix ix_LI (pv 1) (pe_call (ok_law_roll T) (hr.mono (by decide)) (by rfl) T.m_law_roll T.F_law_roll.kp T.b_law_roll .nil pass0 (pa_cons (pv 0) (pa_cons (pe_callB cr_len (by rfl) T.z_len PySem.boot_len (pa_cons (pv 1) pa_nil)) pa_nil))) (fun _ _ => rfl)))), ?_⟩
    rw [st_law_pick]
    simp only [ap_seq, ap_next, ap_asg, ap_gName, ap_ret, ap_retN, ap_drop, ap_ifS, ap_break, ap_cont, ap_par, ap_aug, ap_ip, ap_gSub, ap_gTup, ap_gNil, ap_gCons, ap_var, ap_c, ap_op, ap_un, ap_if, ap_test, ap_B, ap_and, ap_or, ap_not, ap_andV, ap_orV, ap_notV, ap_nil, ap_cons, ap_tup, ap_lst, ap_cb, ap_bm, ap_call, ap_chain, ap_rI, ap_rI0, ap_rU, ap_rEq, ap_rNe, ap_revT, ap_sl, ap_part, ap_noPart, ap_ixLI, ap_ixTI, ap_ixLV, ap_ixTV, ap_len, ap_setLI, ap_setLV, ap_appI, ap_appV, ap_tupL, ap_listS, ap_sumLI, ap_sumTI, ap_repLI, ap_intI, ap_intB, ap_eqTI, ap_neTI, ap_eqLI, ap_neLI, ap_isi, ap_for, ap_rng1, ap_rng2, ap_iList, ap_iTup, ap_lc, ap_yes, ap_cut, ap_gTupH, ap_fmt, ap_jsn, ap_jsc, ap_gcd, ap_isqrt, ap_ixL, tyV_l, wipe_nil, wipe_cons, upd_same, ap_iEnT, ap_iEnL, ap_iZipA, ap_all, ap_tupT, ap_attF, ap_makeL, ap_att, ap_prop, ap_isO, ap_bin, ap_ne, ap_meth, ap_make, ins_inj, FE_inj, ap_slI, ap_catI, ap_perm, ap_lenO, ap_strO, ap_listO, ap_reprB, ap_iterT, ap_neT, ap_negO, ap_binI, ap_catL, ap_tM1, ap_repTI, ap_popN, ap_par3, ap_catTT, ap_repTA, ap_countT, ap_notInT, ap_repL1, ap_cm, ap_shl, ap_shr, ap_mask, ap_comb, ap_bits, ap_rng3, List.set_cons_zero, List.set_cons_succ, List.getElem?_cons_zero, List.getElem?_cons_succ, List.cons_append, List.nil_append, List.append_nil, Option.some.injEq, V.int.injEq, V.ref.injEq, V.bl.injEq, V.str.injEq, V.ty.injEq, Bool.not_true, Bool.not_false, HO.lst.injEq, HO.tup.injEq, reduceCtorEq, Int.reduceToNat, Int.reduceLT, Int.reduceLE, Nat.reduceAdd, Int.cast_ofNat_Int, gi_c0, gi_c1, gi_c2, gi_c3, Int.natCast_inj, map_int_inj, map_nil_iff, List.cons.injEq, exists_eq_left, exists_eq_left', exists_eq, exists_eq', exists_and_left, exists_and_right, exists_const, and_assoc, and_true, true_and, and_false, false_and, or_false, false_or, or_true, true_or, ite_true, ite_false, if_true, if_false, Bool.false_eq_true, own_cons, own_nil, le1, le2, le3, le4, me_cons, me_nil, List.length_map, List.length_cons, List.length_nil, ne_eq, not_false_eq_true, not_true_eq_false, decide_eq_true_eq, sp_law_roll, ha]
    refine ⟨hD, by omega, by omega, fun H2 r ex dc r0 r1 => ?_⟩
    have ha2 := ex _ _ nad ha
    simp only [ap_seq, ap_next, ap_asg, ap_gName, ap_ret, ap_retN, ap_drop, ap_ifS, ap_break, ap_cont, ap_par, ap_aug, ap_ip, ap_gSub, ap_gTup, ap_gNil, ap_gCons, ap_var, ap_c, ap_op, ap_un, ap_if, ap_test, ap_B, ap_and, ap_or, ap_not, ap_andV, ap_orV, ap_notV, ap_nil, ap_cons, ap_tup, ap_lst, ap_cb, ap_bm, ap_call, ap_chain, ap_rI, ap_rI0, ap_rU, ap_rEq, ap_rNe, ap_revT, ap_sl, ap_part, ap_noPart, ap_ixLI, ap_ixTI, ap_ixLV, ap_ixTV, ap_len, ap_setLI, ap_setLV, ap_appI, ap_appV, ap_tupL, ap_listS, ap_sumLI, ap_sumTI, ap_repLI, ap_intI, ap_intB, ap_eqTI, ap_neTI, ap_eqLI, ap_neLI, ap_isi, ap_for, ap_rng1, ap_rng2, ap_iList, ap_iTup, ap_lc, ap_yes, ap_cut, ap_gTupH, ap_fmt, ap_jsn, ap_jsc, ap_gcd, ap_isqrt, ap_ixL, tyV_l, wipe_nil, wipe_cons, upd_same, ap_iEnT, ap_iEnL, ap_iZipA, ap_all, ap_tupT, ap_attF, ap_makeL, ap_att, ap_prop, ap_isO, ap_bin, ap_ne, ap_meth, ap_make, ins_inj, FE_inj, ap_slI, ap_catI, ap_perm, ap_lenO, ap_strO, ap_listO, ap_reprB, ap_iterT, ap_neT, ap_negO, ap_binI, ap_catL, ap_tM1, ap_repTI, ap_popN, ap_par3, ap_catTT, ap_repTA, ap_countT, ap_notInT, ap_repL1, ap_cm, ap_shl, ap_shr, ap_mask, ap_comb, ap_bits, ap_rng3, List.set_cons_zero, List.set_cons_succ, List.getElem?_cons_zero, List.getElem?_cons_succ, List.cons_append, List.nil_append, List.append_nil, Option.some.injEq, V.int.injEq, V.ref.injEq, V.bl.injEq, V.str.injEq, V.ty.injEq, Bool.not_true, Bool.not_false, HO.lst.injEq, HO.tup.injEq, reduceCtorEq, Int.reduceToNat, Int.reduceLT, Int.reduceLE, Nat.reduceAdd, Int.cast_ofNat_Int, gi_c0, gi_c1, gi_c2, gi_c3, Int.natCast_inj, map_int_inj, map_nil_iff, List.cons.injEq, exists_eq_left, exists_eq_left', exists_eq, exists_eq', exists_and_left, exists_and_right, exists_const, and_assoc, and_true, true_and, and_false, false_and, or_false, false_or, or_true, true_or, ite_true, ite_false, if_true, if_false, Bool.false_eq_true, own_cons, own_nil, le1, le2, le3, le4, me_cons, me_nil, List.length_map, List.length_cons, List.length_nil, ne_eq, not_false_eq_true, not_true_eq_false, decide_eq_true_eq, ha2]
    refine ⟨r0, r1, ?_⟩
    have e : gi ns r = ns.getD r.toNat 0 := rfl
    rw [e]
    exact q H2 r.toNat ex dc (by omega)
def sp_determinant_of : Sp := fun vs H Q _ => ∃ (p : Addr) (a b c d : Int), vs = [.ref p] ∧ TabAt H p a b c d ∧ Sm a ∧ Sm b ∧ Sm c ∧ Sm d ∧ Q (.int (a * d - b * c)) H
theorem ok_determinant_of (T : Tx K mg) : FnOk P w K mg base CX0 1 T.f_determinant_of T.d_determinant_of p_determinant_of sp_determinant_of := by
  refine T.F_determinant_of.ok sc_determinant_of (fun vs H Q E h => ?_) (fun cdv A outer s H vs Q E hr h => ?_)
  · obtain ⟨p, a, b, c, d, rfl, _⟩ := h
    rfl
  · obtain ⟨p, a, b, c, d, rfl, ⟨r, s', h1, h2, h3⟩, ba, bb, bc, bd, q⟩ := h
    refine ⟨_, (pss_one (ps_ret (pe_op op_sub (pe_op op_mulB (pe_ix ix_TI (pe_ix ix_TV (pv 0) pe_int (fun _ _ => rfl)) pe_int (fun _ _ => rfl)) (pe_ix ix_TI (pe_ix ix_TV (pv 0) pe_int (fun _ _ => rfl)) pe_int (fun _ _ => rfl))) (pe_op op_mulB (pe_ix ix_TI (pe_ix ix_TV (pv 0) pe_int (fun _ _ => rfl)) pe_int (fun _ _ => rfl)) (pe_ix ix_TI (pe_ix ix_TV (pv 0) pe_int (fun _ _ => rfl)) pe_int (fun _ _ => rfl)))))), ?_⟩
    rw [st_determinant_of]
    simp only [ap_seq, ap_next, ap_asg, ap_gName, ap_ret, ap_retN, ap_drop, ap_ifS, ap_break, ap_cont, ap_par, ap_aug, ap_ip, ap_gSub, ap_gTup, ap_gNil, ap_gCons, ap_var, ap_c, ap_op, ap_un, ap_if, ap_test, ap_B, ap_and, ap_or, ap_not, ap_andV, ap_orV, ap_notV, ap_nil, ap_cons, ap_tup, ap_lst, ap_cb, ap_bm, ap_call, ap_chain, ap_rI, ap_rI0, ap_rU, ap_rEq, ap_rNe, ap_revT, ap_sl, ap_part, ap_noPart, ap_ixLI, ap_ixTI, ap_ixLV, ap_ixTV, ap_len, ap_setLI, ap_setLV, ap_appI, ap_appV, ap_tupL, ap_listS, ap_sumLI, ap_sumTI, ap_repLI, ap_intI, ap_intB, ap_eqTI, ap_neTI, ap_eqLI, ap_neLI, ap_isi, ap_for, ap_rng1, ap_rng2, ap_iList, ap_iTup, ap_lc, ap_yes, ap_cut, ap_gTupH, ap_fmt, ap_jsn, ap_jsc, ap_gcd, ap_isqrt, ap_ixL, tyV_l, wipe_nil, wipe_cons, upd_same, ap_iEnT, ap_iEnL, ap_iZipA, ap_all, ap_tupT, ap_attF, ap_makeL, ap_att, ap_prop, ap_isO, ap_bin, ap_ne, ap_meth, ap_make, ins_inj, FE_inj, ap_slI, ap_catI, ap_perm, ap_lenO, ap_strO, ap_listO, ap_reprB, ap_iterT, ap_neT, ap_negO, ap_binI, ap_catL, ap_tM1, ap_repTI, ap_popN, ap_par3, ap_catTT, ap_repTA, ap_countT, ap_notInT, ap_repL1, ap_cm, ap_shl, ap_shr, ap_mask, ap_comb, ap_bits, ap_rng3, List.set_cons_zero, List.set_cons_succ, List.getElem?_cons_zero, List.getElem?_cons_succ, List.cons_append, List.nil_append, List.append_nil, Option.some.injEq, V.int.injEq, V.ref.injEq, V.bl.injEq, V.str.injEq, V.ty.injEq, Bool.not_true, Bool.not_false, HO.lst.injEq, HO.tup.injEq, reduceCtorEq, Int.reduceToNat, Int.reduceLT, Int.reduceLE, Nat.reduceAdd, Int.cast_ofNat_Int, gi_c0, gi_c1, gi_c2, gi_c3, Int.natCast_inj, map_int_inj, map_nil_iff, List.cons.injEq, exists_eq_left, exists_eq_left', exists_eq, exists_eq', exists_and_left, exists_and_right, exists_const, and_assoc, and_true, true_and, and_false, false_and, or_false, false_or, or_true, true_or, ite_true, ite_false, if_true, if_false, Bool.false_eq_true, own_cons, own_nil, le1, le2, le3, le4, me_cons, me_nil, List.length_map, List.length_cons, List.length_nil, ne_eq, not_false_eq_true, not_true_eq_false, decide_eq_true_eq, h1]
    exact ⟨_, rfl, r, rfl, _, h2, by show (0 : Int) < 2; omega, _, rfl, s', rfl, _, h3, by show (1 : Int) < 2; omega, ⟨ba.wd, bd.wd⟩, _, rfl, r, rfl, _, h2, by show (1 : Int) < 2; omega, _, rfl, s', rfl, _, h3, by show (0 : Int) < 2; omega, ⟨bb.wd, bc.wd⟩, q⟩
theorem range_getD (g : Int → Int) (ns : List Int) : (List.range ns.length).map (fun i => g (ns.getD i 0)) = ns.map g := by
  refine List.ext_getElem (by simp) fun i h1 h2 => ?_
  rw [List.length_map, List.length_range] at h1
  rw [List.getElem_map, List.getElem_map, List.getElem_range, List.getD_eq_getElem?_getD, List.getElem?_eq_getElem h1]
  rfl
section
variable {σ : L2.St} {H : Hp} {vs : List Nat} {te : TE} {Q : VK} {j : Nat}
theorem lc_mapT {a : Addr} {ns : List Int} (g : Int → Int) (hx : H a = some (TI ns)) (hn : ns.length < 1000000) (hw : ∀ x, wipe ((wipe σ vs).set j (some x)) vs = wipe σ vs)
    (he : ∀ n, n ∈ ns → ∀ H', Same H H' → ∀ Q' : VK, (∀ H'', Same H' H'' → Q' (.int (g n)) H'') → te ((wipe σ vs).set j (some (.int n))) H' Q')
    (hq : ∀ p H', H p = none → Same H H' → H' p = some (LI (ns.map g)) → Q (.ref p) H') : tLcIn (gName j) tYes te vs σ Q (Itt K a) H := by
  refine lc_tupI (fun i => g (ns.getD i 0)) hx (by rw [List.length_map]; exact hn) hw (fun i x H' hx sm Q' k' => ?_) (fun A H' hA sm e => ?_)
  · obtain ⟨n, rfl, en⟩ := at_int hx
    refine he n (List.mem_of_getElem? en) H' sm Q' ?_
    rw [List.getD_eq_getElem?_getD, en] at k'
    exact k'
  · rw [List.length_map, range_getD] at e
    exact hq A H' hA sm e
theorem lc_mapL {a : Addr} {ns : List Int} (g : Int → Int) (hx : H a = some (LI ns)) (hn : ns.length < 1000000) (hw : ∀ x, wipe ((wipe σ vs).set j (some x)) vs = wipe σ vs)
    (he : ∀ n, n ∈ ns → ∀ H', Same H H' → ∀ Q' : VK, (∀ H'', Same H' H'' → Q' (.int (g n)) H'') → te ((wipe σ vs).set j (some (.int n))) H' Q')
    (hq : ∀ p H', H p = none → Same H H' → H' p = some (LI (ns.map g)) → Q (.ref p) H') : tLcIn (gName j) tYes te vs σ Q (Itl K a) H := by
  refine lc_listI (fun i => g (ns.getD i 0)) hx (by rw [List.length_map]; exact hn) hw (fun i x H' hx sm Q' k' => ?_) (fun A H' hA sm e => ?_)
  · obtain ⟨n, rfl, en⟩ := at_int hx
    refine he n (List.mem_of_getElem? en) H' sm Q' ?_
    rw [List.getD_eq_getElem?_getD, en] at k'
    exact k'
  · rw [List.length_map, range_getD] at e
    exact hq A H' hA sm e
end
/-- a row: a list or a tuple of ints -/
def RowAt (H : Hp) (a : Addr) (ns : List Int) : Prop := H a = some (LI ns) ∨ H a = some (TI ns)
theorem RowAt.same {H H' : Hp} {a : Addr} {ns : List Int} (h : RowAt H a ns) (s : Same H H') : RowAt H' a ns := h.imp (s _ _) (s _ _)
def sp_modulo : Sp := fun vs H Q _ => ∃ (a : Addr) (ns : List Int) (p : Int), vs = [.ref a, .int p] ∧ RowAt H a ns ∧ ns.length < 1000 ∧ (∀ n ∈ ns, Wd n) ∧ 0 < p ∧ p < 1000 ∧
  ∀ H' r, Same H H' → H r = none → H' r = some (TI (ns.map (· % p))) → Q (.ref r) H'
theorem ok_modulo (T : Tx K mg) : FnOk P w K mg base CX0 1 T.f_modulo T.d_modulo p_modulo sp_modulo := by
  refine T.F_modulo.ok sc_modulo (fun vs H Q E h => ?_) (fun cdv A outer s H vs Q E hr h => ?_)
  · obtain ⟨a, ns, p, rfl, _⟩ := h
    rfl
  · obtain ⟨a, ns, p, rfl, ha, hl, hn, p0, p1, k⟩ := h
    rcases ha with ha | ha
    · refine ⟨_, (pss_one (ps_ret (pe_callTy cr_tupL (by rfl) T.z_tuple (by decide +kernel) (pa_cons (pe_lc (own := [("number", 2)]) (g := gName 2) (tt := tYes) rfl sc_modulo.nd (pi_list (pv 0)) (blkOk_by (N := n_modulo) (sc := defScope s_modulo) (by decide +kernel)) (fun _ _ _ _ _ => (pg_name (i := 2) sc_modulo.nd rfl (by first | exact .inl rfl | exact .inr rfl))) (fun _ _ _ _ _ => pts_nil) (fun _ _ _ _ _ => (pe_op op_mod (pv 2) (pv 1)))) pa_nil)))), ?_⟩
      rw [st_modulo]
      simp only [ap_seq, ap_next, ap_asg, ap_gName, ap_ret, ap_retN, ap_drop, ap_ifS, ap_break, ap_cont, ap_par, ap_aug, ap_ip, ap_gSub, ap_gTup, ap_gNil, ap_gCons, ap_var, ap_c, ap_op, ap_un, ap_if, ap_test, ap_B, ap_and, ap_or, ap_not, ap_andV, ap_orV, ap_notV, ap_nil, ap_cons, ap_tup, ap_lst, ap_cb, ap_bm, ap_call, ap_chain, ap_rI, ap_rI0, ap_rU, ap_rEq, ap_rNe, ap_revT, ap_sl, ap_part, ap_noPart, ap_ixLI, ap_ixTI, ap_ixLV, ap_ixTV, ap_len, ap_setLI, ap_setLV, ap_appI, ap_appV, ap_tupL, ap_listS, ap_sumLI, ap_sumTI, ap_repLI, ap_intI, ap_intB, ap_eqTI, ap_neTI, ap_eqLI, ap_neLI, ap_isi, ap_for, ap_rng1, ap_rng2, ap_iList, ap_iTup, ap_lc, ap_yes, ap_cut, ap_gTupH, ap_fmt, ap_jsn, ap_jsc, ap_gcd, ap_isqrt, ap_ixL, tyV_l, wipe_nil, wipe_cons, upd_same, ap_iEnT, ap_iEnL, ap_iZipA, ap_all, ap_tupT, ap_attF, ap_makeL, ap_att, ap_prop, ap_isO, ap_bin, ap_ne, ap_meth, ap_make, ins_inj, FE_inj, ap_slI, ap_catI, ap_perm, ap_lenO, ap_strO, ap_listO, ap_reprB, ap_iterT, ap_neT, ap_negO, ap_binI, ap_catL, ap_tM1, ap_repTI, ap_popN, ap_par3, ap_catTT, ap_repTA, ap_countT, ap_notInT, ap_repL1, ap_cm, ap_shl, ap_shr, ap_mask, ap_comb, ap_bits, ap_rng3, List.set_cons_zero, List.set_cons_succ, List.getElem?_cons_zero, List.getElem?_cons_succ, List.cons_append, List.nil_append, List.append_nil, Option.some.injEq, V.int.injEq, V.ref.injEq, V.bl.injEq, V.str.injEq, V.ty.injEq, Bool.not_true, Bool.not_false, HO.lst.injEq, HO.tup.injEq, reduceCtorEq, Int.reduceToNat, Int.reduceLT, Int.reduceLE, Nat.reduceAdd, Int.cast_ofNat_Int, gi_c0, gi_c1, gi_c2, gi_c3, Int.natCast_inj, map_int_inj, map_nil_iff, List.cons.injEq, exists_eq_left, exists_eq_left', exists_eq, exists_eq', exists_and_left, exists_and_right, exists_const, and_assoc, and_true, true_and, and_false, false_and, or_false, false_or, or_true, true_or, ite_true, ite_false, if_true, if_false, Bool.false_eq_true, own_cons, own_nil, le1, le2, le3, le4, me_cons, me_nil, List.length_map, List.length_cons, List.length_nil, ne_eq, not_false_eq_true, not_true_eq_false, decide_eq_true_eq]
      refine ⟨⟨_, sqL_of ha⟩, lc_mapL (· % p) ha (by omega) (fun x => rfl) (fun n hm H' sm Q' k' => ?_) (fun A H' hA sm e => ?_)⟩
      · have b := hn n hm
        simp only [ap_seq, ap_next, ap_asg, ap_gName, ap_ret, ap_retN, ap_drop, ap_ifS, ap_break, ap_cont, ap_par, ap_aug, ap_ip, ap_gSub, ap_gTup, ap_gNil, ap_gCons, ap_var, ap_c, ap_op, ap_un, ap_if, ap_test, ap_B, ap_and, ap_or, ap_not, ap_andV, ap_orV, ap_notV, ap_nil, ap_cons, ap_tup, ap_lst, ap_cb, ap_bm, ap_call, ap_chain, ap_rI, ap_rI0, ap_rU, ap_rEq, ap_rNe, ap_revT, ap_sl, ap_part, ap_noPart, ap_ixLI, ap_ixTI, ap_ixLV, ap_ixTV, ap_len, ap_setLI, ap_setLV, ap_appI, ap_appV, ap_tupL, ap_listS, ap_sumLI, ap_sumTI, ap_repLI, ap_intI, ap_intB, ap_eqTI, ap_neTI, ap_eqLI, ap_neLI, ap_isi, ap_for, ap_rng1, ap_rng2, ap_iList, ap_iTup, ap_lc, ap_yes, ap_cut, ap_gTupH, ap_fmt, ap_jsn, ap_jsc, ap_gcd, ap_isqrt, ap_ixL, tyV_l, wipe_nil, wipe_cons, upd_same, ap_iEnT, ap_iEnL, ap_iZipA, ap_all, ap_tupT, ap_attF, ap_makeL, ap_att, ap_prop, ap_isO, ap_bin, ap_ne, ap_meth, ap_make, ins_inj, FE_inj, ap_slI, ap_catI, ap_perm, ap_lenO, ap_strO, ap_listO, ap_reprB, ap_iterT, ap_neT, ap_negO, ap_binI, ap_catL, ap_tM1, ap_repTI, ap_popN, ap_par3, ap_catTT, ap_repTA, ap_countT, ap_notInT, ap_repL1, ap_cm, ap_shl, ap_shr, ap_mask, ap_comb, ap_bits, ap_rng3, List.set_cons_zero, List.set_cons_succ, List.getElem?_cons_zero, List.getElem?_cons_succ, List.cons_append, List.nil_append, List.append_nil, Option.some.injEq, V.int.injEq, V.ref.injEq, V.bl.injEq, V.str.injEq, V.ty.injEq, Bool.not_true, Bool.not_false, HO.lst.injEq, HO.tup.injEq, reduceCtorEq, Int.reduceToNat, Int.reduceLT, Int.reduceLE, Nat.reduceAdd, Int.cast_ofNat_Int, gi_c0, gi_c1, gi_c2, gi_c3, Int.natCast_inj, map_int_inj, map_nil_iff, List.cons.injEq, exists_eq_left, exists_eq_left', exists_eq, exists_eq', exists_and_left, exists_and_right, exists_const, and_assoc, and_true, true_and, and_false, false_and, or_false, false_or, or_true, true_or, ite_true, ite_false, if_true, if_false, Bool.false_eq_true, own_cons, own_nil, le1, le2, le3, le4, me_cons, me_nil, List.length_map, List.length_cons, List.length_nil, ne_eq, not_false_eq_true, not_true_eq_false, decide_eq_true_eq]
        exact ⟨p0, k' _ (Same.refl _)⟩
      · exact ⟨A, rfl, _, e, fun l nl => k _ l (sm.trans (same_upd nl)) (free_of sm nl) upd_same⟩
    · refine ⟨_, (pss_one (ps_ret (pe_callTy cr_tupL (by rfl) T.z_tuple (by decide +kernel) (pa_cons (pe_lc (own := [("number", 2)]) (g := gName 2) (tt := tYes) rfl sc_modulo.nd (pi_tup (pv 0)) (blkOk_by (N := n_modulo) (sc := defScope s_modulo) (by decide +kernel)) (fun _ _ _ _ _ => (pg_name (i := 2) sc_modulo.nd rfl (by first | exact .inl rfl | exact .inr rfl))) (fun _ _ _ _ _ => pts_nil) (fun _ _ _ _ _ => (pe_op op_mod (pv 2) (pv 1)))) pa_nil)))), ?_⟩
      rw [st_modulo]
      simp only [ap_seq, ap_next, ap_asg, ap_gName, ap_ret, ap_retN, ap_drop, ap_ifS, ap_break, ap_cont, ap_par, ap_aug, ap_ip, ap_gSub, ap_gTup, ap_gNil, ap_gCons, ap_var, ap_c, ap_op, ap_un, ap_if, ap_test, ap_B, ap_and, ap_or, ap_not, ap_andV, ap_orV, ap_notV, ap_nil, ap_cons, ap_tup, ap_lst, ap_cb, ap_bm, ap_call, ap_chain, ap_rI, ap_rI0, ap_rU, ap_rEq, ap_rNe, ap_revT, ap_sl, ap_part, ap_noPart, ap_ixLI, ap_ixTI, ap_ixLV, ap_ixTV, ap_len, ap_setLI, ap_setLV, ap_appI, ap_appV, ap_tupL, ap_listS, ap_sumLI, ap_sumTI, ap_repLI, ap_intI, ap_intB, ap_eqTI, ap_neTI, ap_eqLI, ap_neLI, ap_isi, ap_for, ap_rng1, ap_rng2, ap_iList, ap_iTup, ap_lc, ap_yes, ap_cut, ap_gTupH, ap_fmt, ap_jsn, ap_jsc, ap_gcd, ap_isqrt, ap_ixL, tyV_l, wipe_nil, wipe_cons, upd_same, ap_iEnT, ap_iEnL, ap_iZipA, ap_all, ap_tupT, ap_attF, ap_makeL, ap_att, ap_prop, ap_isO, ap_bin, ap_ne, ap_meth, ap_make, ins_inj, FE_inj, ap_slI, ap_catI, ap_perm, ap_lenO, ap_strO, ap_listO, ap_reprB, ap_iterT, ap_neT, ap_negO, ap_binI, ap_catL, ap_tM1, ap_repTI, ap_popN, ap_par3, ap_catTT, ap_repTA, ap_countT, ap_notInT, ap_repL1, ap_cm, ap_shl, ap_shr, ap_mask, ap_comb, ap_bits, ap_rng3, List.set_cons_zero, List.set_cons_succ, List.getElem?_cons_zero, List.getElem?_cons_succ, List.cons_append, List.nil_append, List.append_nil, Option.some.injEq, V.int.injEq, V.ref.injEq, V.bl.injEq, V.str.injEq, V.ty.injEq, Bool.not_true, Bool.not_false, HO.lst.injEq, HO.tup.injEq, reduceCtorEq, Int.reduceToNat, Int.reduceLT, Int.reduceLE, Nat.reduceAdd, Int.cast_ofNat_Int, gi_c0, gi_c1, gi_c2, gi_c3, Int.natCast_inj, map_int_inj, map_nil_iff, List.cons.injEq, exists_eq_left, exists_eq_left', exists_eq, exists_eq', exists_and_left, exists_and_right, exists_const, and_assoc, and_true, true_and, and_false, false_and, or_false, false_or, or_true, true_or, ite_true, ite_false, if_true, if_false, Bool.false_eq_true, own_cons, own_nil, le1, le2, le3, le4, me_cons, me_nil, List.length_map, List.length_cons, List.length_nil, ne_eq, not_false_eq_true, not_true_eq_false, decide_eq_true_eq]
      refine ⟨⟨_, sqT_of ha⟩, lc_mapT (· % p) ha (by omega) (fun x => rfl) (fun n hm H' sm Q' k' => ?_) (fun A H' hA sm e => ?_)⟩
      · have b := hn n hm
        simp only [ap_seq, ap_next, ap_asg, ap_gName, ap_ret, ap_retN, ap_drop, ap_ifS, ap_break, ap_cont, ap_par, ap_aug, ap_ip, ap_gSub, ap_gTup, ap_gNil, ap_gCons, ap_var, ap_c, ap_op, ap_un, ap_if, ap_test, ap_B, ap_and, ap_or, ap_not, ap_andV, ap_orV, ap_notV, ap_nil, ap_cons, ap_tup, ap_lst, ap_cb, ap_bm, ap_call, ap_chain, ap_rI, ap_rI0, ap_rU, ap_rEq, ap_rNe, ap_revT, ap_sl, ap_part, ap_noPart, ap_ixLI, ap_ixTI, ap_ixLV, ap_ixTV, ap_len, ap_setLI, ap_setLV, ap_appI, ap_appV, ap_tupL, ap_listS, ap_sumLI, ap_sumTI, ap_repLI, ap_intI, ap_intB, ap_eqTI, ap_neTI, ap_eqLI, ap_neLI, ap_isi, ap_for, ap_rng1, ap_rng2, ap_iList, ap_iTup, ap_lc, ap_yes, ap_cut, ap_gTupH, ap_fmt, ap_jsn, ap_jsc, ap_gcd, ap_isqrt, ap_ixL, tyV_l, wipe_nil, wipe_cons, upd_same, ap_iEnT, ap_iEnL, ap_iZipA, ap_all, ap_tupT, ap_attF, ap_makeL, ap_att, ap_prop, ap_isO, ap_bin, ap_ne, ap_meth, ap_make, ins_inj, FE_inj, ap_slI, ap_catI, ap_perm, ap_lenO, ap_strO, ap_listO, ap_reprB, ap_iterT, ap_neT, ap_negO, ap_binI, ap_catL, ap_tM1, ap_repTI, ap_popN, ap_par3, ap_catTT, ap_repTA, ap_countT, ap_notInT, ap_repL1, ap_cm, ap_shl, ap_shr, ap_mask, ap_comb, ap_bits, ap_rng3, List.set_cons_zero, List.set_cons_succ, List.getElem?_cons_zero, List.getElem?_cons_succ, List.cons_append, List.nil_append, List.append_nil, Option.some.injEq, V.int.injEq, V.ref.injEq, V.bl.injEq, V.str.injEq, V.ty.injEq, Bool.not_true, Bool.not_false, HO.lst.injEq, HO.tup.injEq, reduceCtorEq, Int.reduceToNat, Int.reduceLT, Int.reduceLE, Nat.reduceAdd, Int.cast_ofNat_Int, gi_c0, gi_c1, gi_c2, gi_c3, Int.natCast_inj, map_int_inj, map_nil_iff, List.cons.injEq, exists_eq_left, exists_eq_left', exists_eq, exists_eq', exists_and_left, exists_and_right, exists_const, and_assoc, and_true, true_and, and_false, false_and, or_false, false_or, or_true, true_or, ite_true, ite_false, if_true, if_false, Bool.false_eq_true, own_cons, own_nil, le1, le2, le3, le4, me_cons, me_nil, List.length_map, List.length_cons, List.length_nil, ne_eq, not_false_eq_true, not_true_eq_false, decide_eq_true_eq]
        exact ⟨p0, k' _ (Same.refl _)⟩
      · exact ⟨A, rfl, _, e, fun l nl => k _ l (sm.trans (same_upd nl)) (free_of sm nl) upd_same⟩
def sp_law_left_by : Sp := fun vs H Q _ => ∃ (a : Addr) (ns : List Int) (p : Int), vs = [.ref a, .int p] ∧ RowAt H a ns ∧ ns.length < 1000 ∧ (∀ n ∈ ns, Wd n) ∧ 0 < p ∧ p < 1000 ∧
  ∀ H' r, Same H H' → H r = none → H' r = some (TI (ns.map (· % p))) → Q (.ref r) H'
theorem ok_law_left_by (T : Tx K mg) : FnOk P w K mg base CX0 1 T.f_law_left_by T.d_law_left_by p_law_left_by sp_law_left_by := by
  refine T.F_law_left_by.ok sc_law_left_by (fun vs H Q E h => ?_) (fun cdv A outer s H vs Q E hr h => ?_)
  · obtain ⟨a, ns, p, rfl, _⟩ := h
    rfl
  · obtain ⟨a, ns, p, rfl, ha, hl, hn, p0, p1, k⟩ := h
    rcases ha with ha | ha
    · refine ⟨_, (pss_one (ps_ret (pe_callTy cr_tupL (by rfl) T.z_tuple (by decide +kernel) (pa_cons (pe_lc (own := [("_law_entry", 2)]) (g := gName 2) (tt := tYes) rfl sc_law_left_by.nd (pi_list (pv 0)) (blkOk_by (N := n_law_left_by) (sc := defScope s_law_left_by) (by decide +kernel)) (fun _ _ _ _ _ => (pg_name (i := 2) sc_law_left_by.nd rfl (by first | exact .inl rfl | exact .inr rfl))) (fun _ _ _ _ _ => pts_nil) (fun _ _ _ _ _ => (pe_op op_mod (pe_callTy cr_intI (by rfl) T.z_int (by decide +kernel) (pa_cons (pv 2) pa_nil)) (pv 1)))) pa_nil)))), ?_⟩
      rw [st_law_left_by]
      simp only [ap_seq, ap_next, ap_asg, ap_gName, ap_ret, ap_retN, ap_drop, ap_ifS, ap_break, ap_cont, ap_par, ap_aug, ap_ip, ap_gSub, ap_gTup, ap_gNil, ap_gCons, ap_var, ap_c, ap_op, ap_un, ap_if, ap_test, ap_B, ap_and, ap_or, ap_not, ap_andV, ap_orV, ap_notV, ap_nil, ap_cons, ap_tup, ap_lst, ap_cb, ap_bm, ap_call, ap_chain, ap_rI, ap_rI0, ap_rU, ap_rEq, ap_rNe, ap_revT, ap_sl, ap_part, ap_noPart, ap_ixLI, ap_ixTI, ap_ixLV, ap_ixTV, ap_len, ap_setLI, ap_setLV, ap_appI, ap_appV, ap_tupL, ap_listS, ap_sumLI, ap_sumTI, ap_repLI, ap_intI, ap_intB, ap_eqTI, ap_neTI, ap_eqLI, ap_neLI, ap_isi, ap_for, ap_rng1, ap_rng2, ap_iList, ap_iTup, ap_lc, ap_yes, ap_cut, ap_gTupH, ap_fmt, ap_jsn, ap_jsc, ap_gcd, ap_isqrt, ap_ixL, tyV_l, wipe_nil, wipe_cons, upd_same, ap_iEnT, ap_iEnL, ap_iZipA, ap_all, ap_tupT, ap_attF, ap_makeL, ap_att, ap_prop, ap_isO, ap_bin, ap_ne, ap_meth, ap_make, ins_inj, FE_inj, ap_slI, ap_catI, ap_perm, ap_lenO, ap_strO, ap_listO, ap_reprB, ap_iterT, ap_neT, ap_negO, ap_binI, ap_catL, ap_tM1, ap_repTI, ap_popN, ap_par3, ap_catTT, ap_repTA, ap_countT, ap_notInT, ap_repL1, ap_cm, ap_shl, ap_shr, ap_mask, ap_comb, ap_bits, ap_rng3, List.set_cons_zero, List.set_cons_succ, List.getElem?_cons_zero, List.getElem?_cons_succ, List.cons_append, List.nil_append, List.append_nil, Option.some.injEq, V.int.injEq, V.ref.injEq, V.bl.injEq, V.str.injEq, V.ty.injEq, Bool.not_true, Bool.not_false, HO.lst.injEq, HO.tup.injEq, reduceCtorEq, Int.reduceToNat, Int.reduceLT, Int.reduceLE, Nat.reduceAdd, Int.cast_ofNat_Int, gi_c0, gi_c1, gi_c2, gi_c3, Int.natCast_inj, map_int_inj, map_nil_iff, List.cons.injEq, exists_eq_left, exists_eq_left', exists_eq, exists_eq', exists_and_left, exists_and_right, exists_const, and_assoc, and_true, true_and, and_false, false_and, or_false, false_or, or_true, true_or, ite_true, ite_false, if_true, if_false, Bool.false_eq_true, own_cons, own_nil, le1, le2, le3, le4, me_cons, me_nil, List.length_map, List.length_cons, List.length_nil, ne_eq, not_false_eq_true, not_true_eq_false, decide_eq_true_eq]
      refine ⟨⟨_, sqL_of ha⟩, lc_mapL (· % p) ha (by omega) (fun x => rfl) (fun n hm H' sm Q' k' => ?_) (fun A H' hA sm e => ?_)⟩
      · have b := hn n hm
        simp only [ap_seq, ap_next, ap_asg, ap_gName, ap_ret, ap_retN, ap_drop, ap_ifS, ap_break, ap_cont, ap_par, ap_aug, ap_ip, ap_gSub, ap_gTup, ap_gNil, ap_gCons, ap_var, ap_c, ap_op, ap_un, ap_if, ap_test, ap_B, ap_and, ap_or, ap_not, ap_andV, ap_orV, ap_notV, ap_nil, ap_cons, ap_tup, ap_lst, ap_cb, ap_bm, ap_call, ap_chain, ap_rI, ap_rI0, ap_rU, ap_rEq, ap_rNe, ap_revT, ap_sl, ap_part, ap_noPart, ap_ixLI, ap_ixTI, ap_ixLV, ap_ixTV, ap_len, ap_setLI, ap_setLV, ap_appI, ap_appV, ap_tupL, ap_listS, ap_sumLI, ap_sumTI, ap_repLI, ap_intI, ap_intB, ap_eqTI, ap_neTI, ap_eqLI, ap_neLI, ap_isi, ap_for, ap_rng1, ap_rng2, ap_iList, ap_iTup, ap_lc, ap_yes, ap_cut, ap_gTupH, ap_fmt, ap_jsn, ap_jsc, ap_gcd, ap_isqrt, ap_ixL, tyV_l, wipe_nil, wipe_cons, upd_same, ap_iEnT, ap_iEnL, ap_iZipA, ap_all, ap_tupT, ap_attF, ap_makeL, ap_att, ap_prop, ap_isO, ap_bin, ap_ne, ap_meth, ap_make, ins_inj, FE_inj, ap_slI, ap_catI, ap_perm, ap_lenO, ap_strO, ap_listO, ap_reprB, ap_iterT, ap_neT, ap_negO, ap_binI, ap_catL, ap_tM1, ap_repTI, ap_popN, ap_par3, ap_catTT, ap_repTA, ap_countT, ap_notInT, ap_repL1, ap_cm, ap_shl, ap_shr, ap_mask, ap_comb, ap_bits, ap_rng3, List.set_cons_zero, List.set_cons_succ, List.getElem?_cons_zero, List.getElem?_cons_succ, List.cons_append, List.nil_append, List.append_nil, Option.some.injEq, V.int.injEq, V.ref.injEq, V.bl.injEq, V.str.injEq, V.ty.injEq, Bool.not_true, Bool.not_false, HO.lst.injEq, HO.tup.injEq, reduceCtorEq, Int.reduceToNat, Int.reduceLT, Int.reduceLE, Nat.reduceAdd, Int.cast_ofNat_Int, gi_c0, gi_c1, gi_c2, gi_c3, Int.natCast_inj, map_int_inj, map_nil_iff, List.cons.injEq, exists_eq_left, exists_eq_left', exists_eq, exists_eq', exists_and_left, exists_and_right, exists_const, and_assoc, and_true, true_and, and_false, false_and, or_false, false_or, or_true, true_or, ite_true, ite_false, if_true, if_false, Bool.false_eq_true, own_cons, own_nil, le1, le2, le3, le4, me_cons, me_nil, List.length_map, List.length_cons, List.length_nil, ne_eq, not_false_eq_true, not_true_eq_false, decide_eq_true_eq]
        exact ⟨p0, k' _ (Same.refl _)⟩
      · exact ⟨A, rfl, _, e, fun l nl => k _ l (sm.trans (same_upd nl)) (free_of sm nl) upd_same⟩
    · refine ⟨_, (pss_one (ps_ret (pe_callTy cr_tupL (by rfl) T.z_tuple (by decide +kernel) (pa_cons (pe_lc (own := [("_law_entry", 2)]) (g := gName 2) (tt := tYes) rfl sc_law_left_by.nd (pi_tup (pv 0)) (blkOk_by (N := n_law_left_by) (sc := defScope s_law_left_by) (by decide +kernel)) (fun _ _ _ _ _ => (pg_name (i := 2) sc_law_left_by.nd rfl (by first | exact .inl rfl | exact .inr rfl))) (fun _ _ _ _ _ => pts_nil) (fun _ _ _ _ _ => (pe_op op_mod (pe_callTy cr_intI (by rfl) T.z_int (by decide +kernel) (pa_cons (pv 2) pa_nil)) (pv 1)))) pa_nil)))), ?_⟩
      rw [st_law_left_by]
      simp only [ap_seq, ap_next, ap_asg, ap_gName, ap_ret, ap_retN, ap_drop, ap_ifS, ap_break, ap_cont, ap_par, ap_aug, ap_ip, ap_gSub, ap_gTup, ap_gNil, ap_gCons, ap_var, ap_c, ap_op, ap_un, ap_if, ap_test, ap_B, ap_and, ap_or, ap_not, ap_andV, ap_orV, ap_notV, ap_nil, ap_cons, ap_tup, ap_lst, ap_cb, ap_bm, ap_call, ap_chain, ap_rI, ap_rI0, ap_rU, ap_rEq, ap_rNe, ap_revT, ap_sl, ap_part, ap_noPart, ap_ixLI, ap_ixTI, ap_ixLV, ap_ixTV, ap_len, ap_setLI, ap_setLV, ap_appI, ap_appV, ap_tupL, ap_listS, ap_sumLI, ap_sumTI, ap_repLI, ap_intI, ap_intB, ap_eqTI, ap_neTI, ap_eqLI, ap_neLI, ap_isi, ap_for, ap_rng1, ap_rng2, ap_iList, ap_iTup, ap_lc, ap_yes, ap_cut, ap_gTupH, ap_fmt, ap_jsn, ap_jsc, ap_gcd, ap_isqrt, ap_ixL, tyV_l, wipe_nil, wipe_cons, upd_same, ap_iEnT, ap_iEnL, ap_iZipA, ap_all, ap_tupT, ap_attF, ap_makeL, ap_att, ap_prop, ap_isO, ap_bin, ap_ne, ap_meth, ap_make, ins_inj, FE_inj, ap_slI, ap_catI, ap_perm, ap_lenO, ap_strO, ap_listO, ap_reprB, ap_iterT, ap_neT, ap_negO, ap_binI, ap_catL, ap_tM1, ap_repTI, ap_popN, ap_par3, ap_catTT, ap_repTA, ap_countT, ap_notInT, ap_repL1, ap_cm, ap_shl, ap_shr, ap_mask, ap_comb, ap_bits, ap_rng3, List.set_cons_zero, List.set_cons_succ, List.getElem?_cons_zero, List.getElem?_cons_succ, List.cons_append, List.nil_append, List.append_nil, Option.some.injEq, V.int.injEq, V.ref.injEq, V.bl.injEq, V.str.injEq, V.ty.injEq, Bool.not_true, Bool.not_false, HO.lst.injEq, HO.tup.injEq, reduceCtorEq, Int.reduceToNat, Int.reduceLT, Int.reduceLE, Nat.reduceAdd, Int.cast_ofNat_Int, gi_c0, gi_c1, gi_c2, gi_c3, Int.natCast_inj, map_int_inj, map_nil_iff, List.cons.injEq, exists_eq_left, exists_eq_left', exists_eq, exists_eq', exists_and_left, exists_and_right, exists_const, and_assoc, and_true, true_and, and_false, false_and, or_false, false_or, or_true, true_or, ite_true, ite_false, if_true, if_false, Bool.false_eq_true, own_cons, own_nil, le1, le2, le3, le4, me_cons, me_nil, List.length_map, List.length_cons, List.length_nil, ne_eq, not_false_eq_true, not_true_eq_false, decide_eq_true_eq]
      refine ⟨⟨_, sqT_of ha⟩, lc_mapT (· % p) ha (by omega) (fun x => rfl) (fun n hm H' sm Q' k' => ?_) (fun A H' hA sm e => ?_)⟩
      · have b := hn n hm
        simp only [ap_seq, ap_next, ap_asg, ap_gName, ap_ret, ap_retN, ap_drop, ap_ifS, ap_break, ap_cont, ap_par, ap_aug, ap_ip, ap_gSub, ap_gTup, ap_gNil, ap_gCons, ap_var, ap_c, ap_op, ap_un, ap_if, ap_test, ap_B, ap_and, ap_or, ap_not, ap_andV, ap_orV, ap_notV, ap_nil, ap_cons, ap_tup, ap_lst, ap_cb, ap_bm, ap_call, ap_chain, ap_rI, ap_rI0, ap_rU, ap_rEq, ap_rNe, ap_revT, ap_sl, ap_part, ap_noPart, ap_ixLI, ap_ixTI, ap_ixLV, ap_ixTV, ap_len, ap_setLI, ap_setLV, ap_appI, ap_appV, ap_tupL, ap_listS, ap_sumLI, ap_sumTI, ap_repLI, ap_intI, ap_intB, ap_eqTI, ap_neTI, ap_eqLI, ap_neLI, ap_isi, ap_for, ap_rng1, ap_rng2, ap_iList, ap_iTup, ap_lc, ap_yes, ap_cut, ap_gTupH, ap_fmt, ap_jsn, ap_jsc, ap_gcd, ap_isqrt, ap_ixL, tyV_l, wipe_nil, wipe_cons, upd_same, ap_iEnT, ap_iEnL, ap_iZipA, ap_all, ap_tupT, ap_attF, ap_makeL, ap_att, ap_prop, ap_isO, ap_bin, ap_ne, ap_meth, ap_make, ins_inj, FE_inj, ap_slI, ap_catI, ap_perm, ap_lenO, ap_strO, ap_listO, ap_reprB, ap_iterT, ap_neT, ap_negO, ap_binI, ap_catL, ap_tM1, ap_repTI, ap_popN, ap_par3, ap_catTT, ap_repTA, ap_countT, ap_notInT, ap_repL1, ap_cm, ap_shl, ap_shr, ap_mask, ap_comb, ap_bits, ap_rng3, List.set_cons_zero, List.set_cons_succ, List.getElem?_cons_zero, List.getElem?_cons_succ, List.cons_append, List.nil_append, List.append_nil, Option.some.injEq, V.int.injEq, V.ref.injEq, V.bl.injEq, V.str.injEq, V.ty.injEq, Bool.not_true, Bool.not_false, HO.lst.injEq, HO.tup.injEq, reduceCtorEq, Int.reduceToNat, Int.reduceLT, Int.reduceLE, Nat.reduceAdd, Int.cast_ofNat_Int, gi_c0, gi_c1, gi_c2, gi_c3, Int.natCast_inj, map_int_inj, map_nil_iff, List.cons.injEq, exists_eq_left, exists_eq_left', exists_eq, exists_eq', exists_and_left, exists_and_right, exists_const, and_assoc, and_true, true_and, and_false, false_and, or_false, false_or, or_true, true_or, ite_true, ite_false, if_true, if_false, Bool.false_eq_true, own_cons, own_nil, le1, le2, le3, le4, me_cons, me_nil, List.length_map, List.length_cons, List.length_nil, ne_eq, not_false_eq_true, not_true_eq_false, decide_eq_true_eq]
        exact ⟨p0, k' _ (Same.refl _)⟩
      · exact ⟨A, rfl, _, e, fun l nl => k _ l (sm.trans (same_upd nl)) (free_of sm nl) upd_same⟩
end
end My
namespace My
open PySem PySem.Spec PyProof.Rows L2 Pr
section
variable {P : Program} {w : World} {K : PySem.W.Frag} {mg : Str → Option Value} {base : Heap}
theorem pow_mod (a p : Int) : ∀ k : Nat, (a % p) ^ k % p = a ^ k % p
  | 0 => by rw [Int.pow_zero, Int.pow_zero]
  | k + 1 => by
    rw [Int.pow_succ, Int.pow_succ, Int.mul_emod, pow_mod a p k, Int.emod_emod, ← Int.mul_emod]
theorem pow_half (s : Int) {l : Int} (h : 0 < l) : s ^ l.toNat = (if l % 2 = 1 then s else 1) * (s * s) ^ (l / 2).toNat := by
  have e : l.toNat = (if l % 2 = 1 then 1 else 0) + 2 * (l / 2).toNat := by split <;> omega
  rw [e, Int.pow_add, Int.pow_mul, Int.pow_succ, Int.pow_succ, Int.pow_zero, Int.one_mul]
  congr 1
  split
  · rw [Int.pow_succ, Int.pow_zero, Int.one_mul]
  · rw [Int.pow_zero]
/-- one turn of the powers: the invariant -/
def Pw (n p : Int) (e : Nat) (f s l : Int) : Prop := 0 ≤ f ∧ f < p ∧ 0 ≤ s ∧ s < p ∧ 0 ≤ l ∧ l < 1000 ∧ f * s ^ l.toNat % p = n ^ e % p
theorem Pw.odd {n p : Int} {e : Nat} {f s l : Int} (h : Pw n p e f s l) (hp : 0 < p) (hl : 0 < l) (ho : l % 2 = 1) : Pw n p e (f * s % p) (s * s % p) (l / 2) := by
  obtain ⟨h1, h2, h3, h4, h5, h6, h7⟩ := h
  refine ⟨Int.emod_nonneg _ (by omega), Int.emod_lt_of_pos _ hp, Int.emod_nonneg _ (by omega), Int.emod_lt_of_pos _ hp, by omega, by omega, ?_⟩
  rw [← h7, pow_half s hl, if_pos ho, Int.mul_emod, pow_mod, Int.emod_emod, ← Int.mul_emod, Int.mul_assoc]
theorem Pw.even {n p : Int} {e : Nat} {f s l : Int} (h : Pw n p e f s l) (hp : 0 < p) (hl : 0 < l) (ho : ¬ l % 2 = 1) : Pw n p e f (s * s % p) (l / 2) := by
  obtain ⟨h1, h2, h3, h4, h5, h6, h7⟩ := h
  refine ⟨h1, h2, Int.emod_nonneg _ (by omega), Int.emod_lt_of_pos _ hp, by omega, by omega, ?_⟩
  rw [← h7, pow_half s hl, if_neg ho, Int.one_mul, Int.mul_emod, pow_mod, ← Int.mul_emod]
theorem Pw.done {n p : Int} {e : Nat} {f s l : Int} (h : Pw n p e f s l) (hl : ¬ 0 < l) : f = n ^ e % p := by
  obtain ⟨h1, h2, h3, h4, h5, h6, h7⟩ := h
  have e0 : l = 0 := by omega
  subst e0
  rw [← h7]
  show f = f * s ^ 0 % p
  rw [Int.pow_zero, Int.mul_one, Int.emod_eq_of_lt h1 h2]
theorem Pw.start (n p : Int) {e : Int} (h0 : 0 ≤ e) (h1 : e < 1000) (hp : 1 < p) : Pw n p e.toNat 1 (n % p) e :=
  ⟨by omega, hp, Int.emod_nonneg _ (by omega), Int.emod_lt_of_pos _ (by omega), h0, h1, by rw [Int.one_mul, pow_mod]⟩
theorem Pw.wd {n p : Int} {e : Nat} {f s l : Int} (h : Pw n p e f s l) (hp : p < 1000) : CMu f s ∧ CMu s s := by
  obtain ⟨h1, h2, h3, h4, _⟩ := h
  have a : Wd f := Sm.wd (by unfold Sm; omega)
  have b : Wd s := Sm.wd (by unfold Sm; omega)
  exact ⟨⟨a, b⟩, b, b⟩
def sp_power_of : Sp := fun vs H Q _ => ∃ (n e p : Int), vs = [.int n, .int e, .int p] ∧ 0 ≤ e ∧ e < 1000 ∧ 1 < p ∧ p < 1000 ∧ Q (.int (n ^ e.toNat % p)) H
theorem ok_power_of (T : Tx K mg) : FnOk P w K mg base CX0 1 T.f_power_of T.d_power_of p_power_of sp_power_of := by
  refine T.F_power_of.ok sc_power_of (fun vs H Q E h => ?_) (fun cdv A outer s H vs Q E hr h => ?_)
  · obtain ⟨n, e, p, rfl, _⟩ := h
    rfl
  · obtain ⟨n, e, p, rfl, h0, h1, p0, p1, q⟩ := h
    refine ⟨_, (pss_cons (ps_par3 (i := 3) (j := 4) (l := 5) (by rfl) sc_power_of.nd rfl rfl rfl (by decide) (by decide) (by decide) rfl rfl rfl (pa_cons pe_int (pa_cons (pe_op op_mod (pv 0) (pv 2)) (pa_cons (pv 1) pa_nil))) (by rfl))
      (pss_cons (ps_while PassesOwn.never (pt_cmpR op_gt (pv 5) pe_int (nomark _))
      (pss_cons (ps_if (pt_cmpR op_eq (pe_op op_mod (pv 5) pe_int) pe_int (nomark _)) (pss_one (ps_set (i := 3) sc_power_of.nd rfl (Or.inl rfl) (pe_op op_mod (pe_op op_mulB (pv 3) (pv 4)) (pv 2)))) pss_nil)
      (pss_cons (ps_set (i := 4) sc_power_of.nd rfl (Or.inl rfl) (pe_op op_mod (pe_op op_mulB (pv 4) (pv 4)) (pv 2)))
      (pss_one (ps_set (i := 5) sc_power_of.nd rfl (Or.inl rfl) (pe_op op_fdivP (pv 5) pe_int))))))
      (pss_one (ps_ret (pv 3))))), ?_⟩
    rw [st_power_of]
    simp only [ap_seq, ap_next, ap_asg, ap_gName, ap_ret, ap_retN, ap_drop, ap_ifS, ap_break, ap_cont, ap_par, ap_aug, ap_ip, ap_gSub, ap_gTup, ap_gNil, ap_gCons, ap_var, ap_c, ap_op, ap_un, ap_if, ap_test, ap_B, ap_and, ap_or, ap_not, ap_andV, ap_orV, ap_notV, ap_nil, ap_cons, ap_tup, ap_lst, ap_cb, ap_bm, ap_call, ap_chain, ap_rI, ap_rI0, ap_rU, ap_rEq, ap_rNe, ap_revT, ap_sl, ap_part, ap_noPart, ap_ixLI, ap_ixTI, ap_ixLV, ap_ixTV, ap_len, ap_setLI, ap_setLV, ap_appI, ap_appV, ap_tupL, ap_listS, ap_sumLI, ap_sumTI, ap_repLI, ap_intI, ap_intB, ap_eqTI, ap_neTI, ap_eqLI, ap_neLI, ap_isi, ap_for, ap_rng1, ap_rng2, ap_iList, ap_iTup, ap_lc, ap_yes, ap_cut, ap_gTupH, ap_fmt, ap_jsn, ap_jsc, ap_gcd, ap_isqrt, ap_ixL, tyV_l, wipe_nil, wipe_cons, upd_same, ap_iEnT, ap_iEnL, ap_iZipA, ap_all, ap_tupT, ap_attF, ap_makeL, ap_att, ap_prop, ap_isO, ap_bin, ap_ne, ap_meth, ap_make, ins_inj, FE_inj, ap_slI, ap_catI, ap_perm, ap_lenO, ap_strO, ap_listO, ap_reprB, ap_iterT, ap_neT, ap_negO, ap_binI, ap_catL, ap_tM1, ap_repTI, ap_popN, ap_par3, ap_catTT, ap_repTA, ap_countT, ap_notInT, ap_repL1, ap_cm, ap_shl, ap_shr, ap_mask, ap_comb, ap_bits, ap_rng3, List.set_cons_zero, List.set_cons_succ, List.getElem?_cons_zero, List.getElem?_cons_succ, List.cons_append, List.nil_append, List.append_nil, Option.some.injEq, V.int.injEq, V.ref.injEq, V.bl.injEq, V.str.injEq, V.ty.injEq, Bool.not_true, Bool.not_false, HO.lst.injEq, HO.tup.injEq, reduceCtorEq, Int.reduceToNat, Int.reduceLT, Int.reduceLE, Nat.reduceAdd, Int.cast_ofNat_Int, gi_c0, gi_c1, gi_c2, gi_c3, Int.natCast_inj, map_int_inj, map_nil_iff, List.cons.injEq, exists_eq_left, exists_eq_left', exists_eq, exists_eq', exists_and_left, exists_and_right, exists_const, and_assoc, and_true, true_and, and_false, false_and, or_false, false_or, or_true, true_or, ite_true, ite_false, if_true, if_false, Bool.false_eq_true, own_cons, own_nil, le1, le2, le3, le4, me_cons, me_nil, List.length_map, List.length_cons, List.length_nil, ne_eq, not_false_eq_true, not_true_eq_false, decide_eq_true_eq]
    refine ⟨by omega, while_a (fun (z : Int × Int × Int) σ' H' => σ' = [some (.int n), some (.int e), some (.int p), some (.int z.1), some (.int z.2.1), some (.int z.2.2)] ∧ H' = H ∧ Pw n p e.toNat z.1 z.2.1 z.2.2) (fun z => decide (0 < z.2.2)) (fun z => z.2.2.toNat) (_, _, _) ⟨rfl, rfl, Pw.start n p h0 h1 p0⟩ (fun z σ' H' hP Q1 hQ => ?_) (fun z σ' H' hP ht => ?_) (fun z σ' H' hP ht => ?_)⟩
    · obtain ⟨e1, e2, hw⟩ := hP
      subst e1 e2
      simp only [ap_seq, ap_next, ap_asg, ap_gName, ap_ret, ap_retN, ap_drop, ap_ifS, ap_break, ap_cont, ap_par, ap_aug, ap_ip, ap_gSub, ap_gTup, ap_gNil, ap_gCons, ap_var, ap_c, ap_op, ap_un, ap_if, ap_test, ap_B, ap_and, ap_or, ap_not, ap_andV, ap_orV, ap_notV, ap_nil, ap_cons, ap_tup, ap_lst, ap_cb, ap_bm, ap_call, ap_chain, ap_rI, ap_rI0, ap_rU, ap_rEq, ap_rNe, ap_revT, ap_sl, ap_part, ap_noPart, ap_ixLI, ap_ixTI, ap_ixLV, ap_ixTV, ap_len, ap_setLI, ap_setLV, ap_appI, ap_appV, ap_tupL, ap_listS, ap_sumLI, ap_sumTI, ap_repLI, ap_intI, ap_intB, ap_eqTI, ap_neTI, ap_eqLI, ap_neLI, ap_isi, ap_for, ap_rng1, ap_rng2, ap_iList, ap_iTup, ap_lc, ap_yes, ap_cut, ap_gTupH, ap_fmt, ap_jsn, ap_jsc, ap_gcd, ap_isqrt, ap_ixL, tyV_l, wipe_nil, wipe_cons, upd_same, ap_iEnT, ap_iEnL, ap_iZipA, ap_all, ap_tupT, ap_attF, ap_makeL, ap_att, ap_prop, ap_isO, ap_bin, ap_ne, ap_meth, ap_make, ins_inj, FE_inj, ap_slI, ap_catI, ap_perm, ap_lenO, ap_strO, ap_listO, ap_reprB, ap_iterT, ap_neT, ap_negO, ap_binI, ap_catL, ap_tM1, ap_repTI, ap_popN, ap_par3, ap_catTT, ap_repTA, ap_countT, ap_notInT, ap_repL1, ap_cm, ap_shl, ap_shr, ap_mask, ap_comb, ap_bits, ap_rng3, List.set_cons_zero, List.set_cons_succ, List.getElem?_cons_zero, List.getElem?_cons_succ, List.cons_append, List.nil_append, List.append_nil, Option.some.injEq, V.int.injEq, V.ref.injEq, V.bl.injEq, V.str.injEq, V.ty.injEq, Bool.not_true, Bool.not_false, HO.lst.injEq, HO.tup.injEq, reduceCtorEq, Int.reduceToNat, Int.reduceLT, Int.reduceLE, Nat.reduceAdd, Int.cast_ofNat_Int, gi_c0, gi_c1, gi_c2, gi_c3, Int.natCast_inj, map_int_inj, map_nil_iff, List.cons.injEq, exists_eq_left, exists_eq_left', exists_eq, exists_eq', exists_and_left, exists_and_right, exists_const, and_assoc, and_true, true_and, and_false, false_and, or_false, false_or, or_true, true_or, ite_true, ite_false, if_true, if_false, Bool.false_eq_true, own_cons, own_nil, le1, le2, le3, le4, me_cons, me_nil, List.length_map, List.length_cons, List.length_nil, ne_eq, not_false_eq_true, not_true_eq_false, decide_eq_true_eq]
      exact hQ
    · obtain ⟨e1, e2, hw⟩ := hP
      subst e1 e2
      have hp : 0 < z.2.2 := of_decide_eq_true ht
      obtain ⟨c1, c2⟩ := hw.wd p1
      simp only [ap_seq, ap_next, ap_asg, ap_gName, ap_ret, ap_retN, ap_drop, ap_ifS, ap_break, ap_cont, ap_par, ap_aug, ap_ip, ap_gSub, ap_gTup, ap_gNil, ap_gCons, ap_var, ap_c, ap_op, ap_un, ap_if, ap_test, ap_B, ap_and, ap_or, ap_not, ap_andV, ap_orV, ap_notV, ap_nil, ap_cons, ap_tup, ap_lst, ap_cb, ap_bm, ap_call, ap_chain, ap_rI, ap_rI0, ap_rU, ap_rEq, ap_rNe, ap_revT, ap_sl, ap_part, ap_noPart, ap_ixLI, ap_ixTI, ap_ixLV, ap_ixTV, ap_len, ap_setLI, ap_setLV, ap_appI, ap_appV, ap_tupL, ap_listS, ap_sumLI, ap_sumTI, ap_repLI, ap_intI, ap_intB, ap_eqTI, ap_neTI, ap_eqLI, ap_neLI, ap_isi, ap_for, ap_rng1, ap_rng2, ap_iList, ap_iTup, ap_lc, ap_yes, ap_cut, ap_gTupH, ap_fmt, ap_jsn, ap_jsc, ap_gcd, ap_isqrt, ap_ixL, tyV_l, wipe_nil, wipe_cons, upd_same, ap_iEnT, ap_iEnL, ap_iZipA, ap_all, ap_tupT, ap_attF, ap_makeL, ap_att, ap_prop, ap_isO, ap_bin, ap_ne, ap_meth, ap_make, ins_inj, FE_inj, ap_slI, ap_catI, ap_perm, ap_lenO, ap_strO, ap_listO, ap_reprB, ap_iterT, ap_neT, ap_negO, ap_binI, ap_catL, ap_tM1, ap_repTI, ap_popN, ap_par3, ap_catTT, ap_repTA, ap_countT, ap_notInT, ap_repL1, ap_cm, ap_shl, ap_shr, ap_mask, ap_comb, ap_bits, ap_rng3, List.set_cons_zero, List.set_cons_succ, List.getElem?_cons_zero, List.getElem?_cons_succ, List.cons_append, List.nil_append, List.append_nil, Option.some.injEq, V.int.injEq, V.ref.injEq, V.bl.injEq, V.str.injEq, V.ty.injEq, Bool.not_true, Bool.not_false, HO.lst.injEq, HO.tup.injEq, reduceCtorEq, Int.reduceToNat, Int.reduceLT, Int.reduceLE, Nat.reduceAdd, Int.cast_ofNat_Int, gi_c0, gi_c1, gi_c2, gi_c3, Int.natCast_inj, map_int_inj, map_nil_iff, List.cons.injEq, exists_eq_left, exists_eq_left', exists_eq, exists_eq', exists_and_left, exists_and_right, exists_const, and_assoc, and_true, true_and, and_false, false_and, or_false, false_or, or_true, true_or, ite_true, ite_false, if_true, if_false, Bool.false_eq_true, own_cons, own_nil, le1, le2, le3, le4, me_cons, me_nil, List.length_map, List.length_cons, List.length_nil, ne_eq, not_false_eq_true, not_true_eq_false, decide_eq_true_eq]
      obtain ⟨b1, b2, b3, b4, b5, b6, b7⟩ := id hw
      refine ⟨rfl, iteC (fun co => ⟨c1, by omega, c2, by omega, by unfold CDp; omega, (_, _, _), ?_, rfl, rfl, rfl, hw.odd (by omega) hp co⟩) (fun co => ⟨c2, by omega, by unfold CDp; omega, (z.1, z.2.1 * z.2.1 % p, z.2.2 / 2), ?_, rfl, rfl, rfl, hw.even (by omega) hp co⟩)⟩
      · show (z.2.2 / 2).toNat < z.2.2.toNat
        omega
      · show (z.2.2 / 2).toNat < z.2.2.toNat
        omega
    · obtain ⟨e1, e2, hw⟩ := hP
      subst e1 e2
      have hp : ¬ 0 < z.2.2 := of_decide_eq_false ht
      simp only [ap_seq, ap_next, ap_asg, ap_gName, ap_ret, ap_retN, ap_drop, ap_ifS, ap_break, ap_cont, ap_par, ap_aug, ap_ip, ap_gSub, ap_gTup, ap_gNil, ap_gCons, ap_var, ap_c, ap_op, ap_un, ap_if, ap_test, ap_B, ap_and, ap_or, ap_not, ap_andV, ap_orV, ap_notV, ap_nil, ap_cons, ap_tup, ap_lst, ap_cb, ap_bm, ap_call, ap_chain, ap_rI, ap_rI0, ap_rU, ap_rEq, ap_rNe, ap_revT, ap_sl, ap_part, ap_noPart, ap_ixLI, ap_ixTI, ap_ixLV, ap_ixTV, ap_len, ap_setLI, ap_setLV, ap_appI, ap_appV, ap_tupL, ap_listS, ap_sumLI, ap_sumTI, ap_repLI, ap_intI, ap_intB, ap_eqTI, ap_neTI, ap_eqLI, ap_neLI, ap_isi, ap_for, ap_rng1, ap_rng2, ap_iList, ap_iTup, ap_lc, ap_yes, ap_cut, ap_gTupH, ap_fmt, ap_jsn, ap_jsc, ap_gcd, ap_isqrt, ap_ixL, tyV_l, wipe_nil, wipe_cons, upd_same, ap_iEnT, ap_iEnL, ap_iZipA, ap_all, ap_tupT, ap_attF, ap_makeL, ap_att, ap_prop, ap_isO, ap_bin, ap_ne, ap_meth, ap_make, ins_inj, FE_inj, ap_slI, ap_catI, ap_perm, ap_lenO, ap_strO, ap_listO, ap_reprB, ap_iterT, ap_neT, ap_negO, ap_binI, ap_catL, ap_tM1, ap_repTI, ap_popN, ap_par3, ap_catTT, ap_repTA, ap_countT, ap_notInT, ap_repL1, ap_cm, ap_shl, ap_shr, ap_mask, ap_comb, ap_bits, ap_rng3, List.set_cons_zero, List.set_cons_succ, List.getElem?_cons_zero, List.getElem?_cons_succ, List.cons_append, List.nil_append, List.append_nil, Option.some.injEq, V.int.injEq, V.ref.injEq, V.bl.injEq, V.str.injEq, V.ty.injEq, Bool.not_true, Bool.not_false, HO.lst.injEq, HO.tup.injEq, reduceCtorEq, Int.reduceToNat, Int.reduceLT, Int.reduceLE, Nat.reduceAdd, Int.cast_ofNat_Int, gi_c0, gi_c1, gi_c2, gi_c3, Int.natCast_inj, map_int_inj, map_nil_iff, List.cons.injEq, exists_eq_left, exists_eq_left', exists_eq, exists_eq', exists_and_left, exists_and_right, exists_const, and_assoc, and_true, true_and, and_false, false_and, or_false, false_or, or_true, true_or, ite_true, ite_false, if_true, if_false, Bool.false_eq_true, own_cons, own_nil, le1, le2, le3, le4, me_cons, me_nil, List.length_map, List.length_cons, List.length_nil, ne_eq, not_false_eq_true, not_true_eq_false, decide_eq_true_eq]
      rw [hw.done hp]
      exact q
def sp_inverse_of : Sp := fun vs H Q _ => ∃ (n p : Int), vs = [.int n, .int p] ∧ 1 < p ∧ p < 1000 ∧ Q (.int (n ^ (p - 2).toNat % p)) H
theorem ok_inverse_of (T : Tx K mg) : FnOk P w K mg base CX0 2 T.f_inverse_of T.d_inverse_of p_inverse_of sp_inverse_of := by
  refine T.F_inverse_of.ok sc_inverse_of (fun vs H Q E h => ?_) (fun cdv A outer s H vs Q E hr h => ?_)
  · obtain ⟨n, p, rfl, _⟩ := h
    rfl
  · obtain ⟨n, p, rfl, p0, p1, q⟩ := h
    refine ⟨_, (pss_one (ps_ret (pe_call (ok_power_of T) (hr.mono (by decide)) (by rfl) T.m_power_of T.F_power_of.kp T.b_power_of .nil pass0 (pa_cons (pv 0) (pa_cons (pe_op op_sub (pv 1) pe_int) (pa_cons (pv 1) pa_nil)))))), ?_⟩
    rw [st_inverse_of]
    simp only [ap_seq, ap_next, ap_asg, ap_gName, ap_ret, ap_retN, ap_drop, ap_ifS, ap_break, ap_cont, ap_par, ap_aug, ap_ip, ap_gSub, ap_gTup, ap_gNil, ap_gCons, ap_var, ap_c, ap_op, ap_un, ap_if, ap_test, ap_B, ap_and, ap_or, ap_not, ap_andV, ap_orV, ap_notV, ap_nil, ap_cons, ap_tup, ap_lst, ap_cb, ap_bm, ap_call, ap_chain, ap_rI, ap_rI0, ap_rU, ap_rEq, ap_rNe, ap_revT, ap_sl, ap_part, ap_noPart, ap_ixLI, ap_ixTI, ap_ixLV, ap_ixTV, ap_len, ap_setLI, ap_setLV, ap_appI, ap_appV, ap_tupL, ap_listS, ap_sumLI, ap_sumTI, ap_repLI, ap_intI, ap_intB, ap_eqTI, ap_neTI, ap_eqLI, ap_neLI, ap_isi, ap_for, ap_rng1, ap_rng2, ap_iList, ap_iTup, ap_lc, ap_yes, ap_cut, ap_gTupH, ap_fmt, ap_jsn, ap_jsc, ap_gcd, ap_isqrt, ap_ixL, tyV_l, wipe_nil, wipe_cons, upd_same, ap_iEnT, ap_iEnL, ap_iZipA, ap_all, ap_tupT, ap_attF, ap_makeL, ap_att, ap_prop, ap_isO, ap_bin, ap_ne, ap_meth, ap_make, ins_inj, FE_inj, ap_slI, ap_catI, ap_perm, ap_lenO, ap_strO, ap_listO, ap_reprB, ap_iterT, ap_neT, ap_negO, ap_binI, ap_catL, ap_tM1, ap_repTI, ap_popN, ap_par3, ap_catTT, ap_repTA, ap_countT, ap_notInT, ap_repL1, ap_cm, ap_shl, ap_shr, ap_mask, ap_comb, ap_bits, ap_rng3, List.set_cons_zero, List.set_cons_succ, List.getElem?_cons_zero, List.getElem?_cons_succ, List.cons_append, List.nil_append, List.append_nil, Option.some.injEq, V.int.injEq, V.ref.injEq, V.bl.injEq, V.str.injEq, V.ty.injEq, Bool.not_true, Bool.not_false, HO.lst.injEq, HO.tup.injEq, reduceCtorEq, Int.reduceToNat, Int.reduceLT, Int.reduceLE, Nat.reduceAdd, Int.cast_ofNat_Int, gi_c0, gi_c1, gi_c2, gi_c3, Int.natCast_inj, map_int_inj, map_nil_iff, List.cons.injEq, exists_eq_left, exists_eq_left', exists_eq, exists_eq', exists_and_left, exists_and_right, exists_const, and_assoc, and_true, true_and, and_false, false_and, or_false, false_or, or_true, true_or, ite_true, ite_false, if_true, if_false, Bool.false_eq_true, own_cons, own_nil, le1, le2, le3, le4, me_cons, me_nil, List.length_map, List.length_cons, List.length_nil, ne_eq, not_false_eq_true, not_true_eq_false, decide_eq_true_eq, sp_power_of]
    exact ⟨by omega, by omega, p0, p1, q⟩
def sp_law_undo_by : Sp := fun vs H Q _ => ∃ (n p : Int), vs = [.int n, .int p] ∧ 1 < p ∧ p < 1000 ∧ Q (.int (n ^ (p - 2).toNat % p)) H
theorem ok_law_undo_by (T : Tx K mg) : FnOk P w K mg base CX0 1 T.f_law_undo_by T.d_law_undo_by p_law_undo_by sp_law_undo_by := by
  refine T.F_law_undo_by.ok sc_law_undo_by (fun vs H Q E h => ?_) (fun cdv A outer s H vs Q E hr h => ?_)
  · obtain ⟨n, p, rfl, _⟩ := h
    rfl
  · obtain ⟨n, p, rfl, p0, p1, q⟩ := h
    refine ⟨_, (pss_cons (ps_par3 (i := 2) (j := 3) (l := 4) (by rfl) sc_law_undo_by.nd rfl rfl rfl (by decide) (by decide) (by decide) rfl rfl rfl (pa_cons pe_int (pa_cons (pe_op op_mod (pe_callTy cr_intI (by rfl) T.z_int (by decide +kernel) (pa_cons (pv 0) pa_nil)) (pv 1)) (pa_cons (pe_op op_sub (pv 1) pe_int) pa_nil))) (by rfl))
      (pss_cons (ps_while PassesOwn.never (pt_cmpR op_gt (pv 4) pe_int (nomark _))
      (pss_cons (ps_if (pt_cmpR op_eq (pe_op op_mod (pv 4) pe_int) pe_int (nomark _)) (pss_one (ps_set (i := 2) sc_law_undo_by.nd rfl (Or.inl rfl) (pe_op op_mod (pe_callTy cr_intI (by rfl) T.z_int (by decide +kernel) (pa_cons (pe_op op_mulB (pv 2) (pv 3)) pa_nil)) (pv 1)))) pss_nil)
      (pss_one (ps_par (i := 3) (j := 4) (by rfl) sc_law_undo_by.nd rfl rfl (by decide) rfl rfl (pa_cons (pe_op op_mod (pe_callTy cr_intI (by rfl) T.z_int (by decide +kernel) (pa_cons (pe_op op_mulB (pv 3) (pv 3)) pa_nil)) (pv 1)) (pa_cons (pe_op op_fdivP (pv 4) pe_int) pa_nil)) (by rfl)))))
      (pss_one (ps_ret (pv 2))))), ?_⟩
    rw [st_law_undo_by]
    simp only [ap_seq, ap_next, ap_asg, ap_gName, ap_ret, ap_retN, ap_drop, ap_ifS, ap_break, ap_cont, ap_par, ap_aug, ap_ip, ap_gSub, ap_gTup, ap_gNil, ap_gCons, ap_var, ap_c, ap_op, ap_un, ap_if, ap_test, ap_B, ap_and, ap_or, ap_not, ap_andV, ap_orV, ap_notV, ap_nil, ap_cons, ap_tup, ap_lst, ap_cb, ap_bm, ap_call, ap_chain, ap_rI, ap_rI0, ap_rU, ap_rEq, ap_rNe, ap_revT, ap_sl, ap_part, ap_noPart, ap_ixLI, ap_ixTI, ap_ixLV, ap_ixTV, ap_len, ap_setLI, ap_setLV, ap_appI, ap_appV, ap_tupL, ap_listS, ap_sumLI, ap_sumTI, ap_repLI, ap_intI, ap_intB, ap_eqTI, ap_neTI, ap_eqLI, ap_neLI, ap_isi, ap_for, ap_rng1, ap_rng2, ap_iList, ap_iTup, ap_lc, ap_yes, ap_cut, ap_gTupH, ap_fmt, ap_jsn, ap_jsc, ap_gcd, ap_isqrt, ap_ixL, tyV_l, wipe_nil, wipe_cons, upd_same, ap_iEnT, ap_iEnL, ap_iZipA, ap_all, ap_tupT, ap_attF, ap_makeL, ap_att, ap_prop, ap_isO, ap_bin, ap_ne, ap_meth, ap_make, ins_inj, FE_inj, ap_slI, ap_catI, ap_perm, ap_lenO, ap_strO, ap_listO, ap_reprB, ap_iterT, ap_neT, ap_negO, ap_binI, ap_catL, ap_tM1, ap_repTI, ap_popN, ap_par3, ap_catTT, ap_repTA, ap_countT, ap_notInT, ap_repL1, ap_cm, ap_shl, ap_shr, ap_mask, ap_comb, ap_bits, ap_rng3, List.set_cons_zero, List.set_cons_succ, List.getElem?_cons_zero, List.getElem?_cons_succ, List.cons_append, List.nil_append, List.append_nil, Option.some.injEq, V.int.injEq, V.ref.injEq, V.bl.injEq, V.str.injEq, V.ty.injEq, Bool.not_true, Bool.not_false, HO.lst.injEq, HO.tup.injEq, reduceCtorEq, Int.reduceToNat, Int.reduceLT, Int.reduceLE, Nat.reduceAdd, Int.cast_ofNat_Int, gi_c0, gi_c1, gi_c2, gi_c3, Int.natCast_inj, map_int_inj, map_nil_iff, List.cons.injEq, exists_eq_left, exists_eq_left', exists_eq, exists_eq', exists_and_left, exists_and_right, exists_const, and_assoc, and_true, true_and, and_false, false_and, or_false, false_or, or_true, true_or, ite_true, ite_false, if_true, if_false, Bool.false_eq_true, own_cons, own_nil, le1, le2, le3, le4, me_cons, me_nil, List.length_map, List.length_cons, List.length_nil, ne_eq, not_false_eq_true, not_true_eq_false, decide_eq_true_eq]
    refine ⟨by omega, while_a (fun (z : Int × Int × Int) σ' H' => σ' = [some (.int n), some (.int p), some (.int z.1), some (.int z.2.1), some (.int z.2.2)] ∧ H' = H ∧ Pw n p (p - 2).toNat z.1 z.2.1 z.2.2) (fun z => decide (0 < z.2.2)) (fun z => z.2.2.toNat) (_, _, _) ⟨rfl, rfl, Pw.start n p (by omega) (by omega) p0⟩ (fun z σ' H' hP Q1 hQ => ?_) (fun z σ' H' hP ht => ?_) (fun z σ' H' hP ht => ?_)⟩
    · obtain ⟨e1, e2, hw⟩ := hP
      subst e1 e2
      simp only [ap_seq, ap_next, ap_asg, ap_gName, ap_ret, ap_retN, ap_drop, ap_ifS, ap_break, ap_cont, ap_par, ap_aug, ap_ip, ap_gSub, ap_gTup, ap_gNil, ap_gCons, ap_var, ap_c, ap_op, ap_un, ap_if, ap_test, ap_B, ap_and, ap_or, ap_not, ap_andV, ap_orV, ap_notV, ap_nil, ap_cons, ap_tup, ap_lst, ap_cb, ap_bm, ap_call, ap_chain, ap_rI, ap_rI0, ap_rU, ap_rEq, ap_rNe, ap_revT, ap_sl, ap_part, ap_noPart, ap_ixLI, ap_ixTI, ap_ixLV, ap_ixTV, ap_len, ap_setLI, ap_setLV, ap_appI, ap_appV, ap_tupL, ap_listS, ap_sumLI, ap_sumTI, ap_repLI, ap_intI, ap_intB, ap_eqTI, ap_neTI, ap_eqLI, ap_neLI, ap_isi, ap_for, ap_rng1, ap_rng2, ap_iList, ap_iTup, ap_lc, ap_yes, ap_cut, ap_gTupH, ap_fmt, ap_jsn, ap_jsc, ap_gcd, ap_isqrt, ap_ixL, tyV_l, wipe_nil, wipe_cons, upd_same, ap_iEnT, ap_iEnL, ap_iZipA, ap_all, ap_tupT, ap_attF, ap_makeL, ap_att, ap_prop, ap_isO, ap_bin, ap_ne, ap_meth, ap_make, ins_inj, FE_inj, ap_slI, ap_catI, ap_perm, ap_lenO, ap_strO, ap_listO, ap_reprB, ap_iterT, ap_neT, ap_negO, ap_binI, ap_catL, ap_tM1, ap_repTI, ap_popN, ap_par3, ap_catTT, ap_repTA, ap_countT, ap_notInT, ap_repL1, ap_cm, ap_shl, ap_shr, ap_mask, ap_comb, ap_bits, ap_rng3, List.set_cons_zero, List.set_cons_succ, List.getElem?_cons_zero, List.getElem?_cons_succ, List.cons_append, List.nil_append, List.append_nil, Option.some.injEq, V.int.injEq, V.ref.injEq, V.bl.injEq, V.str.injEq, V.ty.injEq, Bool.not_true, Bool.not_false, HO.lst.injEq, HO.tup.injEq, reduceCtorEq, Int.reduceToNat, Int.reduceLT, Int.reduceLE, Nat.reduceAdd, Int.cast_ofNat_Int, gi_c0, gi_c1, gi_c2, gi_c3, Int.natCast_inj, map_int_inj, map_nil_iff, List.cons.injEq, exists_eq_left, exists_eq_left', exists_eq, exists_eq', exists_and_left, exists_and_right, exists_const, and_assoc, and_true, true_and, and_false, false_and, or_false, false_or, or_true, true_or, ite_true, ite_false, if_true, if_false, Bool.false_eq_true, own_cons, own_nil, le1, le2, le3, le4, me_cons, me_nil, List.length_map, List.length_cons, List.length_nil, ne_eq, not_false_eq_true, not_true_eq_false, decide_eq_true_eq]
      exact hQ
    · obtain ⟨e1, e2, hw⟩ := hP
      subst e1 e2
      have hp : 0 < z.2.2 := of_decide_eq_true ht
      obtain ⟨c1, c2⟩ := hw.wd p1
      simp only [ap_seq, ap_next, ap_asg, ap_gName, ap_ret, ap_retN, ap_drop, ap_ifS, ap_break, ap_cont, ap_par, ap_aug, ap_ip, ap_gSub, ap_gTup, ap_gNil, ap_gCons, ap_var, ap_c, ap_op, ap_un, ap_if, ap_test, ap_B, ap_and, ap_or, ap_not, ap_andV, ap_orV, ap_notV, ap_nil, ap_cons, ap_tup, ap_lst, ap_cb, ap_bm, ap_call, ap_chain, ap_rI, ap_rI0, ap_rU, ap_rEq, ap_rNe, ap_revT, ap_sl, ap_part, ap_noPart, ap_ixLI, ap_ixTI, ap_ixLV, ap_ixTV, ap_len, ap_setLI, ap_setLV, ap_appI, ap_appV, ap_tupL, ap_listS, ap_sumLI, ap_sumTI, ap_repLI, ap_intI, ap_intB, ap_eqTI, ap_neTI, ap_eqLI, ap_neLI, ap_isi, ap_for, ap_rng1, ap_rng2, ap_iList, ap_iTup, ap_lc, ap_yes, ap_cut, ap_gTupH, ap_fmt, ap_jsn, ap_jsc, ap_gcd, ap_isqrt, ap_ixL, tyV_l, wipe_nil, wipe_cons, upd_same, ap_iEnT, ap_iEnL, ap_iZipA, ap_all, ap_tupT, ap_attF, ap_makeL, ap_att, ap_prop, ap_isO, ap_bin, ap_ne, ap_meth, ap_make, ins_inj, FE_inj, ap_slI, ap_catI, ap_perm, ap_lenO, ap_strO, ap_listO, ap_reprB, ap_iterT, ap_neT, ap_negO, ap_binI, ap_catL, ap_tM1, ap_repTI, ap_popN, ap_par3, ap_catTT, ap_repTA, ap_countT, ap_notInT, ap_repL1, ap_cm, ap_shl, ap_shr, ap_mask, ap_comb, ap_bits, ap_rng3, List.set_cons_zero, List.set_cons_succ, List.getElem?_cons_zero, List.getElem?_cons_succ, List.cons_append, List.nil_append, List.append_nil, Option.some.injEq, V.int.injEq, V.ref.injEq, V.bl.injEq, V.str.injEq, V.ty.injEq, Bool.not_true, Bool.not_false, HO.lst.injEq, HO.tup.injEq, reduceCtorEq, Int.reduceToNat, Int.reduceLT, Int.reduceLE, Nat.reduceAdd, Int.cast_ofNat_Int, gi_c0, gi_c1, gi_c2, gi_c3, Int.natCast_inj, map_int_inj, map_nil_iff, List.cons.injEq, exists_eq_left, exists_eq_left', exists_eq, exists_eq', exists_and_left, exists_and_right, exists_const, and_assoc, and_true, true_and, and_false, false_and, or_false, false_or, or_true, true_or, ite_true, ite_false, if_true, if_false, Bool.false_eq_true, own_cons, own_nil, le1, le2, le3, le4, me_cons, me_nil, List.length_map, List.length_cons, List.length_nil, ne_eq, not_false_eq_true, not_true_eq_false, decide_eq_true_eq]
      obtain ⟨b1, b2, b3, b4, b5, b6, b7⟩ := id hw
      refine ⟨rfl, iteC (fun co => ⟨c1, by omega, c2, by omega, by unfold CDp; omega, (_, _, _), ?_, rfl, rfl, rfl, hw.odd (by omega) hp co⟩) (fun co => ⟨c2, by omega, by unfold CDp; omega, (z.1, z.2.1 * z.2.1 % p, z.2.2 / 2), ?_, rfl, rfl, rfl, hw.even (by omega) hp co⟩)⟩
      · show (z.2.2 / 2).toNat < z.2.2.toNat
        omega
      · show (z.2.2 / 2).toNat < z.2.2.toNat
        omega
    · obtain ⟨e1, e2, hw⟩ := hP
      subst e1 e2
      have hp : ¬ 0 < z.2.2 := of_decide_eq_false ht
      simp only [ap_seq, ap_next, ap_asg, ap_gName, ap_ret, ap_retN, ap_drop, ap_ifS, ap_break, ap_cont, ap_par, ap_aug, ap_ip, ap_gSub, ap_gTup, ap_gNil, ap_gCons, ap_var, ap_c, ap_op, ap_un, ap_if, ap_test, ap_B, ap_and, ap_or, ap_not, ap_andV, ap_orV, ap_notV, ap_nil, ap_cons, ap_tup, ap_lst, ap_cb, ap_bm, ap_call, ap_chain, ap_rI, ap_rI0, ap_rU, ap_rEq, ap_rNe, ap_revT, ap_sl, ap_part, ap_noPart, ap_ixLI, ap_ixTI, ap_ixLV, ap_ixTV, ap_len, ap_setLI, ap_setLV, ap_appI, ap_appV, ap_tupL, ap_listS, ap_sumLI, ap_sumTI, ap_repLI, ap_intI, ap_intB, ap_eqTI, ap_neTI, ap_eqLI, ap_neLI, ap_isi, ap_for, ap_rng1, ap_rng2, ap_iList, ap_iTup, ap_lc, ap_yes, ap_cut, ap_gTupH, ap_fmt, ap_jsn, ap_jsc, ap_gcd, ap_isqrt, ap_ixL, tyV_l, wipe_nil, wipe_cons, upd_same, ap_iEnT, ap_iEnL, ap_iZipA, ap_all, ap_tupT, ap_attF, ap_makeL, ap_att, ap_prop, ap_isO, ap_bin, ap_ne, ap_meth, ap_make, ins_inj, FE_inj, ap_slI, ap_catI, ap_perm, ap_lenO, ap_strO, ap_listO, ap_reprB, ap_iterT, ap_neT, ap_negO, ap_binI, ap_catL, ap_tM1, ap_repTI, ap_popN, ap_par3, ap_catTT, ap_repTA, ap_countT, ap_notInT, ap_repL1, ap_cm, ap_shl, ap_shr, ap_mask, ap_comb, ap_bits, ap_rng3, List.set_cons_zero, List.set_cons_succ, List.getElem?_cons_zero, List.getElem?_cons_succ, List.cons_append, List.nil_append, List.append_nil, Option.some.injEq, V.int.injEq, V.ref.injEq, V.bl.injEq, V.str.injEq, V.ty.injEq, Bool.not_true, Bool.not_false, HO.lst.injEq, HO.tup.injEq, reduceCtorEq, Int.reduceToNat, Int.reduceLT, Int.reduceLE, Nat.reduceAdd, Int.cast_ofNat_Int, gi_c0, gi_c1, gi_c2, gi_c3, Int.natCast_inj, map_int_inj, map_nil_iff, List.cons.injEq, exists_eq_left, exists_eq_left', exists_eq, exists_eq', exists_and_left, exists_and_right, exists_const, and_assoc, and_true, true_and, and_false, false_and, or_false, false_or, or_true, true_or, ite_true, ite_false, if_true, if_false, Bool.false_eq_true, own_cons, own_nil, le1, le2, le3, le4, me_cons, me_nil, List.length_map, List.length_cons, List.length_nil, ne_eq, not_false_eq_true, not_true_eq_false, decide_eq_true_eq]
      rw [hw.done hp]
      exact q
end
end My
namespace My
open PySem PySem.Spec PyProof.Rows L2 Pr
section
variable {P : Program} {w : World} {K : PySem.W.Frag} {mg : Str → Option Value} {base : Heap}
def invP (p n : Int) : Int := n ^ (p - 2).toNat % p
/-- a row made plain: the first entry but 0 becomes 1 -/
def plR (p : Int) (ns : List Int) : List Int := match ns.filter nz with
  | [] => ns
  | x :: _ => ns.map (fun n => invP p x * n % p)
def plP (p : Int) (ns : List Int) : List Int := plR p (ns.map (· % p))
theorem lead_cases : ∀ ns : List Int, (leadV ns = .non ∧ ns.filter nz = []) ∨ ∃ (i : Nat) (x : Int) (t : List Int), leadV ns = .int (i : Nat) ∧ ns[i]? = some x ∧ x ≠ 0 ∧ ns.filter nz = x :: t := fun ns => by
  rcases e : ns.findIdx? (fun n => decide (n ≠ 0)) with _ | i
  · left
    refine ⟨by unfold leadV; rw [e], ?_⟩
    rw [List.findIdx?_eq_none_iff] at e
    rw [List.filter_eq_nil_iff]
    intro n hn
    simp [nz, e n hn]
  · right
    rw [List.findIdx?_eq_some_iff_getElem] at e
    obtain ⟨hi, h1, h2⟩ := e
    have h1' : ns[i] ≠ 0 := of_decide_eq_true h1
    have hz : ∀ n ∈ ns.take i, n = 0 := fun n hn => by
      obtain ⟨j, hj, rfl⟩ := List.mem_take_iff_getElem.mp hn
      have := h2 j (by omega)
      simpa using this
    refine ⟨i, ns[i], (ns.drop (i + 1)).filter nz, leadV_some hz (List.getElem?_eq_getElem hi) h1', List.getElem?_eq_getElem hi, h1', ?_⟩
    have e3 : ns = ns.take i ++ ns[i] :: ns.drop (i + 1) := by
      rw [← List.drop_eq_getElem_cons hi, List.take_append_drop]
    have e4 : (ns.take i).filter nz = [] := by
      rw [List.filter_eq_nil_iff]
      intro n hn
      simp [nz, hz n hn]
    have e5 : (ns.take i ++ ns[i] :: ns.drop (i + 1)).filter nz = ns[i] :: (ns.drop (i + 1)).filter nz := by
      rw [List.filter_append, e4, List.nil_append, List.filter_cons_of_pos (by simp [nz, h1'])]
    rw [← e3] at e5
    exact e5
theorem plP_some {p : Int} {ns : List Int} {x : Int} {t : List Int} (e : (ns.map (· % p)).filter nz = x :: t) : plP p ns = ns.map (fun n => invP p x * n % p) := by
  unfold plP plR
  rw [e]
  show ((ns.map (· % p)).map fun n => invP p x * n % p) = _
  rw [List.map_map]
  refine List.map_congr_left fun n _ => ?_
  show invP p x * (n % p) % p = invP p x * n % p
  rw [Int.mul_emod, Int.emod_emod, ← Int.mul_emod]
theorem plP_none {p : Int} {ns : List Int} (e : (ns.map (· % p)).filter nz = []) : plP p ns = ns.map (· % p) := by
  unfold plP plR
  rw [e]
theorem invP_wd {p n : Int} (h : 0 < p) (h2 : p < 1000) : Wd (invP p n) := by
  have := Int.emod_nonneg (n ^ (p - 2).toNat) (show p ≠ 0 by omega)
  have := Int.emod_lt_of_pos (n ^ (p - 2).toNat) h
  refine Sm.wd ?_
  unfold Sm invP
  omega
theorem mul_wd {a b A B : Int} (ha : -A ≤ a ∧ a ≤ A) (hb : -B ≤ b ∧ b ≤ B) (h0 : 0 ≤ A) (h1 : 0 ≤ B) (h : A * B < 10 ^ 900) : Wd (a * b) := by
  have := mul_bd ha hb h0 h1
  have e : ((2 : Int) ^ 250) ^ 16 > 10 ^ 900 := by decide +kernel
  unfold Wd
  omega
def sp_plain_row : Sp := fun vs H Q _ => ∃ (a : Addr) (ns : List Int) (p : Int), vs = [.ref a, .int p] ∧ H a = some (TI ns) ∧ ns.length < 1000 ∧ (∀ n ∈ ns, 0 ≤ n ∧ n < p) ∧ 1 < p ∧ p < 1000 ∧
  ∀ H' r, Same H H' → H' r = some (TI (plR p ns)) → Q (.ref r) H'
theorem ok_plain_row (T : Tx K mg) : FnOk P w K mg base CX0 3 T.f_plain_row T.d_plain_row p_plain_row sp_plain_row := by
  refine T.F_plain_row.ok sc_plain_row (fun vs H Q E h => ?_) (fun cdv A outer s H vs Q E hr h => ?_)
  · obtain ⟨a, ns, p, rfl, _⟩ := h
    rfl
  · obtain ⟨a, ns, p, rfl, ha, hl, hn, p0, p1, k⟩ := h
    refine ⟨_, (pss_cons (ps_set (i := 2) sc_plain_row.nd rfl (Or.inl rfl) (pe_call (ok_lead_of T) (hr.mono (by decide)) (by rfl) T.m_lead_of T.F_lead_of.kp T.b_lead_of .nil pass0 (pa_cons (pv 0) pa_nil)))
      (pss_cons (ps_if (pt_cmpR op_isN (pv 2) pe_non (nomark _)) (pss_one (ps_ret (pe_callTy cr_tupT (by rfl) T.z_tuple (by decide +kernel) (pa_cons (pv 0) pa_nil)))) pss_nil)
      (pss_cons (ps_set (i := 3) sc_plain_row.nd rfl (Or.inr rfl) (pe_call (ok_inverse_of T) (hr.mono (by decide)) (by rfl) T.m_inverse_of T.F_inverse_of.kp T.b_inverse_of .nil pass0 (pa_cons (pe_ix ix_TI (pv 0) (pv 2) (fun _ _ => rfl)) (pa_cons (pv 1) pa_nil))))
      (pss_one (ps_ret (pe_call (ok_modulo T) (hr.mono (by decide)) (by rfl) T.m_modulo T.F_modulo.kp T.b_modulo .nil pass0 (pa_cons (pe_lc (own := [("number", 4)]) (g := gName 4) (tt := tYes) rfl sc_plain_row.nd (pi_tup (pv 0)) (blkOk_by (N := n_plain_row) (sc := defScope s_plain_row) (by decide +kernel)) (fun _ _ _ _ _ => (pg_name (i := 4) sc_plain_row.nd rfl (by first | exact .inl rfl | exact .inr rfl))) (fun _ _ _ _ _ => pts_nil) (fun _ _ _ _ _ => (pe_op op_mulB (pv 3) (pv 4)))) (pa_cons (pv 1) pa_nil)))))))), ?_⟩
    rw [st_plain_row]
    simp only [ap_seq, ap_next, ap_asg, ap_gName, ap_ret, ap_retN, ap_drop, ap_ifS, ap_break, ap_cont, ap_par, ap_aug, ap_ip, ap_gSub, ap_gTup, ap_gNil, ap_gCons, ap_var, ap_c, ap_op, ap_un, ap_if, ap_test, ap_B, ap_and, ap_or, ap_not, ap_andV, ap_orV, ap_notV, ap_nil, ap_cons, ap_tup, ap_lst, ap_cb, ap_bm, ap_call, ap_chain, ap_rI, ap_rI0, ap_rU, ap_rEq, ap_rNe, ap_revT, ap_sl, ap_part, ap_noPart, ap_ixLI, ap_ixTI, ap_ixLV, ap_ixTV, ap_len, ap_setLI, ap_setLV, ap_appI, ap_appV, ap_tupL, ap_listS, ap_sumLI, ap_sumTI, ap_repLI, ap_intI, ap_intB, ap_eqTI, ap_neTI, ap_eqLI, ap_neLI, ap_isi, ap_for, ap_rng1, ap_rng2, ap_iList, ap_iTup, ap_lc, ap_yes, ap_cut, ap_gTupH, ap_fmt, ap_jsn, ap_jsc, ap_gcd, ap_isqrt, ap_ixL, tyV_l, wipe_nil, wipe_cons, upd_same, ap_iEnT, ap_iEnL, ap_iZipA, ap_all, ap_tupT, ap_attF, ap_makeL, ap_att, ap_prop, ap_isO, ap_bin, ap_ne, ap_meth, ap_make, ins_inj, FE_inj, ap_slI, ap_catI, ap_perm, ap_lenO, ap_strO, ap_listO, ap_reprB, ap_iterT, ap_neT, ap_negO, ap_binI, ap_catL, ap_tM1, ap_repTI, ap_popN, ap_par3, ap_catTT, ap_repTA, ap_countT, ap_notInT, ap_repL1, ap_cm, ap_shl, ap_shr, ap_mask, ap_comb, ap_bits, ap_rng3, List.set_cons_zero, List.set_cons_succ, List.getElem?_cons_zero, List.getElem?_cons_succ, List.cons_append, List.nil_append, List.append_nil, Option.some.injEq, V.int.injEq, V.ref.injEq, V.bl.injEq, V.str.injEq, V.ty.injEq, Bool.not_true, Bool.not_false, HO.lst.injEq, HO.tup.injEq, reduceCtorEq, Int.reduceToNat, Int.reduceLT, Int.reduceLE, Nat.reduceAdd, Int.cast_ofNat_Int, gi_c0, gi_c1, gi_c2, gi_c3, Int.natCast_inj, map_int_inj, map_nil_iff, List.cons.injEq, exists_eq_left, exists_eq_left', exists_eq, exists_eq', exists_and_left, exists_and_right, exists_const, and_assoc, and_true, true_and, and_false, false_and, or_false, false_or, or_true, true_or, ite_true, ite_false, if_true, if_false, Bool.false_eq_true, own_cons, own_nil, le1, le2, le3, le4, me_cons, me_nil, List.length_map, List.length_cons, List.length_nil, ne_eq, not_false_eq_true, not_true_eq_false, decide_eq_true_eq, sp_lead_of]
    refine ⟨ns, ha, fun H1 s1 => ?_⟩
    have ha1 := s1 _ _ ha
    rcases lead_cases ns with ⟨e1, e2⟩ | ⟨i, x, t, e1, e3, hx, e2⟩
    · rw [e1, if_pos rfl]
      refine ⟨⟨_, ha1⟩, k H1 a s1 ?_⟩
      unfold plR
      rw [e2]
      exact ha1
    · rw [e1, if_neg (by simp)]
      obtain ⟨hi, e4⟩ := List.getElem?_eq_some_iff.mp e3
      have eg : gi ns (i : Int) = x := by
        unfold gi
        rw [List.getD_eq_getElem?_getD, Int.toNat_natCast, e3]
        rfl
      refine ⟨_, rfl, _, ha1, by omega, by omega, _, _, rfl, p0, p1, ⟨_, sqT_of ha1⟩, ?_⟩
      rw [eg]
      refine lc_mapT (fun n => invP p x * n) ha1 (by omega) (fun x => rfl) (fun n hm H' sm Q' k' => ?_) (fun A H' hA sm e => ?_)
      · have b := hn n hm
        simp only [ap_seq, ap_next, ap_asg, ap_gName, ap_ret, ap_retN, ap_drop, ap_ifS, ap_break, ap_cont, ap_par, ap_aug, ap_ip, ap_gSub, ap_gTup, ap_gNil, ap_gCons, ap_var, ap_c, ap_op, ap_un, ap_if, ap_test, ap_B, ap_and, ap_or, ap_not, ap_andV, ap_orV, ap_notV, ap_nil, ap_cons, ap_tup, ap_lst, ap_cb, ap_bm, ap_call, ap_chain, ap_rI, ap_rI0, ap_rU, ap_rEq, ap_rNe, ap_revT, ap_sl, ap_part, ap_noPart, ap_ixLI, ap_ixTI, ap_ixLV, ap_ixTV, ap_len, ap_setLI, ap_setLV, ap_appI, ap_appV, ap_tupL, ap_listS, ap_sumLI, ap_sumTI, ap_repLI, ap_intI, ap_intB, ap_eqTI, ap_neTI, ap_eqLI, ap_neLI, ap_isi, ap_for, ap_rng1, ap_rng2, ap_iList, ap_iTup, ap_lc, ap_yes, ap_cut, ap_gTupH, ap_fmt, ap_jsn, ap_jsc, ap_gcd, ap_isqrt, ap_ixL, tyV_l, wipe_nil, wipe_cons, upd_same, ap_iEnT, ap_iEnL, ap_iZipA, ap_all, ap_tupT, ap_attF, ap_makeL, ap_att, ap_prop, ap_isO, ap_bin, ap_ne, ap_meth, ap_make, ins_inj, FE_inj, ap_slI, ap_catI, ap_perm, ap_lenO, ap_strO, ap_listO, ap_reprB, ap_iterT, ap_neT, ap_negO, ap_binI, ap_catL, ap_tM1, ap_repTI, ap_popN, ap_par3, ap_catTT, ap_repTA, ap_countT, ap_notInT, ap_repL1, ap_cm, ap_shl, ap_shr, ap_mask, ap_comb, ap_bits, ap_rng3, List.set_cons_zero, List.set_cons_succ, List.getElem?_cons_zero, List.getElem?_cons_succ, List.cons_append, List.nil_append, List.append_nil, Option.some.injEq, V.int.injEq, V.ref.injEq, V.bl.injEq, V.str.injEq, V.ty.injEq, Bool.not_true, Bool.not_false, HO.lst.injEq, HO.tup.injEq, reduceCtorEq, Int.reduceToNat, Int.reduceLT, Int.reduceLE, Nat.reduceAdd, Int.cast_ofNat_Int, gi_c0, gi_c1, gi_c2, gi_c3, Int.natCast_inj, map_int_inj, map_nil_iff, List.cons.injEq, exists_eq_left, exists_eq_left', exists_eq, exists_eq', exists_and_left, exists_and_right, exists_const, and_assoc, and_true, true_and, and_false, false_and, or_false, false_or, or_true, true_or, ite_true, ite_false, if_true, if_false, Bool.false_eq_true, own_cons, own_nil, le1, le2, le3, le4, me_cons, me_nil, List.length_map, List.length_cons, List.length_nil, ne_eq, not_false_eq_true, not_true_eq_false, decide_eq_true_eq]
        exact ⟨⟨invP_wd (by omega) p1, Sm.wd (by unfold Sm; omega)⟩, k' _ (Same.refl _)⟩
      · refine ⟨A, _, _, rfl, .inl e, by rw [List.length_map]; exact hl, fun m hm => ?_, by omega, p1, fun H2 r s2 nr er => k H2 r (s1.trans (sm.trans s2)) ?_⟩
        · obtain ⟨n, h1, rfl⟩ := List.mem_map.mp hm
          have b := hn n h1
          have b1 := Int.emod_nonneg (x ^ (p - 2).toNat) (show p ≠ 0 by omega)
          have b2 := Int.emod_lt_of_pos (x ^ (p - 2).toNat) (show 0 < p by omega)
          exact mul_wd (A := 1000) (B := 1000) (by unfold invP; omega) (by omega) (by decide) (by decide) (by decide +kernel)
        · unfold plR
          rw [e2, er, List.map_map]
          rfl
def sp_law_first_one : Sp := fun vs H Q _ => ∃ (a : Addr) (ns : List Int) (p : Int), vs = [.ref a, .int p] ∧ H a = some (TI ns) ∧ ns.length < 1000 ∧ (∀ n ∈ ns, -(10 ^ 100) ≤ n ∧ n ≤ 10 ^ 100) ∧ 1 < p ∧ p < 1000 ∧
  ∀ H' r, Same H H' → H r = none → H' r = some (TI (plP p ns)) → Q (.ref r) H'
theorem ok_law_first_one (T : Tx K mg) : FnOk P w K mg base CX0 2 T.f_law_first_one T.d_law_first_one p_law_first_one sp_law_first_one := by
  refine T.F_law_first_one.ok sc_law_first_one (fun vs H Q E h => ?_) (fun cdv A outer s H vs Q E hr h => ?_)
  · obtain ⟨a, ns, p, rfl, _⟩ := h
    rfl
  · obtain ⟨a, ns, p, rfl, ha, hl, hn, p0, p1, k⟩ := h
    refine ⟨_, (pss_cons (ps_setLc (i := 2) (own := [("_law_entry", 3)]) (g := gName 3) rfl sc_law_first_one.nd rfl rfl (sw_true rfl rfl rfl (by decide +kernel)) (pi_tup (pe_call (ok_law_left_by T) (hr.mono (by decide)) (by rfl) T.m_law_left_by T.F_law_left_by.kp T.b_law_left_by .nil pass0 (pa_cons (pv 0) (pa_cons (pv 1) pa_nil)))) (blkOk_by (N := n_law_first_one) (sc := defScope s_law_first_one) (by decide +kernel)) (fun _ _ _ _ _ => (pg_name (i := 3) sc_law_first_one.nd rfl (by first | exact .inl rfl | exact .inr rfl))) (fun _ _ _ _ _ => (pts_one (pt_cmpR op_ne (pv 3) pe_int (nomark _)))) (fun _ _ _ _ _ => (pv 3)))
      (pss_cons (ps_if (pt_cmpR (op_eqLI hr.units) (pv 2) (pe_lst pa_nil) (nomark _)) (pss_one (ps_ret (pe_call (ok_law_left_by T) (hr.mono (by decide)) (by rfl) T.m_law_left_by T.F_law_left_by.kp T.b_law_left_by .nil pass0 (pa_cons (pv 0) (pa_cons (pv 1) pa_nil))))) pss_nil)
      (pss_one (ps_ret (pe_call (ok_law_left_by T) (hr.mono (by decide)) (by rfl) T.m_law_left_by T.F_law_left_by.kp T.b_law_left_by .nil pass0 (pa_cons (pe_call (ok_law_scaled T) (hr.mono (by decide)) (by rfl) T.m_law_scaled T.F_law_scaled.kp T.b_law_scaled .nil pass0 (pa_cons (pv 0) (pa_cons (pe_call (ok_law_undo_by T) (hr.mono (by decide)) (by rfl) T.m_law_undo_by T.F_law_undo_by.kp T.b_law_undo_by .nil pass0 (pa_cons (pe_ix ix_LI (pv 2) pe_int (fun _ _ => rfl)) (pa_cons (pv 1) pa_nil))) pa_nil))) (pa_cons (pv 1) pa_nil))))))), ?_⟩
    rw [st_law_first_one]
    simp only [ap_seq, ap_next, ap_asg, ap_gName, ap_ret, ap_retN, ap_drop, ap_ifS, ap_break, ap_cont, ap_par, ap_aug, ap_ip, ap_gSub, ap_gTup, ap_gNil, ap_gCons, ap_var, ap_c, ap_op, ap_un, ap_if, ap_test, ap_B, ap_and, ap_or, ap_not, ap_andV, ap_orV, ap_notV, ap_nil, ap_cons, ap_tup, ap_lst, ap_cb, ap_bm, ap_call, ap_chain, ap_rI, ap_rI0, ap_rU, ap_rEq, ap_rNe, ap_revT, ap_sl, ap_part, ap_noPart, ap_ixLI, ap_ixTI, ap_ixLV, ap_ixTV, ap_len, ap_setLI, ap_setLV, ap_appI, ap_appV, ap_tupL, ap_listS, ap_sumLI, ap_sumTI, ap_repLI, ap_intI, ap_intB, ap_eqTI, ap_neTI, ap_eqLI, ap_neLI, ap_isi, ap_for, ap_rng1, ap_rng2, ap_iList, ap_iTup, ap_lc, ap_yes, ap_cut, ap_gTupH, ap_fmt, ap_jsn, ap_jsc, ap_gcd, ap_isqrt, ap_ixL, tyV_l, wipe_nil, wipe_cons, upd_same, ap_iEnT, ap_iEnL, ap_iZipA, ap_all, ap_tupT, ap_attF, ap_makeL, ap_att, ap_prop, ap_isO, ap_bin, ap_ne, ap_meth, ap_make, ins_inj, FE_inj, ap_slI, ap_catI, ap_perm, ap_lenO, ap_strO, ap_listO, ap_reprB, ap_iterT, ap_neT, ap_negO, ap_binI, ap_catL, ap_tM1, ap_repTI, ap_popN, ap_par3, ap_catTT, ap_repTA, ap_countT, ap_notInT, ap_repL1, ap_cm, ap_shl, ap_shr, ap_mask, ap_comb, ap_bits, ap_rng3, List.set_cons_zero, List.set_cons_succ, List.getElem?_cons_zero, List.getElem?_cons_succ, List.cons_append, List.nil_append, List.append_nil, Option.some.injEq, V.int.injEq, V.ref.injEq, V.bl.injEq, V.str.injEq, V.ty.injEq, Bool.not_true, Bool.not_false, HO.lst.injEq, HO.tup.injEq, reduceCtorEq, Int.reduceToNat, Int.reduceLT, Int.reduceLE, Nat.reduceAdd, Int.cast_ofNat_Int, gi_c0, gi_c1, gi_c2, gi_c3, Int.natCast_inj, map_int_inj, map_nil_iff, List.cons.injEq, exists_eq_left, exists_eq_left', exists_eq, exists_eq', exists_and_left, exists_and_right, exists_const, and_assoc, and_true, true_and, and_false, false_and, or_false, false_or, or_true, true_or, ite_true, ite_false, if_true, if_false, Bool.false_eq_true, own_cons, own_nil, le1, le2, le3, le4, me_cons, me_nil, List.length_map, List.length_cons, List.length_nil, ne_eq, not_false_eq_true, not_true_eq_false, decide_eq_true_eq]
    have wn : ∀ n ∈ ns, Wd n := fun n h => by
      have := mul_wd (a := n) (b := 1) (A := 10 ^ 100) (B := 1) (hn n h) (by decide) (by decide) (by decide) (by decide +kernel)
      rw [Int.mul_one] at this
      exact this
    refine ⟨a, ns, p, rfl, .inr ha, hl, wn, by omega, p1, fun H1 r s1 nr er => ?_⟩
    have hl2 : (ns.map (· % p)).length = ns.length := List.length_map ..
    refine ⟨r, rfl, ⟨_, sqT_of er⟩, lc_gen gives_tup (fun A i H' => Same H1 H' ∧ H' A = some (LI (((ns.map (· % p)).take i).filter nz))) (fun A hA => ⟨same_upd hA, upd_same⟩) (fun A i H' _ p => p.1 _ _ er) (fun A i v G1 H' hA hi pp y => ?_) (fun A G hA pp => ?_)⟩
    · obtain ⟨rfl, hx⟩ := y
      obtain ⟨n, rfl, en⟩ := at_int hx
      obtain ⟨sm, eA⟩ := pp
      simp only [ap_seq, ap_next, ap_asg, ap_gName, ap_ret, ap_retN, ap_drop, ap_ifS, ap_break, ap_cont, ap_par, ap_aug, ap_ip, ap_gSub, ap_gTup, ap_gNil, ap_gCons, ap_var, ap_c, ap_op, ap_un, ap_if, ap_test, ap_B, ap_and, ap_or, ap_not, ap_andV, ap_orV, ap_notV, ap_nil, ap_cons, ap_tup, ap_lst, ap_cb, ap_bm, ap_call, ap_chain, ap_rI, ap_rI0, ap_rU, ap_rEq, ap_rNe, ap_revT, ap_sl, ap_part, ap_noPart, ap_ixLI, ap_ixTI, ap_ixLV, ap_ixTV, ap_len, ap_setLI, ap_setLV, ap_appI, ap_appV, ap_tupL, ap_listS, ap_sumLI, ap_sumTI, ap_repLI, ap_intI, ap_intB, ap_eqTI, ap_neTI, ap_eqLI, ap_neLI, ap_isi, ap_for, ap_rng1, ap_rng2, ap_iList, ap_iTup, ap_lc, ap_yes, ap_cut, ap_gTupH, ap_fmt, ap_jsn, ap_jsc, ap_gcd, ap_isqrt, ap_ixL, tyV_l, wipe_nil, wipe_cons, upd_same, ap_iEnT, ap_iEnL, ap_iZipA, ap_all, ap_tupT, ap_attF, ap_makeL, ap_att, ap_prop, ap_isO, ap_bin, ap_ne, ap_meth, ap_make, ins_inj, FE_inj, ap_slI, ap_catI, ap_perm, ap_lenO, ap_strO, ap_listO, ap_reprB, ap_iterT, ap_neT, ap_negO, ap_binI, ap_catL, ap_tM1, ap_repTI, ap_popN, ap_par3, ap_catTT, ap_repTA, ap_countT, ap_notInT, ap_repL1, ap_cm, ap_shl, ap_shr, ap_mask, ap_comb, ap_bits, ap_rng3, List.set_cons_zero, List.set_cons_succ, List.getElem?_cons_zero, List.getElem?_cons_succ, List.cons_append, List.nil_append, List.append_nil, Option.some.injEq, V.int.injEq, V.ref.injEq, V.bl.injEq, V.str.injEq, V.ty.injEq, Bool.not_true, Bool.not_false, HO.lst.injEq, HO.tup.injEq, reduceCtorEq, Int.reduceToNat, Int.reduceLT, Int.reduceLE, Nat.reduceAdd, Int.cast_ofNat_Int, gi_c0, gi_c1, gi_c2, gi_c3, Int.natCast_inj, map_int_inj, map_nil_iff, List.cons.injEq, exists_eq_left, exists_eq_left', exists_eq, exists_eq', exists_and_left, exists_and_right, exists_const, and_assoc, and_true, true_and, and_false, false_and, or_false, false_or, or_true, true_or, ite_true, ite_false, if_true, if_false, Bool.false_eq_true, own_cons, own_nil, le1, le2, le3, le4, me_cons, me_nil, List.length_map, List.length_cons, List.length_nil, ne_eq, not_false_eq_true, not_true_eq_false, decide_eq_true_eq, eA]
      have e1 : (ns.map (· % p)).take (i + 1) = (ns.map (· % p)).take i ++ [n] := by rw [List.take_succ, en]; rfl
      have l1 : ((ns.map (· % p)).take i).length < 1000 := by rw [List.length_take, hl2]; omega
      refine ⟨rfl, iteC (fun c => ?_) (fun c => ?_)⟩
      · refine ⟨sz (Nat.lt_of_le_of_lt (List.length_filter_le _ _) (by omega)), same_mut sm hA, ?_⟩
        have e2 : [n].filter nz = [n] := by simp [nz, show n ≠ 0 by simpa using c]
        rw [e1, List.filter_append, e2, List.map_append]
        rfl
      · refine ⟨sm, ?_⟩
        have e2 : [n].filter nz = [] := by simp [nz, show n = 0 by simpa using c]
        rw [e1, List.filter_append, e2, List.append_nil]
    · obtain ⟨sm, eA⟩ := pp
      rw [List.length_map, List.take_length] at eA
      refine ⟨Nat.zero_le _, fun l nl => ⟨A, rfl, _, same_upd nl _ _ eA, iteC (fun c => ?_) (fun c => ?_)⟩⟩
      · have S := s1.trans (sm.trans (same_upd (o := HO.lst []) nl))
        refine ⟨a, ns, p, rfl, .inr (S _ _ ha), hl, wn, by omega, p1, fun H2 r2 s2 nr2 er2 => k H2 r2 (S.trans s2) (free_of S nr2) ?_⟩
        rw [er2, plP_none c]
      · have S := s1.trans (sm.trans (same_upd (o := HO.lst []) nl))
        rcases ef : (ns.map (· % p)).filter nz with _ | ⟨x, t⟩
        · exact absurd ef c
        · have eg : gi (x :: t) 0 = x := rfl
          refine ⟨A, rfl, _, same_upd nl _ _ eA, by rw [ef]; exact Int.natCast_pos.mpr (Nat.succ_pos _), ?_⟩
          rw [ef, eg]
          have b1 := Int.emod_nonneg (x ^ (p - 2).toNat) (show p ≠ 0 by omega)
          have b2 := Int.emod_lt_of_pos (x ^ (p - 2).toNat) (show 0 < p by omega)
          refine ⟨x, p, rfl, p0, p1, a, ns, invP p x, rfl, S _ _ ha, hl, wn, invP_wd (by omega) p1, fun H2 r2 s2 nr2 er2 => ?_⟩
          refine ⟨r2, _, p, rfl, .inr er2, by rw [List.length_map]; exact hl, fun m hm => ?_, by omega, p1, fun H3 r3 s3 nr3 er3 => k H3 r3 (S.trans (s2.trans s3)) (free_of S (free_of s2 nr3)) ?_⟩
          · obtain ⟨n, h1, rfl⟩ := List.mem_map.mp hm
            exact mul_wd (A := 1000) (B := 10 ^ 100) (by unfold invP; omega) (hn n h1) (by decide) (by decide) (by decide +kernel)
          · rw [er3, plP_some ef, List.map_map]
            rfl
end
end My
namespace My
open PySem PySem.Spec PyProof.Rows L2 Pr
section
variable {P : Program} {w : World} {K : PySem.W.Frag} {mg : Str → Option Value} {base : Heap}
theorem plR_len (p : Int) (ns : List Int) : (plR p ns).length = ns.length := by
  unfold plR
  split
  · rfl
  · exact List.length_map ..
/-- entries of tables -/
def Tn (n : Int) : Prop := -(10 ^ 45) ≤ n ∧ n ≤ 10 ^ 45
theorem Tn.sm {n : Int} (h : Tn n) : Sm n := by
  unfold Tn at h
  unfold Sm
  omega
structure T4 (a b c d : Int) : Prop where
  a : Tn a
  b : Tn b
  c : Tn c
  d : Tn d
abbrev primes : List Int := [13, 17, 19, 23, 29, 31, 37, 41, 43, 47, 53, 59, 61, 67, 71, 73, 79, 83, 89, 97, 101]
theorem primes_bd {p : Int} (h : p ∈ primes) : 13 ≤ p ∧ p ≤ 101 := by
  have : ∀ p ∈ primes, 13 ≤ p ∧ p ≤ 101 := by decide
  exact this p h
def sp_need_prime : Sp := fun vs H Q _ => ∃ (p : Int), vs = [.int p] ∧ p ∈ primes ∧ Q .non H
theorem ok_need_prime (T : Tx K mg) : FnOk P w K mg base CX0 3 T.f_need_prime T.d_need_prime p_need_prime sp_need_prime := by
  refine T.F_need_prime.ok sc_need_prime (fun vs H Q E h => ?_) (fun cdv A outer s H vs Q E hr h => ?_)
  · obtain ⟨p, rfl, _⟩ := h
    rfl
  · obtain ⟨p, rfl, hp, k⟩ := h
    refine ⟨_, (pss_one (ps_if (PW.pt (pw_or (pt_not (pt_val (pe_call (ok_is_integer T) (hr.mono (by decide)) (by rfl) T.m_is_integer T.F_is_integer.kp T.b_is_integer .nil pass0 (pa_cons (pv 0) pa_nil)))) (pw_or1 (pt_cmpR op_notIn_seq (pv 0) (pe_glob (v := .ref T.o_PRIMES) (by rfl) T.c_PRIMES rfl) (by rfl))))) (pss_one ps_never) pss_nil)), ?_⟩
    rw [st_need_prime]
    simp only [ap_seq, ap_next, ap_asg, ap_gName, ap_ret, ap_retN, ap_drop, ap_ifS, ap_break, ap_cont, ap_par, ap_aug, ap_ip, ap_gSub, ap_gTup, ap_gNil, ap_gCons, ap_var, ap_c, ap_op, ap_un, ap_if, ap_test, ap_B, ap_and, ap_or, ap_not, ap_andV, ap_orV, ap_notV, ap_nil, ap_cons, ap_tup, ap_lst, ap_cb, ap_bm, ap_call, ap_chain, ap_rI, ap_rI0, ap_rU, ap_rEq, ap_rNe, ap_revT, ap_sl, ap_part, ap_noPart, ap_ixLI, ap_ixTI, ap_ixLV, ap_ixTV, ap_len, ap_setLI, ap_setLV, ap_appI, ap_appV, ap_tupL, ap_listS, ap_sumLI, ap_sumTI, ap_repLI, ap_intI, ap_intB, ap_eqTI, ap_neTI, ap_eqLI, ap_neLI, ap_isi, ap_for, ap_rng1, ap_rng2, ap_iList, ap_iTup, ap_lc, ap_yes, ap_cut, ap_gTupH, ap_fmt, ap_jsn, ap_jsc, ap_gcd, ap_isqrt, ap_ixL, tyV_l, wipe_nil, wipe_cons, upd_same, ap_iEnT, ap_iEnL, ap_iZipA, ap_all, ap_tupT, ap_attF, ap_makeL, ap_att, ap_prop, ap_isO, ap_bin, ap_ne, ap_meth, ap_make, ins_inj, FE_inj, ap_slI, ap_catI, ap_perm, ap_lenO, ap_strO, ap_listO, ap_reprB, ap_iterT, ap_neT, ap_negO, ap_binI, ap_catL, ap_tM1, ap_repTI, ap_popN, ap_par3, ap_catTT, ap_repTA, ap_countT, ap_notInT, ap_repL1, ap_cm, ap_shl, ap_shr, ap_mask, ap_comb, ap_bits, ap_rng3, List.set_cons_zero, List.set_cons_succ, List.getElem?_cons_zero, List.getElem?_cons_succ, List.cons_append, List.nil_append, List.append_nil, Option.some.injEq, V.int.injEq, V.ref.injEq, V.bl.injEq, V.str.injEq, V.ty.injEq, Bool.not_true, Bool.not_false, HO.lst.injEq, HO.tup.injEq, reduceCtorEq, Int.reduceToNat, Int.reduceLT, Int.reduceLE, Nat.reduceAdd, Int.cast_ofNat_Int, gi_c0, gi_c1, gi_c2, gi_c3, Int.natCast_inj, map_int_inj, map_nil_iff, List.cons.injEq, exists_eq_left, exists_eq_left', exists_eq, exists_eq', exists_and_left, exists_and_right, exists_const, and_assoc, and_true, true_and, and_false, false_and, or_false, false_or, or_true, true_or, ite_true, ite_false, if_true, if_false, Bool.false_eq_true, own_cons, own_nil, le1, le2, le3, le4, me_cons, me_nil, List.length_map, List.length_cons, List.length_nil, ne_eq, not_false_eq_true, not_true_eq_false, decide_eq_true_eq, sp_is_integer]
    have pb := primes_bd hp
    have e : isI (.int p) = true := decide_eq_true (by omega)
    refine ⟨⟨_, rfl⟩, ?_⟩
    rw [e, if_neg (by simp)]
    refine ⟨_, _, rfl, .inr (T.v_PRIMES H), rfl, by decide +kernel, false, ?_, k⟩
    have : inV (.int p) (primes.map V.int) = true := by
      rw [show inV (.int p) (primes.map V.int) = (primes.map V.int).any (fun y => eqV y (.int p)) from rfl, List.any_eq_true]
      exact ⟨.int p, List.mem_map_of_mem hp, by show decide (p = p) = true; exact decide_eq_true rfl⟩
    rw [if_pos rfl, this]
    rfl
def sp_need_prime_table : Sp := fun vs H Q _ => ∃ (t : Addr) (a b c d p : Int), vs = [.ref t, .int p] ∧ TabAt H t a b c d ∧ T4 a b c d ∧ (a * d - b * c) % p ≠ 0 ∧ 1 < p ∧ p < 1000 ∧ ∀ H', Same H H' → Q .non H'
theorem ok_need_prime_table (T : Tx K mg) : FnOk P w K mg base CX0 10 T.f_need_prime_table T.d_need_prime_table p_need_prime_table sp_need_prime_table := by
  refine T.F_need_prime_table.ok sc_need_prime_table (fun vs H Q E h => ?_) (fun cdv A outer s H vs Q E hr h => ?_)
  · obtain ⟨t, a, b, c, d, p, rfl, _⟩ := h
    rfl
  · obtain ⟨t, a, b, c, d, p, rfl, ht, h4, hd, p0, p1, k⟩ := h
    refine ⟨_, (pss_one (ps_if (PW.pt (pw_or (pt_not (pt_val (pe_call (ok_is_change T) (hr.mono (by decide)) (by rfl) T.m_is_change T.F_is_change.kp T.b_is_change .nil pass0 (pa_cons (pv 0) pa_nil)))) (pw_or1 (pt_cmpR op_eq (pe_op op_mod (pe_call (ok_determinant_of T) (hr.mono (by decide)) (by rfl) T.m_determinant_of T.F_determinant_of.kp T.b_determinant_of .nil pass0 (pa_cons (pv 0) pa_nil)) (pv 1)) pe_int (nomark _))))) (pss_one ps_never) pss_nil)), ?_⟩
    rw [st_need_prime_table]
    simp only [ap_seq, ap_next, ap_asg, ap_gName, ap_ret, ap_retN, ap_drop, ap_ifS, ap_break, ap_cont, ap_par, ap_aug, ap_ip, ap_gSub, ap_gTup, ap_gNil, ap_gCons, ap_var, ap_c, ap_op, ap_un, ap_if, ap_test, ap_B, ap_and, ap_or, ap_not, ap_andV, ap_orV, ap_notV, ap_nil, ap_cons, ap_tup, ap_lst, ap_cb, ap_bm, ap_call, ap_chain, ap_rI, ap_rI0, ap_rU, ap_rEq, ap_rNe, ap_revT, ap_sl, ap_part, ap_noPart, ap_ixLI, ap_ixTI, ap_ixLV, ap_ixTV, ap_len, ap_setLI, ap_setLV, ap_appI, ap_appV, ap_tupL, ap_listS, ap_sumLI, ap_sumTI, ap_repLI, ap_intI, ap_intB, ap_eqTI, ap_neTI, ap_eqLI, ap_neLI, ap_isi, ap_for, ap_rng1, ap_rng2, ap_iList, ap_iTup, ap_lc, ap_yes, ap_cut, ap_gTupH, ap_fmt, ap_jsn, ap_jsc, ap_gcd, ap_isqrt, ap_ixL, tyV_l, wipe_nil, wipe_cons, upd_same, ap_iEnT, ap_iEnL, ap_iZipA, ap_all, ap_tupT, ap_attF, ap_makeL, ap_att, ap_prop, ap_isO, ap_bin, ap_ne, ap_meth, ap_make, ins_inj, FE_inj, ap_slI, ap_catI, ap_perm, ap_lenO, ap_strO, ap_listO, ap_reprB, ap_iterT, ap_neT, ap_negO, ap_binI, ap_catL, ap_tM1, ap_repTI, ap_popN, ap_par3, ap_catTT, ap_repTA, ap_countT, ap_notInT, ap_repL1, ap_cm, ap_shl, ap_shr, ap_mask, ap_comb, ap_bits, ap_rng3, List.set_cons_zero, List.set_cons_succ, List.getElem?_cons_zero, List.getElem?_cons_succ, List.cons_append, List.nil_append, List.append_nil, Option.some.injEq, V.int.injEq, V.ref.injEq, V.bl.injEq, V.str.injEq, V.ty.injEq, Bool.not_true, Bool.not_false, HO.lst.injEq, HO.tup.injEq, reduceCtorEq, Int.reduceToNat, Int.reduceLT, Int.reduceLE, Nat.reduceAdd, Int.cast_ofNat_Int, gi_c0, gi_c1, gi_c2, gi_c3, Int.natCast_inj, map_int_inj, map_nil_iff, List.cons.injEq, exists_eq_left, exists_eq_left', exists_eq, exists_eq', exists_and_left, exists_and_right, exists_const, and_assoc, and_true, true_and, and_false, false_and, or_false, false_or, or_true, true_or, ite_true, ite_false, if_true, if_false, Bool.false_eq_true, own_cons, own_nil, le1, le2, le3, le4, me_cons, me_nil, List.length_map, List.length_cons, List.length_nil, ne_eq, not_false_eq_true, not_true_eq_false, decide_eq_true_eq, sp_is_change, sp_determinant_of]
    refine ⟨a, b, c, d, ht, h4.a.sm, h4.b.sm, h4.c.sm, h4.d.sm, fun H1 s1 => ⟨a, b, c, d, ht.same s1, h4.a.sm, h4.b.sm, h4.c.sm, h4.d.sm, by omega, rfl, ?_⟩⟩
    rw [if_neg hd]
    exact k H1 s1
end
end My
namespace My
open PySem PySem.Spec PyProof.Rows L2 Pr
theorem dvd_of_mod {a p r : Int} (h : a % p = r) : p ∣ a - r := ⟨a / p, by have := Int.mul_ediv_add_emod a p; omega⟩
theorem inv_all : ([13, 17, 19, 23, 29, 31, 37, 41, 43, 47, 53, 59, 61, 67, 71, 73, 79, 83, 89, 97, 101] : List Nat).all (fun p => (List.range p).all fun x => x == 0 || x ^ (p - 2) % p * x % p == 1) = true := by decide +kernel
theorem inv_one {p x : Int} (hp : p ∈ primes) (h0 : 0 < x) (h1 : x < p) : invP p x * x % p = 1 := by
  have hb := primes_bd hp
  have hm : p.toNat ∈ ([13, 17, 19, 23, 29, 31, 37, 41, 43, 47, 53, 59, 61, 67, 71, 73, 79, 83, 89, 97, 101] : List Nat) := by
    have : ∀ p ∈ primes, p.toNat ∈ ([13, 17, 19, 23, 29, 31, 37, 41, 43, 47, 53, 59, 61, 67, 71, 73, 79, 83, 89, 97, 101] : List Nat) := by decide +kernel
    exact this p hp
  have h2 := List.all_eq_true.mp (List.all_eq_true.mp inv_all _ hm) x.toNat (List.mem_range.mpr (by omega))
  have e1 : (x.toNat == 0) = false := beq_eq_false_iff_ne.mpr (by omega)
  rw [e1, Bool.false_or, beq_iff_eq] at h2
  have e2 : ((x.toNat : Nat) : Int) = x := Int.toNat_of_nonneg (by omega)
  have e3 : ((p.toNat : Nat) : Int) = p := Int.toNat_of_nonneg (by omega)
  have e4 : p.toNat - 2 = (p - 2).toNat := by omega
  have h3 : (((x.toNat ^ (p.toNat - 2) % p.toNat * x.toNat % p.toNat : Nat)) : Int) = 1 := by rw [h2]; rfl
  rw [Int.natCast_emod, Int.natCast_mul, Int.natCast_emod, Int.natCast_pow, e2, e3, e4] at h3
  exact h3
/-- division by a prime -/
theorem pr_mul {p a b : Int} (hp : p ∈ primes) (h : p ∣ a * b) : p ∣ a ∨ p ∣ b := by
  have hb := primes_bd hp
  rcases Int.decEq (a % p) 0 with h0 | h0
  · right
    have c0 := Int.emod_nonneg a (show p ≠ 0 by omega)
    have c1 := Int.emod_lt_of_pos a (show 0 < p by omega)
    have e := inv_one hp (x := a % p) (by omega) c1
    have e2 : p ∣ invP p (a % p) * (a % p) - 1 := dvd_of_mod e
    have e3 : p ∣ a - a % p := dvd_of_mod rfl
    obtain ⟨u, hu⟩ := h
    obtain ⟨v, hv⟩ := e2
    obtain ⟨z, hz⟩ := e3
    refine ⟨invP p (a % p) * (u - z * b) - v * b, ?_⟩
    grind
  · left
    exact Int.dvd_of_emod_eq_zero h0
theorem pr_ne {p a b : Int} (hp : p ∈ primes) (ha : ¬ p ∣ a) (hb : ¬ p ∣ b) : ¬ p ∣ a * b := fun h => (pr_mul hp h).elim ha hb
theorem nz_mod {p n : Int} : nz (n % p) = true ↔ ¬ p ∣ n := by
  unfold nz
  rw [decide_eq_true_iff, Int.dvd_iff_emod_eq_zero]
theorem filt_mul {p k : Int} (hp : p ∈ primes) (hk : ¬ p ∣ k) : ∀ ns : List Int, (ns.map (fun n => k * n % p)).filter nz = ((ns.map (· % p)).filter nz).map (fun x => k * x % p)
  | [] => rfl
  | n :: ns => by
    have e : k * (n % p) % p = k * n % p := by rw [Int.mul_emod, Int.emod_emod, ← Int.mul_emod]
    rw [List.map_cons, List.map_cons]
    by_cases h : p ∣ n
    · have h1 : ¬ nz (k * n % p) = true := fun z => nz_mod.mp z (Int.dvd_mul_of_dvd_right h)
      have h2 : ¬ nz (n % p) = true := fun z => nz_mod.mp z h
      rw [List.filter_cons_of_neg h1, List.filter_cons_of_neg h2, filt_mul hp hk ns]
    · rw [List.filter_cons_of_pos (nz_mod.mpr (pr_ne hp hk h)), List.filter_cons_of_pos (nz_mod.mpr h), List.map_cons, filt_mul hp hk ns, e]
theorem filt_some {p : Int} {ns : List Int} (h : ∃ n ∈ ns, ¬ p ∣ n) : ∃ x t, (ns.map (· % p)).filter nz = x :: t := by
  obtain ⟨n, hn, hd⟩ := h
  rcases e : (ns.map (· % p)).filter nz with _ | ⟨x, t⟩
  · have : n % p ∈ (ns.map (· % p)).filter nz := List.mem_filter.mpr ⟨List.mem_map.mpr ⟨n, hn, rfl⟩, nz_mod.mpr hd⟩
    rw [e] at this
    cases this
  · exact ⟨x, t, rfl⟩
theorem head_bd {p : Int} (hp : p ∈ primes) {ns : List Int} {x : Int} {t : List Int} (e : (ns.map (· % p)).filter nz = x :: t) : 0 < x ∧ x < p := by
  have hb := primes_bd hp
  have h : x ∈ (ns.map (· % p)).filter nz := by rw [e]; exact List.mem_cons_self
  obtain ⟨h1, h2⟩ := List.mem_filter.mp h
  obtain ⟨n, _, rfl⟩ := List.mem_map.mp h1
  have h3 : n % p ≠ 0 := by simpa [nz] using h2
  have := Int.emod_nonneg n (show p ≠ 0 by omega)
  have := Int.emod_lt_of_pos n (show 0 < p by omega)
  show 0 < n % p ∧ n % p < p
  omega
theorem inv_nd {p x : Int} (hp : p ∈ primes) (h0 : 0 < x) (h1 : x < p) : ¬ p ∣ invP p x := fun h => by
  have hb := primes_bd hp
  have e := inv_one hp h0 h1
  have : p ∣ invP p x * x := Int.dvd_mul_of_dvd_left h
  have := Int.dvd_iff_emod_eq_zero.mp this
  omega
/-- a plain row: entries below the prime, the first one but 0 is 1 -/
structure Plain (p : Int) (ns : List Int) : Prop where
  bd : ∀ n ∈ ns, 0 ≤ n ∧ n < p
  one : ∃ t, ns.filter nz = 1 :: t
theorem plP_plain {p : Int} (hp : p ∈ primes) {ns : List Int} (h : ∃ n ∈ ns, ¬ p ∣ n) : Plain p (plP p ns) := by
  have hb := primes_bd hp
  obtain ⟨x, t, e⟩ := filt_some h
  obtain ⟨h0, h1⟩ := head_bd hp e
  rw [plP_some e]
  refine ⟨fun n hn => ?_, ?_⟩
  · obtain ⟨m, _, rfl⟩ := List.mem_map.mp hn
    exact ⟨Int.emod_nonneg _ (by omega), Int.emod_lt_of_pos _ (by omega)⟩
  · rw [filt_mul hp (inv_nd hp h0 h1), e, List.map_cons, inv_one hp h0 h1]
    exact ⟨_, rfl⟩
theorem plP_fix {p : Int} (hp : p ∈ primes) {ns : List Int} (h : Plain p ns) : plP p ns = ns := by
  have hb := primes_bd hp
  have e : ns.map (· % p) = ns := by
    conv => rhs; rw [← List.map_id ns]
    exact List.map_congr_left fun n hn => Int.emod_eq_of_lt (h.bd n hn).1 (h.bd n hn).2
  obtain ⟨t, ht⟩ := h.one
  rw [plP_some (by rw [e]; exact ht)]
  have e1 : invP p 1 = 1 := by
    unfold invP
    rw [Int.one_pow, Int.emod_eq_of_lt (by omega) (by omega)]
  conv => rhs; rw [← e]
  refine List.map_congr_left fun n hn => ?_
  rw [e1, Int.one_mul]
end My
namespace My
open PySem PySem.Spec PyProof.Rows L2 Pr
section
variable {P : Program} {w : World} {K : PySem.W.Frag} {mg : Str → Option Value} {base : Heap}
def sp_law_some_prime : Sp := fun vs H Q _ => ∃ (d : Addr), vs = [.ref d] ∧ Dc H d ∧
  ∀ H' p, Exc d H H' → Dc H' d → p ∈ primes → Q (.int p) H'
theorem ok_law_some_prime (T : Tx K mg) : FnOk P w K mg base CX0 3 T.f_law_some_prime T.d_law_some_prime p_law_some_prime sp_law_some_prime := by
  refine T.F_law_some_prime.ok sc_law_some_prime (fun vs H Q E h => ?_) (fun cdv A outer s H vs Q E hr h => ?_)
  · obtain ⟨d, rfl, _⟩ := h
    rfl
  · obtain ⟨d, rfl, hD, k⟩ := h
    refine ⟨_, (pss_one (ps_ret (pe_call (ok_law_pick T) (hr.mono (by decide)) (by rfl) T.m_law_pick T.F_law_pick.kp T.b_law_pick .nil pass0 (pa_cons (pv 0) (pa_cons (pe_lst (pa_cons pe_int (pa_cons pe_int (pa_cons pe_int (pa_cons pe_int (pa_cons pe_int (pa_cons pe_int (pa_cons pe_int (pa_cons pe_int (pa_cons pe_int (pa_cons pe_int (pa_cons pe_int (pa_cons pe_int (pa_cons pe_int (pa_cons pe_int (pa_cons pe_int (pa_cons pe_int (pa_cons pe_int (pa_cons pe_int (pa_cons pe_int (pa_cons pe_int (pa_cons pe_int (pa_cons pe_int pa_nil))))))))))))))))))))))) pa_nil))))), ?_⟩
    rw [st_law_some_prime]
    simp only [ap_seq, ap_next, ap_asg, ap_gName, ap_ret, ap_retN, ap_drop, ap_ifS, ap_break, ap_cont, ap_par, ap_aug, ap_ip, ap_gSub, ap_gTup, ap_gNil, ap_gCons, ap_var, ap_c, ap_op, ap_un, ap_if, ap_test, ap_B, ap_and, ap_or, ap_not, ap_andV, ap_orV, ap_notV, ap_nil, ap_cons, ap_tup, ap_lst, ap_cb, ap_bm, ap_call, ap_chain, ap_rI, ap_rI0, ap_rU, ap_rEq, ap_rNe, ap_revT, ap_sl, ap_part, ap_noPart, ap_ixLI, ap_ixTI, ap_ixLV, ap_ixTV, ap_len, ap_setLI, ap_setLV, ap_appI, ap_appV, ap_tupL, ap_listS, ap_sumLI, ap_sumTI, ap_repLI, ap_intI, ap_intB, ap_eqTI, ap_neTI, ap_eqLI, ap_neLI, ap_isi, ap_for, ap_rng1, ap_rng2, ap_iList, ap_iTup, ap_lc, ap_yes, ap_cut, ap_gTupH, ap_fmt, ap_jsn, ap_jsc, ap_gcd, ap_isqrt, ap_ixL, tyV_l, wipe_nil, wipe_cons, upd_same, ap_iEnT, ap_iEnL, ap_iZipA, ap_all, ap_tupT, ap_attF, ap_makeL, ap_att, ap_prop, ap_isO, ap_bin, ap_ne, ap_meth, ap_make, ins_inj, FE_inj, ap_slI, ap_catI, ap_perm, ap_lenO, ap_strO, ap_listO, ap_reprB, ap_iterT, ap_neT, ap_negO, ap_binI, ap_catL, ap_tM1, ap_repTI, ap_popN, ap_par3, ap_catTT, ap_repTA, ap_countT, ap_notInT, ap_repL1, ap_cm, ap_shl, ap_shr, ap_mask, ap_comb, ap_bits, ap_rng3, List.set_cons_zero, List.set_cons_succ, List.getElem?_cons_zero, List.getElem?_cons_succ, List.cons_append, List.nil_append, List.append_nil, Option.some.injEq, V.int.injEq, V.ref.injEq, V.bl.injEq, V.str.injEq, V.ty.injEq, Bool.not_true, Bool.not_false, HO.lst.injEq, HO.tup.injEq, reduceCtorEq, Int.reduceToNat, Int.reduceLT, Int.reduceLE, Nat.reduceAdd, Int.cast_ofNat_Int, gi_c0, gi_c1, gi_c2, gi_c3, Int.natCast_inj, map_int_inj, map_nil_iff, List.cons.injEq, exists_eq_left, exists_eq_left', exists_eq, exists_eq', exists_and_left, exists_and_right, exists_const, and_assoc, and_true, true_and, and_false, false_and, or_false, false_or, or_true, true_or, ite_true, ite_false, if_true, if_false, Bool.false_eq_true, own_cons, own_nil, le1, le2, le3, le4, me_cons, me_nil, List.length_map, List.length_cons, List.length_nil, ne_eq, not_false_eq_true, not_true_eq_false, decide_eq_true_eq, sp_law_pick]
    refine ⟨by decide, fun l nl => ?_⟩
    have s := same_upd (o := LI [13, 13, 17, 19, 23, 29, 31, 37, 41, 43, 47, 53, 59, 61, 67, 71, 73, 79, 83, 89, 97, 101]) nl
    refine ⟨hD.same s, [13, 13, 17, 19, 23, 29, 31, 37, 41, 43, 47, 53, 59, 61, 67, 71, 73, 79, 83, 89, 97, 101], rfl, fun e => ?_, by decide, by decide, fun H1 i ex D1 hi => ?_⟩
    · subst e
      obtain ⟨_, _, _, e⟩ := hD
      rw [e] at nl
      cases nl
    · refine k _ _ (Exc.trans (.same s) ex) D1 ?_
      have : ∀ i, i < 22 → ([13, 13, 17, 19, 23, 29, 31, 37, 41, 43, 47, 53, 59, 61, 67, 71, 73, 79, 83, 89, 97, 101] : List Int).getD i 0 ∈ primes := by decide +kernel
      exact this i hi
def sp_law_prime_table : Sp := fun vs H Q _ => ∃ (d : Addr) (p : Int), vs = [.ref d, .int p] ∧ Dc H d ∧ p ∈ primes ∧ ∀ H' r a b c e, Exc d H H' → Dc H' d → TabAt H' r a b c e → (∀ n ∈ [a, b, c, e], -(10 ^ 20) ≤ n ∧ n ≤ 10 ^ 20) → (a * e - b * c) % p ≠ 0 → Q (.ref r) H'
theorem ok_law_prime_table (T : Tx K mg) : FnOk P w K mg base CX0 3 T.f_law_prime_table T.d_law_prime_table p_law_prime_table sp_law_prime_table := by
  refine T.F_law_prime_table.ok sc_law_prime_table (fun vs H Q E h => ?_) (fun cdv A outer s H vs Q E hr h => ?_)
  · obtain ⟨d, p, rfl, _⟩ := h
    rfl
  · obtain ⟨d, p, rfl, hD, hp, k⟩ := h
    refine ⟨_, (pss_cons (ps_set (i := 2) sc_law_prime_table.nd rfl (Or.inr rfl) (pe_call (ok_law_pick T) (hr.mono (by decide)) (by rfl) T.m_law_pick T.F_law_pick.kp T.b_law_pick .nil pass0 (pa_cons (pv 0) (pa_cons (pe_lst (pa_cons pe_int (pa_cons (pv 1) (pa_cons (pe_op op_mulB pe_int (pv 1)) (pa_cons (pe_op op_pow pe_int pe_int) pa_nil))))) pa_nil))))
      (pss_cons (ps_set (i := 3) sc_law_prime_table.nd rfl (Or.inl rfl) (pe_callTy cr_tupL (by rfl) T.z_tuple (by decide +kernel) (pa_cons (pe_lc (own := [("_law_row", 4)]) (g := gName 4) (tt := tYes) rfl sc_law_prime_table.nd (pi_range1 (by rfl) T.z_range (pa_cons pe_int pa_nil)) (blkOk_by (N := n_law_prime_table) (sc := defScope s_law_prime_table) (by decide +kernel)) (fun _ _ _ _ _ => (pg_name (i := 4) sc_law_prime_table.nd rfl (by first | exact .inl rfl | exact .inr rfl))) (fun _ _ _ _ _ => pts_nil) (fun _ _ _ _ _ => (pe_tup (pa_cons (pe_call (ok_law_near T) (hr.mono (by decide)) (by rfl) T.m_law_near T.F_law_near.kp T.b_law_near .nil pass0 (pa_cons (pv 0) (pa_cons (pv 2) pa_nil))) (pa_cons (pe_call (ok_law_near T) (hr.mono (by decide)) (by rfl) T.m_law_near T.F_law_near.kp T.b_law_near .nil pass0 (pa_cons (pv 0) (pa_cons (pv 2) pa_nil))) pa_nil))))) pa_nil)))
      (pss_one (ps_ret (pe_ifExp (pt_cmpR op_ne (pe_op op_mod (pe_callTy cr_intI (by rfl) T.z_int (by decide +kernel) (pa_cons (pe_call (ok_law_det T) (hr.mono (by decide)) (by rfl) T.m_law_det T.F_law_det.kp T.b_law_det .nil pass0 (pa_cons (pv 3) pa_nil)) pa_nil)) (pv 1)) pe_int (nomark _)) (pv 3) (pe_tup (pa_cons (pe_tup (pa_cons pe_int (pa_cons pe_int pa_nil))) (pa_cons (pe_tup (pa_cons pe_int (pa_cons pe_int pa_nil))) pa_nil)))))))), ?_⟩
    rw [st_law_prime_table]
    simp only [ap_seq, ap_next, ap_asg, ap_gName, ap_ret, ap_retN, ap_drop, ap_ifS, ap_break, ap_cont, ap_par, ap_aug, ap_ip, ap_gSub, ap_gTup, ap_gNil, ap_gCons, ap_var, ap_c, ap_op, ap_un, ap_if, ap_test, ap_B, ap_and, ap_or, ap_not, ap_andV, ap_orV, ap_notV, ap_nil, ap_cons, ap_tup, ap_lst, ap_cb, ap_bm, ap_call, ap_chain, ap_rI, ap_rI0, ap_rU, ap_rEq, ap_rNe, ap_revT, ap_sl, ap_part, ap_noPart, ap_ixLI, ap_ixTI, ap_ixLV, ap_ixTV, ap_len, ap_setLI, ap_setLV, ap_appI, ap_appV, ap_tupL, ap_listS, ap_sumLI, ap_sumTI, ap_repLI, ap_intI, ap_intB, ap_eqTI, ap_neTI, ap_eqLI, ap_neLI, ap_isi, ap_for, ap_rng1, ap_rng2, ap_iList, ap_iTup, ap_lc, ap_yes, ap_cut, ap_gTupH, ap_fmt, ap_jsn, ap_jsc, ap_gcd, ap_isqrt, ap_ixL, tyV_l, wipe_nil, wipe_cons, upd_same, ap_iEnT, ap_iEnL, ap_iZipA, ap_all, ap_tupT, ap_attF, ap_makeL, ap_att, ap_prop, ap_isO, ap_bin, ap_ne, ap_meth, ap_make, ins_inj, FE_inj, ap_slI, ap_catI, ap_perm, ap_lenO, ap_strO, ap_listO, ap_reprB, ap_iterT, ap_neT, ap_negO, ap_binI, ap_catL, ap_tM1, ap_repTI, ap_popN, ap_par3, ap_catTT, ap_repTA, ap_countT, ap_notInT, ap_repL1, ap_cm, ap_shl, ap_shr, ap_mask, ap_comb, ap_bits, ap_rng3, List.set_cons_zero, List.set_cons_succ, List.getElem?_cons_zero, List.getElem?_cons_succ, List.cons_append, List.nil_append, List.append_nil, Option.some.injEq, V.int.injEq, V.ref.injEq, V.bl.injEq, V.str.injEq, V.ty.injEq, Bool.not_true, Bool.not_false, HO.lst.injEq, HO.tup.injEq, reduceCtorEq, Int.reduceToNat, Int.reduceLT, Int.reduceLE, Nat.reduceAdd, Int.cast_ofNat_Int, gi_c0, gi_c1, gi_c2, gi_c3, Int.natCast_inj, map_int_inj, map_nil_iff, List.cons.injEq, exists_eq_left, exists_eq_left', exists_eq, exists_eq', exists_and_left, exists_and_right, exists_const, and_assoc, and_true, true_and, and_false, false_and, or_false, false_or, or_true, true_or, ite_true, ite_false, if_true, if_false, Bool.false_eq_true, own_cons, own_nil, le1, le2, le3, le4, me_cons, me_nil, List.length_map, List.length_cons, List.length_nil, ne_eq, not_false_eq_true, not_true_eq_false, decide_eq_true_eq]
    have pb := primes_bd hp
    have nd : ∀ {q : Addr} {H : Hp}, Dc H d → H q = none → q ≠ d := fun {q H} hD nq e => by
      subst e
      obtain ⟨_, _, _, e⟩ := hD
      rw [e] at nq
      cases nq
    refine ⟨⟨Sm.wd (by unfold Sm; omega), Sm.wd (by unfold Sm; omega)⟩, ⟨by decide, by decide, by decide⟩, by decide, fun l nl => ?_⟩
    have s1 := same_upd (o := LI [2, p, 3 * p, 10 ^ 20]) nl
    refine ⟨d, l, [2, p, 3 * p, 10 ^ 20], rfl, hD.same s1, upd_same, nd hD nl, by show 0 < 4; omega, by show 4 < 1000; omega, fun H1 i ex1 D1 hi => ⟨by decide, by decide, ?_⟩⟩
    have hm : 0 ≤ ([2, p, 3 * p, 10 ^ 20] : List Int).getD i 0 ∧ ([2, p, 3 * p, 10 ^ 20] : List Int).getD i 0 ≤ 10 ^ 20 := by
      match i, hi with
      | 0, _ => exact ⟨show (0 : Int) ≤ 2 by decide, show (2 : Int) ≤ 10 ^ 20 by decide⟩
      | 1, _ => exact ⟨show 0 ≤ p by omega, show p ≤ 10 ^ 20 by omega⟩
      | 2, _ => exact ⟨show 0 ≤ 3 * p by omega, show 3 * p ≤ 10 ^ 20 by omega⟩
      | 3, _ => exact ⟨show (0 : Int) ≤ 10 ^ 20 by decide, Int.le_refl _⟩
    generalize ([2, p, 3 * p, 10 ^ 20] : List Int).getD i 0 = m at hm ⊢
    refine lc_rangeT (fun ns => ∃ a b, ns = [a, b] ∧ (-(10 ^ 20) ≤ a ∧ a ≤ 10 ^ 20) ∧ (-(10 ^ 20) ≤ b ∧ b ≤ 10 ^ 20)) (by decide) D1 (fun x => rfl) (fun i H2 hi ex2 D2 Q' k' => ?_) (fun A1 H2 rs nss nA ex2 D2 ln hR eA rw1 => ?_)
    · simp only [ap_seq, ap_next, ap_asg, ap_gName, ap_ret, ap_retN, ap_drop, ap_ifS, ap_break, ap_cont, ap_par, ap_aug, ap_ip, ap_gSub, ap_gTup, ap_gNil, ap_gCons, ap_var, ap_c, ap_op, ap_un, ap_if, ap_test, ap_B, ap_and, ap_or, ap_not, ap_andV, ap_orV, ap_notV, ap_nil, ap_cons, ap_tup, ap_lst, ap_cb, ap_bm, ap_call, ap_chain, ap_rI, ap_rI0, ap_rU, ap_rEq, ap_rNe, ap_revT, ap_sl, ap_part, ap_noPart, ap_ixLI, ap_ixTI, ap_ixLV, ap_ixTV, ap_len, ap_setLI, ap_setLV, ap_appI, ap_appV, ap_tupL, ap_listS, ap_sumLI, ap_sumTI, ap_repLI, ap_intI, ap_intB, ap_eqTI, ap_neTI, ap_eqLI, ap_neLI, ap_isi, ap_for, ap_rng1, ap_rng2, ap_iList, ap_iTup, ap_lc, ap_yes, ap_cut, ap_gTupH, ap_fmt, ap_jsn, ap_jsc, ap_gcd, ap_isqrt, ap_ixL, tyV_l, wipe_nil, wipe_cons, upd_same, ap_iEnT, ap_iEnL, ap_iZipA, ap_all, ap_tupT, ap_attF, ap_makeL, ap_att, ap_prop, ap_isO, ap_bin, ap_ne, ap_meth, ap_make, ins_inj, FE_inj, ap_slI, ap_catI, ap_perm, ap_lenO, ap_strO, ap_listO, ap_reprB, ap_iterT, ap_neT, ap_negO, ap_binI, ap_catL, ap_tM1, ap_repTI, ap_popN, ap_par3, ap_catTT, ap_repTA, ap_countT, ap_notInT, ap_repL1, ap_cm, ap_shl, ap_shr, ap_mask, ap_comb, ap_bits, ap_rng3, List.set_cons_zero, List.set_cons_succ, List.getElem?_cons_zero, List.getElem?_cons_succ, List.cons_append, List.nil_append, List.append_nil, Option.some.injEq, V.int.injEq, V.ref.injEq, V.bl.injEq, V.str.injEq, V.ty.injEq, Bool.not_true, Bool.not_false, HO.lst.injEq, HO.tup.injEq, reduceCtorEq, Int.reduceToNat, Int.reduceLT, Int.reduceLE, Nat.reduceAdd, Int.cast_ofNat_Int, gi_c0, gi_c1, gi_c2, gi_c3, Int.natCast_inj, map_int_inj, map_nil_iff, List.cons.injEq, exists_eq_left, exists_eq_left', exists_eq, exists_eq', exists_and_left, exists_and_right, exists_const, and_assoc, and_true, true_and, and_false, false_and, or_false, false_or, or_true, true_or, ite_true, ite_false, if_true, if_false, Bool.false_eq_true, own_cons, own_nil, le1, le2, le3, le4, me_cons, me_nil, List.length_map, List.length_cons, List.length_nil, ne_eq, not_false_eq_true, not_true_eq_false, decide_eq_true_eq]
      refine ⟨d, m, rfl, D2, by omega, by omega, fun H3 u ex3 D3 u0 u1 => ?_⟩
      refine ⟨d, m, rfl, D3, by omega, by omega, fun H4 v ex4 D4 v0 v1 => ?_⟩
      refine ⟨by decide, fun z nz => ?_⟩
      exact k' _ z [u, v] ((ex3.trans ex4).trans (.same (same_upd nz))) (D4.same (same_upd nz)) upd_same (nd D4 nz) ⟨u, v, rfl, ⟨by omega, by omega⟩, ⟨by omega, by omega⟩⟩
    · obtain ⟨rl, rr⟩ := rw1
      match nss, ln, hR, rl, rr with
      | [n1, n2], _, hR, rl, rr =>
        match rs, rl, rr, eA with
        | [r1, r2], _, rr, eA =>
          obtain ⟨a, b, rfl, ba, bb⟩ := hR n1 (by simp)
          obtain ⟨c, e, rfl, bc, be⟩ := hR n2 (by simp)
          have g1 := rr 0 r1 [a, b] rfl rfl
          have g2 := rr 1 r2 [c, e] rfl rfl
          refine ⟨A1, rfl, _, eA, fun z nz => ?_⟩
          have sl := same_upd (o := HO.tup ([r1, r2].map V.ref)) nz
          have h0 : upd H2 z (HO.tup ([r1, r2].map V.ref)) z = some (.tup [.ref r1, .ref r2]) := upd_same
          have h1 := sl _ _ g1.1
          have h2 := sl _ _ g2.1
          have D3 := D2.same sl
          have ex3 := ((Exc.same s1).trans ex1).trans (ex2.trans (.same sl))
          generalize upd H2 z (HO.tup ([r1, r2].map V.ref)) = G at h0 h1 h2 D3 ex3 ⊢
          have sm : ∀ {n : Int}, -(10 ^ 20) ≤ n ∧ n ≤ 10 ^ 20 → Sm n := fun {n} h => by unfold Sm; omega
          refine ⟨z, a, b, c, e, rfl, ⟨r1, r2, h0, h1, h2⟩, sm ba, sm bb, sm bc, sm be, _, rfl, by omega, rfl, iteC (fun cd => ?_) (fun cd => ?_)⟩
          · refine k G z a b c e ex3 D3 ⟨r1, r2, h0, h1, h2⟩ (fun n hn => ?_) (by simpa using cd)
            simp only [List.mem_cons, List.not_mem_nil, or_false] at hn
            rcases hn with rfl | rfl | rfl | rfl <;> assumption
          · refine ⟨by decide, fun p1 np1 => ⟨by decide, fun p2 np2 => ⟨by decide, fun p3 np3 => ?_⟩⟩⟩
            have q1 := same_upd (o := TI [1, 1]) np1
            have q2 := same_upd (o := TI [0, 1]) np2
            have q3 := same_upd (o := HO.tup [V.ref p1, V.ref p2]) np3
            refine k _ p3 1 1 0 1 (ex3.trans (.same ((q1.trans q2).trans q3))) (D3.same ((q1.trans q2).trans q3)) ⟨p1, p2, upd_same, q3 _ _ (q2 _ _ upd_same), q3 _ _ upd_same⟩ (fun n hn => ?_) ?_
            · simp only [List.mem_cons, List.not_mem_nil, or_false] at hn
              rcases hn with rfl | rfl | rfl | rfl <;> decide
            · show (1 : Int) % p ≠ 0
              rw [Int.emod_eq_of_lt (by decide) (by omega)]
              decide
end
end My
namespace My
open PySem PySem.Spec PyProof.Rows L2 Pr
/-! ### rows modulo p -/
abbrev md (p : Int) (es : List Int) : List Int := es.map (· % p)
theorem ad_mod {p a a' b b' : Int} (h1 : a % p = a' % p) (h2 : b % p = b' % p) : (a + b) % p = (a' + b') % p := by rw [Int.add_emod, h1, h2, ← Int.add_emod]
theorem mu_mod {p a a' b b' : Int} (h1 : a % p = a' % p) (h2 : b % p = b' % p) : (a * b) % p = (a' * b') % p := by rw [Int.mul_emod, h1, h2, ← Int.mul_emod]
theorem mm (a p : Int) : a % p % p = a % p := Int.emod_emod a p
theorem md_len (p : Int) (es : List Int) : (md p es).length = es.length := List.length_map ..
theorem md_md (p : Int) (es : List Int) : md p (md p es) = md p es := by
  unfold md
  rw [List.map_map]
  exact List.map_congr_left fun n _ => mm n p
theorem md_lenE {p : Int} {a b : List Int} (h : md p a = md p b) : a.length = b.length := by
  have := congrArg List.length h
  rwa [md_len, md_len] at this
theorem md_get {p : Int} {a b : List Int} (h : md p a = md p b) (i : Nat) : a.getD i 0 % p = b.getD i 0 % p := by
  have hl := md_lenE h
  by_cases hi : i < a.length
  · have e := congrArg (fun l : List Int => l[i]?) h
    simp only [md, List.getElem?_map, List.getElem?_eq_getElem hi, List.getElem?_eq_getElem (show i < b.length by omega), Option.map_some, Option.some.injEq] at e
    rw [List.getD_eq_getElem?_getD, List.getD_eq_getElem?_getD, List.getElem?_eq_getElem hi, List.getElem?_eq_getElem (show i < b.length by omega)]
    exact e
  · rw [List.getD_eq_getElem?_getD, List.getD_eq_getElem?_getD, List.getElem?_eq_none (by omega), List.getElem?_eq_none (by omega)]
theorem md_of {p : Int} {a b : List Int} (hl : a.length = b.length) (h : ∀ i, i < a.length → a.getD i 0 % p = b.getD i 0 % p) : md p a = md p b := by
  refine List.ext_getElem (by rw [md_len, md_len, hl]) fun i h1 h2 => ?_
  rw [md_len] at h1 h2
  have := h i h1
  rw [List.getD_eq_getElem?_getD, List.getD_eq_getElem?_getD, List.getElem?_eq_getElem h1, List.getElem?_eq_getElem h2] at this
  rw [List.getElem_map, List.getElem_map]
  exact this
theorem md_cv {p : Int} {a a' b b' : List Int} (ha : md p a = md p a') (hb : md p b = md p b') (k : Nat) : ∀ i, cv a b i k % p = cv a' b' i k % p
  | 0 => rfl
  | i + 1 => by
    show (cv a b i k + _) % p = (cv a' b' i k + _) % p
    refine ad_mod (md_cv ha hb k i) ?_
    by_cases h : i ≤ k
    · rw [if_pos h, if_pos h]
      exact mu_mod (md_get ha i) (md_get hb (k - i))
    · rw [if_neg h, if_neg h]
theorem md_mulP {p : Int} {a a' b b' : List Int} (ha : md p a = md p a') (hb : md p b = md p b') : md p (mulP a b) = md p (mulP a' b') := by
  have la := md_lenE ha
  have lb := md_lenE hb
  unfold mulP md
  rw [List.map_map, List.map_map, ← la, ← lb]
  exact List.map_congr_left fun k _ => md_cv ha hb k a.length
theorem md_zip {p : Int} : ∀ {a a' b b' : List Int}, md p a = md p a' → md p b = md p b' → md p (List.zipWith (· + ·) a b) = md p (List.zipWith (· + ·) a' b')
  | [], [], _, _, _, _ => by simp
  | [], _ :: _, _, _, h, _ => by cases md_lenE h
  | _ :: _, [], _, _, h, _ => by cases md_lenE h
  | _ :: _, _ :: _, [], [], _, _ => by simp
  | _ :: _, _ :: _, [], _ :: _, _, h => by cases md_lenE h
  | _ :: _, _ :: _, _ :: _, [], _, h => by cases md_lenE h
  | x :: a, x' :: a', y :: b, y' :: b', h1, h2 => by
    simp only [md, List.map_cons, List.cons.injEq] at h1 h2
    simp only [md, List.zipWith_cons_cons, List.map_cons, List.cons.injEq]
    exact ⟨ad_mod h1.1 h2.1, md_zip h1.2 h2.2⟩
theorem md_sc {p c c' : Int} {a a' : List Int} (h : md p a = md p a') (hc : c % p = c' % p) : md p (a.map (· * c)) = md p (a'.map (· * c')) := by
  refine md_of (by rw [List.length_map, List.length_map, md_lenE h]) fun i hi => ?_
  have g : ∀ (l : List Int) (z : Int), (l.map (· * z)).getD i 0 = l.getD i 0 * z := fun l z => by
    rw [List.getD_eq_getElem?_getD, List.getD_eq_getElem?_getD, List.getElem?_map]
    cases l[i]? with
    | none => show (0 : Int) = 0 * z; rw [Int.zero_mul]
    | some v => rfl
  rw [g, g]
  exact mu_mod (md_get h i) hc
theorem md_chT {p : Int} {F F' S S' : List Int} (hF : md p F = md p F') (hS : md p S = md p S') : ∀ (es es' : List Int) (st st' : List Int × List Int), md p es = md p es' → md p st.1 = md p st'.1 → md p st.2 = md p st'.2 → md p (chT F S es st).1 = md p (chT F' S' es' st').1
  | [], [], st, st', _, h1, _ => h1
  | [], _ :: _, _, _, h, _, _ => by cases md_lenE h
  | _ :: _, [], _, _, h, _, _ => by cases md_lenE h
  | c :: cs, c' :: cs', st, st', h, h1, h2 => by
    simp only [md, List.map_cons, List.cons.injEq] at h
    have m2 := md_mulP h2 hS
    exact md_chT hF hS cs cs' _ _ h.2 (md_zip (md_mulP h1 hF) (md_sc m2 h.1)) m2
theorem md_chP {p : Int} {F F' S S' es es' : List Int} (hF : md p F = md p F') (hS : md p S = md p S') (h : md p es = md p es') : md p (chP F S es) = md p (chP F' S' es') := by
  unfold chP
  refine md_chT hF hS _ _ _ _ ?_ ?_ rfl
  · unfold md at h ⊢
    rw [List.map_drop, List.map_drop, h]
  · have := md_get h 0
    simp only [md, List.map_cons, List.map_nil]
    rw [this]
theorem md_val {p x y : Int} : ∀ {a a' : List Int}, md p a = md p a' → val a x y % p = val a' x y % p
  | [], [], _ => rfl
  | [], _ :: _, h => by cases md_lenE h
  | _ :: _, [], h => by cases md_lenE h
  | c :: cs, c' :: cs', h => by
    have hl := md_lenE h
    simp only [md, List.map_cons, List.cons.injEq] at h
    rw [val_cons, val_cons]
    have hl2 : cs.length = cs'.length := by simpa using hl
    rw [hl2]
    exact ad_mod (mu_mod h.1 rfl) (mu_mod rfl (md_val h.2))
theorem md_id {p : Int} (hp : 0 < p) {es : List Int} (h : ∀ n ∈ es, 0 ≤ n ∧ n < p) : md p es = es := by
  unfold md
  exact (List.map_congr_left (g := id) fun n hn => Int.emod_eq_of_lt (h n hn).1 (h n hn).2).trans (List.map_id es)
theorem md_rg {p : Int} (hp : 0 < p) (es : List Int) : ∀ n ∈ md p es, 0 ≤ n ∧ n < p := fun n hn => by
  obtain ⟨m, _, rfl⟩ := List.mem_map.mp hn
  exact ⟨Int.emod_nonneg _ (by omega), Int.emod_lt_of_pos _ hp⟩
theorem plR_rg {p : Int} (hp : 0 < p) {es : List Int} (h : ∀ n ∈ es, 0 ≤ n ∧ n < p) : ∀ n ∈ plR p es, 0 ≤ n ∧ n < p := fun n hn => by
  unfold plR at hn
  split at hn
  · exact h n hn
  · obtain ⟨m, _, rfl⟩ := List.mem_map.mp hn
    exact ⟨Int.emod_nonneg _ (by omega), Int.emod_lt_of_pos _ hp⟩
theorem plP_of {p : Int} {es : List Int} (h : md p es = es) : plP p es = plR p es := by
  unfold plP
  unfold md at h
  rw [h]
/-- plain twice is plain once -/
theorem plR_idem {p : Int} (hp : p ∈ primes) {es : List Int} (h : md p es = es) : plR p (plR p es) = plR p es := by
  have pb := primes_bd hp
  have p0 : 0 < p := by omega
  have rg : ∀ n ∈ es, 0 ≤ n ∧ n < p := by
    rw [← h]
    exact md_rg p0 es
  rcases e : es.filter nz with _ | ⟨x, t⟩
  · have e1 : plR p es = es := by unfold plR; rw [e]
    rw [e1, e1]
  · have hx : ∃ n ∈ es, ¬ p ∣ n := by
      have hm : x ∈ es.filter nz := by rw [e]; exact List.mem_cons_self
      obtain ⟨h1, h2⟩ := List.mem_filter.mp hm
      refine ⟨x, h1, fun hd => ?_⟩
      have := rg x h1
      have n0 : x ≠ 0 := by simpa [nz] using h2
      have := Int.le_of_dvd (by omega) hd
      omega
    have pl := plP_plain hp hx
    have fx := plP_fix hp pl
    rw [plP_of h] at fx
    have e2 : md p (plR p es) = plR p es := md_id p0 (plR_rg p0 rg)
    rw [plP_of e2] at fx
    exact fx
theorem det_joined {p a b c e x y z u : Int} (hp : p ∈ primes) (h1 : (a * e - b * c) % p ≠ 0) (h2 : (x * u - y * z) % p ≠ 0) :
    ((a * x + b * z) * (c * y + e * u) - (a * y + b * u) * (c * x + e * z)) % p ≠ 0 := by
  have e1 : (a * x + b * z) * (c * y + e * u) - (a * y + b * u) * (c * x + e * z) = (a * e - b * c) * (x * u - y * z) := by grind
  rw [e1]
  intro h
  rcases pr_mul hp (Int.dvd_of_emod_eq_zero h) with d | d
  · exact h1 (Int.emod_eq_zero_of_dvd d)
  · exact h2 (Int.emod_eq_zero_of_dvd d)
end My
namespace My
open PySem PySem.Spec PyProof.Rows L2 Pr
/-! ### prime forms -/
theorem isC_PrimeForm {K : PySem.W.Frag} {mg : Str → Option Value} (T : Tx K mg) : IsC K T.C_PrimeForm := ⟨T.cl_PrimeForm, T.px_cls, T.px_get, T.px_tak, T.px_obj, T.px_ty, T.px_int, T.px_tup⟩
/-- what a prime form keeps -/
def PFe (p : Int) (t : Addr) : List (Str × V) := [(Str.ofString "_prime", .int p), (Str.ofString "_entries", .ref t)]
theorem PF_p {p : Int} {t : Addr} : (PFe p t).lookup (Str.ofString "_prime") = some (V.int p) := by
  unfold PFe
  simp [List.lookup]
theorem PF_e {p : Int} {t : Addr} : (PFe p t).lookup (Str.ofString "_entries") = some (V.ref t) := by
  unfold PFe
  have h : (Str.ofString "_entries" == Str.ofString "_prime") = false := by decide +kernel
  simp [List.lookup, h]
theorem PF_put1 {p : Int} : putF (Str.ofString "_prime") (V.int p) [] = [(Str.ofString "_prime", V.int p)] := rfl
theorem PF_put2 {p : Int} {t : Addr} : putF (Str.ofString "_entries") (V.ref t) [(Str.ofString "_prime", V.int p)] = PFe p t := by
  show (if Str.ofString "_prime" = Str.ofString "_entries" then _ else _) = _
  rw [if_neg (by decide +kernel)]
  rfl
theorem PF_no {p : Int} {t : Addr} {m : Str} (h1 : (m == Str.ofString "_prime") = false) (h2 : (m == Str.ofString "_entries") = false) : (PFe p t).lookup m = none := by
  unfold PFe
  simp [List.lookup, h1, h2]
/-- a prime form at a -/
def PFAt (C : Addr) (H : Hp) (a : Addr) (p : Int) (es : List Int) : Prop := ∃ dx t, H a = some (.ins C dx (PFe p t)) ∧ H t = some (TI es)
theorem PFAt.same {C a : Addr} {H H' : Hp} {p : Int} {es : List Int} (h : PFAt C H a p es) (s : Same H H') : PFAt C H' a p es := by
  obtain ⟨dx, t, h1, h2⟩ := h
  exact ⟨dx, t, s _ _ h1, s _ _ h2⟩
structure Goop (es : List Int) : Prop where
  lo : 1 ≤ es.length
  hi : es.length ≤ 13
  sm : ∀ n ∈ es, Sm n
section
variable {P : Program} {w : World} {K : PySem.W.Frag} {mg : Str → Option Value} {base : Heap}
def sp_PrimeForm___init__ (C : Addr) : Sp := fun vs H Q _ => ∃ (x dx q : Addr) (p : Int) (es : List Int), vs = [.ref x, .int p, .ref q] ∧ H x = some (.ins C dx []) ∧ H q = some (TI es) ∧ p ∈ primes ∧ Goop es ∧
  ∀ H' t, (∀ b o, b ≠ x → H b = some o → H' b = some o) → H' x = some (.ins C dx (PFe p t)) → H' t = some (TI (md p es)) → Q .non H'
theorem ok_PrimeForm___init__ (T : Tx K mg) : FnOk P w K mg base CX0 8 T.f_PrimeForm___init__ T.d_PrimeForm___init__ p_PrimeForm___init__ (sp_PrimeForm___init__ T.C_PrimeForm) := by
  refine T.F_PrimeForm___init__.ok sc_PrimeForm___init__ (fun vs H Q E h => ?_) (fun cdv A outer s H vs Q E hr h => ?_)
  · obtain ⟨x, dx, q, p, es, rfl, _⟩ := h
    rfl
  · obtain ⟨x, dx, q, p, es, rfl, hx, hq, pp, g, k⟩ := h
    refine ⟨_, (pss_cons (ps_expr (pe_call (ok_need_prime T) (hr.mono (by decide)) (by rfl) T.m_need_prime T.F_need_prime.kp T.b_need_prime .nil pass0 (pa_cons (pv 1) pa_nil)))
      (pss_cons (ps_if (PW.pt (pw_or (pt_not (pt_val (pe_call (ok_is_row T) (hr.mono (by decide)) (by rfl) T.m_is_row T.F_is_row.kp T.b_is_row .nil pass0 (pa_cons (pv 2) pa_nil)))) (pw_or1 (pt_not (pt_chain op_le op_le pe_int (pe_callB cr_len (by rfl) T.z_len PySem.boot_len (pa_cons (pv 2) pa_nil)) (pe_op op_add (pe_glob (v := .int 12) (by rfl) T.c_MOST_DEGREE ⟨_, rfl⟩) pe_int)))))) (pss_one ps_never) pss_nil)
      (pss_cons (ps_fld (pv 0) (pv 1) rfl)
      (pss_one (ps_fld (pv 0) (pe_call (ok_modulo T) (hr.mono (by decide)) (by rfl) T.m_modulo T.F_modulo.kp T.b_modulo .nil pass0 (pa_cons (pv 2) (pa_cons (pv 1) pa_nil))) rfl))))), ?_⟩
    rw [st_PrimeForm___init__]
    have h1 := g.lo
    have h2 := g.hi
    simp only [ap_seq, ap_next, ap_asg, ap_gName, ap_ret, ap_retN, ap_drop, ap_ifS, ap_break, ap_cont, ap_par, ap_aug, ap_ip, ap_gSub, ap_gTup, ap_gNil, ap_gCons, ap_var, ap_c, ap_op, ap_un, ap_if, ap_test, ap_B, ap_and, ap_or, ap_not, ap_andV, ap_orV, ap_notV, ap_nil, ap_cons, ap_tup, ap_lst, ap_cb, ap_bm, ap_call, ap_chain, ap_rI, ap_rI0, ap_rU, ap_rEq, ap_rNe, ap_revT, ap_sl, ap_part, ap_noPart, ap_ixLI, ap_ixTI, ap_ixLV, ap_ixTV, ap_len, ap_setLI, ap_setLV, ap_appI, ap_appV, ap_tupL, ap_listS, ap_sumLI, ap_sumTI, ap_repLI, ap_intI, ap_intB, ap_eqTI, ap_neTI, ap_eqLI, ap_neLI, ap_isi, ap_for, ap_rng1, ap_rng2, ap_iList, ap_iTup, ap_lc, ap_yes, ap_cut, ap_gTupH, ap_fmt, ap_jsn, ap_jsc, ap_gcd, ap_isqrt, ap_ixL, tyV_l, wipe_nil, wipe_cons, upd_same, ap_iEnT, ap_iEnL, ap_iZipA, ap_all, ap_tupT, ap_attF, ap_makeL, ap_att, ap_prop, ap_isO, ap_bin, ap_ne, ap_meth, ap_make, ins_inj, FE_inj, ap_slI, ap_catI, ap_perm, ap_lenO, ap_strO, ap_listO, ap_reprB, ap_iterT, ap_neT, ap_negO, ap_binI, ap_catL, ap_tM1, ap_repTI, ap_popN, ap_par3, ap_catTT, ap_repTA, ap_countT, ap_notInT, ap_repL1, ap_cm, ap_shl, ap_shr, ap_mask, ap_comb, ap_bits, ap_rng3, List.set_cons_zero, List.set_cons_succ, List.getElem?_cons_zero, List.getElem?_cons_succ, List.cons_append, List.nil_append, List.append_nil, Option.some.injEq, V.int.injEq, V.ref.injEq, V.bl.injEq, V.str.injEq, V.ty.injEq, Bool.not_true, Bool.not_false, HO.lst.injEq, HO.tup.injEq, reduceCtorEq, Int.reduceToNat, Int.reduceLT, Int.reduceLE, Nat.reduceAdd, Int.cast_ofNat_Int, gi_c0, gi_c1, gi_c2, gi_c3, Int.natCast_inj, map_int_inj, map_nil_iff, List.cons.injEq, exists_eq_left, exists_eq_left', exists_eq, exists_eq', exists_and_left, exists_and_right, exists_const, and_assoc, and_true, true_and, and_false, false_and, or_false, false_or, or_true, true_or, ite_true, ite_false, if_true, if_false, Bool.false_eq_true, own_cons, own_nil, le1, le2, le3, le4, me_cons, me_nil, List.length_map, List.length_cons, List.length_nil, ne_eq, not_false_eq_true, not_true_eq_false, decide_eq_true_eq, sp_is_row, sp_need_prime]
    refine ⟨pp, es, hq, by omega, g.sm, fun H1 s1 => ?_⟩
    have hq1 := s1 _ _ hq
    have hx1 := s1 _ _ hx
    have pb := primes_bd pp
    refine ⟨_, .inr hq1, ?_⟩
    rw [List.length_map, if_pos (by omega), decide_eq_true (by omega), if_neg (by simp)]
    refine ⟨_, rfl, _, rfl, x, T.C_PrimeForm, dx, _, rfl, hx1, T.cl_PrimeForm, T.no_PrimeForm_prime, by decide, ?_⟩
    have nqx : q ≠ x := fun e => by
      subst e
      rw [hq] at hx
      cases hx
    refine ⟨_, rfl, _, rfl, q, es, p, rfl, .inr (by rw [upd_ne nqx]; exact hq1), by omega, fun n hn => (g.sm n hn).wd, by omega, by omega, fun H2 r s2 nr er => ?_⟩
    refine ⟨_, rfl, x, T.C_PrimeForm, dx, _, rfl, s2 _ _ upd_same, T.cl_PrimeForm, T.no_PrimeForm_entries, by rw [PF_put1]; show 1 < 1000; omega, ?_⟩
    have nrx : r ≠ x := fun e => by
      subst e
      rw [upd_same] at nr
      cases nr
    refine k _ r (fun b o hb e => ?_) (upd_same.trans (congrArg (fun f => some (HO.ins T.C_PrimeForm dx f)) ?_)) (by rw [upd_ne nrx]; exact er)
    · rw [upd_ne hb]
      refine s2 _ _ ?_
      rw [upd_ne hb]
      exact s1 _ _ e
    · exact PF_put2
/-- a new prime form -/
theorem newP_ok {H1 : Hp} {q C : Addr} {p : Int} {es : List Int} {Q : VK} (h : H1 q = some (TI es)) (pp : p ∈ primes) (g : Goop es) (k : ∀ a H', Same H1 H' → H1 a = none → PFAt C H' a p (md p es) → Q (.ref a) H') :
    NewV C (sp_PrimeForm___init__ C) [] E0 [.int p, .ref q] H1 Q := fun x dx nx ndx ne => by
  have ntx : q ≠ x := ne_of_none h nx
  have ntd : q ≠ dx := ne_of_none h ndx
  refine ⟨x, dx, q, p, es, rfl, upd_same, by rw [upd_ne ntx, upd_ne ntd]; exact h, pp, g, fun H' t s hx ht => ⟨rfl, k x H' (fun b o e => ?_) nx ⟨dx, t, hx, ht⟩⟩⟩
  have nbx : b ≠ x := ne_of_none e nx
  have nbd : b ≠ dx := ne_of_none e ndx
  exact s _ _ nbx (by rw [upd_ne nbx, upd_ne nbd]; exact e)
def sp_PrimeForm_prime (C : Addr) : Sp := fun vs H Q _ => ∃ (a dx t : Addr) (p : Int), vs = [.ref a] ∧ H a = some (.ins C dx (PFe p t)) ∧ Q (.int p) H
theorem ok_PrimeForm_prime (T : Tx K mg) : FnOk P w K mg base CX0 1 T.f_PrimeForm_prime T.d_PrimeForm_prime p_PrimeForm_prime (sp_PrimeForm_prime T.C_PrimeForm) := by
  refine T.F_PrimeForm_prime.ok sc_PrimeForm_prime (fun vs H Q E h => ?_) (fun cdv A outer s H vs Q E hr h => ?_)
  · obtain ⟨a, dx, t, p, rfl, _⟩ := h
    rfl
  · obtain ⟨a, dx, t, p, rfl, ha, q⟩ := h
    refine ⟨_, (pss_one (ps_ret (pe_attF (pe_fld (pv 0) rfl) mono_var T.cl_PrimeForm T.no_PrimeForm_prime))), ?_⟩
    rw [st_PrimeForm_prime]
    simp only [ap_seq, ap_next, ap_asg, ap_gName, ap_ret, ap_retN, ap_drop, ap_ifS, ap_break, ap_cont, ap_par, ap_aug, ap_ip, ap_gSub, ap_gTup, ap_gNil, ap_gCons, ap_var, ap_c, ap_op, ap_un, ap_if, ap_test, ap_B, ap_and, ap_or, ap_not, ap_andV, ap_orV, ap_notV, ap_nil, ap_cons, ap_tup, ap_lst, ap_cb, ap_bm, ap_call, ap_chain, ap_rI, ap_rI0, ap_rU, ap_rEq, ap_rNe, ap_revT, ap_sl, ap_part, ap_noPart, ap_ixLI, ap_ixTI, ap_ixLV, ap_ixTV, ap_len, ap_setLI, ap_setLV, ap_appI, ap_appV, ap_tupL, ap_listS, ap_sumLI, ap_sumTI, ap_repLI, ap_intI, ap_intB, ap_eqTI, ap_neTI, ap_eqLI, ap_neLI, ap_isi, ap_for, ap_rng1, ap_rng2, ap_iList, ap_iTup, ap_lc, ap_yes, ap_cut, ap_gTupH, ap_fmt, ap_jsn, ap_jsc, ap_gcd, ap_isqrt, ap_ixL, tyV_l, wipe_nil, wipe_cons, upd_same, ap_iEnT, ap_iEnL, ap_iZipA, ap_all, ap_tupT, ap_attF, ap_makeL, ap_att, ap_prop, ap_isO, ap_bin, ap_ne, ap_meth, ap_make, ins_inj, FE_inj, ap_slI, ap_catI, ap_perm, ap_lenO, ap_strO, ap_listO, ap_reprB, ap_iterT, ap_neT, ap_negO, ap_binI, ap_catL, ap_tM1, ap_repTI, ap_popN, ap_par3, ap_catTT, ap_repTA, ap_countT, ap_notInT, ap_repL1, ap_cm, ap_shl, ap_shr, ap_mask, ap_comb, ap_bits, ap_rng3, List.set_cons_zero, List.set_cons_succ, List.getElem?_cons_zero, List.getElem?_cons_succ, List.cons_append, List.nil_append, List.append_nil, Option.some.injEq, V.int.injEq, V.ref.injEq, V.bl.injEq, V.str.injEq, V.ty.injEq, Bool.not_true, Bool.not_false, HO.lst.injEq, HO.tup.injEq, reduceCtorEq, Int.reduceToNat, Int.reduceLT, Int.reduceLE, Nat.reduceAdd, Int.cast_ofNat_Int, gi_c0, gi_c1, gi_c2, gi_c3, Int.natCast_inj, map_int_inj, map_nil_iff, List.cons.injEq, exists_eq_left, exists_eq_left', exists_eq, exists_eq', exists_and_left, exists_and_right, exists_const, and_assoc, and_true, true_and, and_false, false_and, or_false, false_or, or_true, true_or, ite_true, ite_false, if_true, if_false, Bool.false_eq_true, own_cons, own_nil, le1, le2, le3, le4, me_cons, me_nil, List.length_map, List.length_cons, List.length_nil, ne_eq, not_false_eq_true, not_true_eq_false, decide_eq_true_eq, ha, PF_p, PF_e]
    exact q
def sp_PrimeForm_entries (C : Addr) : Sp := fun vs H Q _ => ∃ (a dx t : Addr) (p : Int), vs = [.ref a] ∧ H a = some (.ins C dx (PFe p t)) ∧ Q (.ref t) H
theorem ok_PrimeForm_entries (T : Tx K mg) : FnOk P w K mg base CX0 1 T.f_PrimeForm_entries T.d_PrimeForm_entries p_PrimeForm_entries (sp_PrimeForm_entries T.C_PrimeForm) := by
  refine T.F_PrimeForm_entries.ok sc_PrimeForm_entries (fun vs H Q E h => ?_) (fun cdv A outer s H vs Q E hr h => ?_)
  · obtain ⟨a, dx, t, p, rfl, _⟩ := h
    rfl
  · obtain ⟨a, dx, t, p, rfl, ha, q⟩ := h
    refine ⟨_, (pss_one (ps_ret (pe_attF (pe_fld (pv 0) rfl) mono_var T.cl_PrimeForm T.no_PrimeForm_entries))), ?_⟩
    rw [st_PrimeForm_entries]
    simp only [ap_seq, ap_next, ap_asg, ap_gName, ap_ret, ap_retN, ap_drop, ap_ifS, ap_break, ap_cont, ap_par, ap_aug, ap_ip, ap_gSub, ap_gTup, ap_gNil, ap_gCons, ap_var, ap_c, ap_op, ap_un, ap_if, ap_test, ap_B, ap_and, ap_or, ap_not, ap_andV, ap_orV, ap_notV, ap_nil, ap_cons, ap_tup, ap_lst, ap_cb, ap_bm, ap_call, ap_chain, ap_rI, ap_rI0, ap_rU, ap_rEq, ap_rNe, ap_revT, ap_sl, ap_part, ap_noPart, ap_ixLI, ap_ixTI, ap_ixLV, ap_ixTV, ap_len, ap_setLI, ap_setLV, ap_appI, ap_appV, ap_tupL, ap_listS, ap_sumLI, ap_sumTI, ap_repLI, ap_intI, ap_intB, ap_eqTI, ap_neTI, ap_eqLI, ap_neLI, ap_isi, ap_for, ap_rng1, ap_rng2, ap_iList, ap_iTup, ap_lc, ap_yes, ap_cut, ap_gTupH, ap_fmt, ap_jsn, ap_jsc, ap_gcd, ap_isqrt, ap_ixL, tyV_l, wipe_nil, wipe_cons, upd_same, ap_iEnT, ap_iEnL, ap_iZipA, ap_all, ap_tupT, ap_attF, ap_makeL, ap_att, ap_prop, ap_isO, ap_bin, ap_ne, ap_meth, ap_make, ins_inj, FE_inj, ap_slI, ap_catI, ap_perm, ap_lenO, ap_strO, ap_listO, ap_reprB, ap_iterT, ap_neT, ap_negO, ap_binI, ap_catL, ap_tM1, ap_repTI, ap_popN, ap_par3, ap_catTT, ap_repTA, ap_countT, ap_notInT, ap_repL1, ap_cm, ap_shl, ap_shr, ap_mask, ap_comb, ap_bits, ap_rng3, List.set_cons_zero, List.set_cons_succ, List.getElem?_cons_zero, List.getElem?_cons_succ, List.cons_append, List.nil_append, List.append_nil, Option.some.injEq, V.int.injEq, V.ref.injEq, V.bl.injEq, V.str.injEq, V.ty.injEq, Bool.not_true, Bool.not_false, HO.lst.injEq, HO.tup.injEq, reduceCtorEq, Int.reduceToNat, Int.reduceLT, Int.reduceLE, Nat.reduceAdd, Int.cast_ofNat_Int, gi_c0, gi_c1, gi_c2, gi_c3, Int.natCast_inj, map_int_inj, map_nil_iff, List.cons.injEq, exists_eq_left, exists_eq_left', exists_eq, exists_eq', exists_and_left, exists_and_right, exists_const, and_assoc, and_true, true_and, and_false, false_and, or_false, false_or, or_true, true_or, ite_true, ite_false, if_true, if_false, Bool.false_eq_true, own_cons, own_nil, le1, le2, le3, le4, me_cons, me_nil, List.length_map, List.length_cons, List.length_nil, ne_eq, not_false_eq_true, not_true_eq_false, decide_eq_true_eq, ha, PF_p, PF_e]
    exact q
def sp_PrimeForm_degree (C : Addr) : Sp := fun vs H Q _ => ∃ (a dx t : Addr) (p : Int) (es : List Int), vs = [.ref a] ∧ H a = some (.ins C dx (PFe p t)) ∧ H t = some (TI es) ∧ Q (.int (es.length - 1)) H
theorem ok_PrimeForm_degree (T : Tx K mg) : FnOk P w K mg base CX0 1 T.f_PrimeForm_degree T.d_PrimeForm_degree p_PrimeForm_degree (sp_PrimeForm_degree T.C_PrimeForm) := by
  refine T.F_PrimeForm_degree.ok sc_PrimeForm_degree (fun vs H Q E h => ?_) (fun cdv A outer s H vs Q E hr h => ?_)
  · obtain ⟨a, dx, t, p, es, rfl, _⟩ := h
    rfl
  · obtain ⟨a, dx, t, p, es, rfl, ha, ht, q⟩ := h
    refine ⟨_, (pss_one (ps_ret (pe_op op_sub (pe_callB cr_len (by rfl) T.z_len PySem.boot_len (pa_cons (pe_attF (pe_fld (pv 0) rfl) mono_var T.cl_PrimeForm T.no_PrimeForm_entries) pa_nil)) pe_int))), ?_⟩
    rw [st_PrimeForm_degree]
    simp only [ap_seq, ap_next, ap_asg, ap_gName, ap_ret, ap_retN, ap_drop, ap_ifS, ap_break, ap_cont, ap_par, ap_aug, ap_ip, ap_gSub, ap_gTup, ap_gNil, ap_gCons, ap_var, ap_c, ap_op, ap_un, ap_if, ap_test, ap_B, ap_and, ap_or, ap_not, ap_andV, ap_orV, ap_notV, ap_nil, ap_cons, ap_tup, ap_lst, ap_cb, ap_bm, ap_call, ap_chain, ap_rI, ap_rI0, ap_rU, ap_rEq, ap_rNe, ap_revT, ap_sl, ap_part, ap_noPart, ap_ixLI, ap_ixTI, ap_ixLV, ap_ixTV, ap_len, ap_setLI, ap_setLV, ap_appI, ap_appV, ap_tupL, ap_listS, ap_sumLI, ap_sumTI, ap_repLI, ap_intI, ap_intB, ap_eqTI, ap_neTI, ap_eqLI, ap_neLI, ap_isi, ap_for, ap_rng1, ap_rng2, ap_iList, ap_iTup, ap_lc, ap_yes, ap_cut, ap_gTupH, ap_fmt, ap_jsn, ap_jsc, ap_gcd, ap_isqrt, ap_ixL, tyV_l, wipe_nil, wipe_cons, upd_same, ap_iEnT, ap_iEnL, ap_iZipA, ap_all, ap_tupT, ap_attF, ap_makeL, ap_att, ap_prop, ap_isO, ap_bin, ap_ne, ap_meth, ap_make, ins_inj, FE_inj, ap_slI, ap_catI, ap_perm, ap_lenO, ap_strO, ap_listO, ap_reprB, ap_iterT, ap_neT, ap_negO, ap_binI, ap_catL, ap_tM1, ap_repTI, ap_popN, ap_par3, ap_catTT, ap_repTA, ap_countT, ap_notInT, ap_repL1, ap_cm, ap_shl, ap_shr, ap_mask, ap_comb, ap_bits, ap_rng3, List.set_cons_zero, List.set_cons_succ, List.getElem?_cons_zero, List.getElem?_cons_succ, List.cons_append, List.nil_append, List.append_nil, Option.some.injEq, V.int.injEq, V.ref.injEq, V.bl.injEq, V.str.injEq, V.ty.injEq, Bool.not_true, Bool.not_false, HO.lst.injEq, HO.tup.injEq, reduceCtorEq, Int.reduceToNat, Int.reduceLT, Int.reduceLE, Nat.reduceAdd, Int.cast_ofNat_Int, gi_c0, gi_c1, gi_c2, gi_c3, Int.natCast_inj, map_int_inj, map_nil_iff, List.cons.injEq, exists_eq_left, exists_eq_left', exists_eq, exists_eq', exists_and_left, exists_and_right, exists_const, and_assoc, and_true, true_and, and_false, false_and, or_false, false_or, or_true, true_or, ite_true, ite_false, if_true, if_false, Bool.false_eq_true, own_cons, own_nil, le1, le2, le3, le4, me_cons, me_nil, List.length_map, List.length_cons, List.length_nil, ne_eq, not_false_eq_true, not_true_eq_false, decide_eq_true_eq, ha, PF_p, PF_e]
    refine ⟨_, .inr ht, ?_⟩
    rw [List.length_map]
    exact q
end
end My
namespace My
open PySem PySem.Spec PyProof.Rows L2 Pr
section
variable {P : Program} {w : World} {K : PySem.W.Frag} {mg : Str → Option Value} {base : Heap}
def sp_PrimeForm_is_zero (C : Addr) : Sp := fun vs H Q _ => ∃ (a : Addr) (p : Int) (es : List Int), vs = [.ref a] ∧ PFAt C H a p es ∧ ∀ H', Same H H' → Q (.bl (decide (leadV es = .non))) H'
theorem ok_PrimeForm_is_zero (T : Tx K mg) : FnOk P w K mg base CX0 4 T.f_PrimeForm_is_zero T.d_PrimeForm_is_zero p_PrimeForm_is_zero (sp_PrimeForm_is_zero T.C_PrimeForm) := by
  refine T.F_PrimeForm_is_zero.ok sc_PrimeForm_is_zero (fun vs H Q E h => ?_) (fun cdv A outer s H vs Q E hr h => ?_)
  · obtain ⟨a, p, es, rfl, _⟩ := h
    rfl
  · obtain ⟨a, p, es, rfl, ⟨dx, t, ha, ht⟩, q⟩ := h
    refine ⟨_, (pss_one (ps_ret (pe_cmpR op_isN (pe_call (ok_lead_of T) (hr.mono (by decide)) (by rfl) T.m_lead_of T.F_lead_of.kp T.b_lead_of .nil pass0 (pa_cons (pe_attF (pe_fld (pv 0) rfl) mono_var T.cl_PrimeForm T.no_PrimeForm_entries) pa_nil)) pe_non (nomark _)))), ?_⟩
    rw [st_PrimeForm_is_zero]
    simp only [ap_seq, ap_next, ap_asg, ap_gName, ap_ret, ap_retN, ap_drop, ap_ifS, ap_break, ap_cont, ap_par, ap_aug, ap_ip, ap_gSub, ap_gTup, ap_gNil, ap_gCons, ap_var, ap_c, ap_op, ap_un, ap_if, ap_test, ap_B, ap_and, ap_or, ap_not, ap_andV, ap_orV, ap_notV, ap_nil, ap_cons, ap_tup, ap_lst, ap_cb, ap_bm, ap_call, ap_chain, ap_rI, ap_rI0, ap_rU, ap_rEq, ap_rNe, ap_revT, ap_sl, ap_part, ap_noPart, ap_ixLI, ap_ixTI, ap_ixLV, ap_ixTV, ap_len, ap_setLI, ap_setLV, ap_appI, ap_appV, ap_tupL, ap_listS, ap_sumLI, ap_sumTI, ap_repLI, ap_intI, ap_intB, ap_eqTI, ap_neTI, ap_eqLI, ap_neLI, ap_isi, ap_for, ap_rng1, ap_rng2, ap_iList, ap_iTup, ap_lc, ap_yes, ap_cut, ap_gTupH, ap_fmt, ap_jsn, ap_jsc, ap_gcd, ap_isqrt, ap_ixL, tyV_l, wipe_nil, wipe_cons, upd_same, ap_iEnT, ap_iEnL, ap_iZipA, ap_all, ap_tupT, ap_attF, ap_makeL, ap_att, ap_prop, ap_isO, ap_bin, ap_ne, ap_meth, ap_make, ins_inj, FE_inj, ap_slI, ap_catI, ap_perm, ap_lenO, ap_strO, ap_listO, ap_reprB, ap_iterT, ap_neT, ap_negO, ap_binI, ap_catL, ap_tM1, ap_repTI, ap_popN, ap_par3, ap_catTT, ap_repTA, ap_countT, ap_notInT, ap_repL1, ap_cm, ap_shl, ap_shr, ap_mask, ap_comb, ap_bits, ap_rng3, List.set_cons_zero, List.set_cons_succ, List.getElem?_cons_zero, List.getElem?_cons_succ, List.cons_append, List.nil_append, List.append_nil, Option.some.injEq, V.int.injEq, V.ref.injEq, V.bl.injEq, V.str.injEq, V.ty.injEq, Bool.not_true, Bool.not_false, HO.lst.injEq, HO.tup.injEq, reduceCtorEq, Int.reduceToNat, Int.reduceLT, Int.reduceLE, Nat.reduceAdd, Int.cast_ofNat_Int, gi_c0, gi_c1, gi_c2, gi_c3, Int.natCast_inj, map_int_inj, map_nil_iff, List.cons.injEq, exists_eq_left, exists_eq_left', exists_eq, exists_eq', exists_and_left, exists_and_right, exists_const, and_assoc, and_true, true_and, and_false, false_and, or_false, false_or, or_true, true_or, ite_true, ite_false, if_true, if_false, Bool.false_eq_true, own_cons, own_nil, le1, le2, le3, le4, me_cons, me_nil, List.length_map, List.length_cons, List.length_nil, ne_eq, not_false_eq_true, not_true_eq_false, decide_eq_true_eq, ha, PF_p, PF_e, sp_lead_of]
    exact ⟨es, ht, fun H1 s1 => q H1 s1⟩
def sp_PrimeForm_plain (C : Addr) : Sp := fun vs H Q _ => ∃ (a : Addr) (p : Int) (es : List Int), vs = [.ref a] ∧ PFAt C H a p es ∧ p ∈ primes ∧ 1 ≤ es.length ∧ es.length ≤ 13 ∧ md p es = es ∧ ∀ H' b, Same H H' → H b = none → PFAt C H' b p (plR p es) → Q (.ref b) H'
theorem ok_PrimeForm_plain (T : Tx K mg) : FnOk P w K mg base CX0 12 T.f_PrimeForm_plain T.d_PrimeForm_plain p_PrimeForm_plain (sp_PrimeForm_plain T.C_PrimeForm) := by
  refine T.F_PrimeForm_plain.ok sc_PrimeForm_plain (fun vs H Q E h => ?_) (fun cdv A outer s H vs Q E hr h => ?_)
  · obtain ⟨a, p, es, rfl, _⟩ := h
    rfl
  · obtain ⟨a, p, es, rfl, ⟨dx, t, ha, ht⟩, pp, l1, l2, hm, q⟩ := h
    refine ⟨_, (pss_one (ps_ret (pe_make T.mk_PrimeForm (ok_PrimeForm___init__ T) (hr.mono (by decide)) (by rfl) T.mg_PrimeForm T.b_PrimeForm___init__ .nil pass0 (pa_cons (pe_attF (pe_fld (pv 0) rfl) mono_var T.cl_PrimeForm T.no_PrimeForm_prime) (pa_cons (pe_call (ok_plain_row T) (hr.mono (by decide)) (by rfl) T.m_plain_row T.F_plain_row.kp T.b_plain_row .nil pass0 (pa_cons (pe_attF (pe_fld (pv 0) rfl) mono_var T.cl_PrimeForm T.no_PrimeForm_entries) (pa_cons (pe_attF (pe_fld (pv 0) rfl) mono_var T.cl_PrimeForm T.no_PrimeForm_prime) pa_nil))) pa_nil))))), ?_⟩
    rw [st_PrimeForm_plain]
    have pb := primes_bd pp
    have rg : ∀ n ∈ es, 0 ≤ n ∧ n < p := by
      rw [← hm]
      exact md_rg (by omega) es
    have rg2 := plR_rg (p := p) (by omega) rg
    have ln := plR_len p es
    simp only [ap_seq, ap_next, ap_asg, ap_gName, ap_ret, ap_retN, ap_drop, ap_ifS, ap_break, ap_cont, ap_par, ap_aug, ap_ip, ap_gSub, ap_gTup, ap_gNil, ap_gCons, ap_var, ap_c, ap_op, ap_un, ap_if, ap_test, ap_B, ap_and, ap_or, ap_not, ap_andV, ap_orV, ap_notV, ap_nil, ap_cons, ap_tup, ap_lst, ap_cb, ap_bm, ap_call, ap_chain, ap_rI, ap_rI0, ap_rU, ap_rEq, ap_rNe, ap_revT, ap_sl, ap_part, ap_noPart, ap_ixLI, ap_ixTI, ap_ixLV, ap_ixTV, ap_len, ap_setLI, ap_setLV, ap_appI, ap_appV, ap_tupL, ap_listS, ap_sumLI, ap_sumTI, ap_repLI, ap_intI, ap_intB, ap_eqTI, ap_neTI, ap_eqLI, ap_neLI, ap_isi, ap_for, ap_rng1, ap_rng2, ap_iList, ap_iTup, ap_lc, ap_yes, ap_cut, ap_gTupH, ap_fmt, ap_jsn, ap_jsc, ap_gcd, ap_isqrt, ap_ixL, tyV_l, wipe_nil, wipe_cons, upd_same, ap_iEnT, ap_iEnL, ap_iZipA, ap_all, ap_tupT, ap_attF, ap_makeL, ap_att, ap_prop, ap_isO, ap_bin, ap_ne, ap_meth, ap_make, ins_inj, FE_inj, ap_slI, ap_catI, ap_perm, ap_lenO, ap_strO, ap_listO, ap_reprB, ap_iterT, ap_neT, ap_negO, ap_binI, ap_catL, ap_tM1, ap_repTI, ap_popN, ap_par3, ap_catTT, ap_repTA, ap_countT, ap_notInT, ap_repL1, ap_cm, ap_shl, ap_shr, ap_mask, ap_comb, ap_bits, ap_rng3, List.set_cons_zero, List.set_cons_succ, List.getElem?_cons_zero, List.getElem?_cons_succ, List.cons_append, List.nil_append, List.append_nil, Option.some.injEq, V.int.injEq, V.ref.injEq, V.bl.injEq, V.str.injEq, V.ty.injEq, Bool.not_true, Bool.not_false, HO.lst.injEq, HO.tup.injEq, reduceCtorEq, Int.reduceToNat, Int.reduceLT, Int.reduceLE, Nat.reduceAdd, Int.cast_ofNat_Int, gi_c0, gi_c1, gi_c2, gi_c3, Int.natCast_inj, map_int_inj, map_nil_iff, List.cons.injEq, exists_eq_left, exists_eq_left', exists_eq, exists_eq', exists_and_left, exists_and_right, exists_const, and_assoc, and_true, true_and, and_false, false_and, or_false, false_or, or_true, true_or, ite_true, ite_false, if_true, if_false, Bool.false_eq_true, own_cons, own_nil, le1, le2, le3, le4, me_cons, me_nil, List.length_map, List.length_cons, List.length_nil, ne_eq, not_false_eq_true, not_true_eq_false, decide_eq_true_eq, ha, PF_p, PF_e]
    refine ⟨t, es, p, rfl, ht, by omega, rg, by omega, by omega, fun H1 r s1 er => ?_⟩
    refine newP_ok er pp ⟨by omega, by omega, fun n hn => by have := rg2 n hn; unfold Sm; omega⟩ fun b H2 s2 nb pb2 => ?_
    rw [md_id (by omega) rg2] at pb2
    exact q H2 b (s1.trans s2) (free_of s1 nb) pb2
def sp_value_at : Sp := fun vs H Q _ => ∃ (t : Addr) (es : List Int) (x y p : Int), vs = [.ref t, .int x, .int y, .int p] ∧ H t = some (TI es) ∧ 1 < p ∧ p < 1000 ∧ (∀ n ∈ es, 0 ≤ n ∧ n < p) ∧ x.natAbs ≤ 10 ^ 60 ∧ y.natAbs ≤ 10 ^ 60 ∧
  ∀ H', Same H H' → Q (.int (val es x y % p)) H'
theorem ok_value_at (T : Tx K mg) : FnOk P w K mg base CX0 1 T.f_value_at T.d_value_at p_value_at sp_value_at := by
  refine T.F_value_at.ok sc_value_at (fun vs H Q E h => ?_) (fun cdv A outer s H vs Q E hr h => ?_)
  · obtain ⟨t, es, x, y, p, rfl, _⟩ := h
    rfl
  · obtain ⟨t, es, x, y, p, rfl, ht, p1, p2, rg, bx, bY, k⟩ := h
    refine ⟨_, (pss_cons (ps_asg (pe_tup (pa_cons pe_int (pa_cons pe_int pa_nil))) (pg_tupH (n := 2) (by rfl) (pgs_cons (pg_name (i := 4) sc_value_at.nd rfl (by first | exact .inl rfl | exact .inr rfl)) (pgs_cons (pg_name (i := 5) sc_value_at.nd rfl (by first | exact .inl rfl | exact .inr rfl)) pgs_nil))))
      (pss_cons (ps_for PassesOwn.never rfl (pi_tup (pv 0)) (pg_name (i := 6) sc_value_at.nd rfl (by first | exact .inl rfl | exact .inr rfl))
      (pss_cons (ps_set (i := 4) sc_value_at.nd rfl (Or.inl rfl) (pe_op op_mod (pe_op op_add (pe_op op_mulB (pv 4) (pv 1)) (pe_op op_mulB (pv 6) (pv 5))) (pv 3)))
      (pss_one (ps_set (i := 5) sc_value_at.nd rfl (Or.inl rfl) (pe_op op_mod (pe_op op_mulB (pv 5) (pv 2)) (pv 3))))))
      (pss_one (ps_ret (pv 4))))), ?_⟩
    rw [st_value_at]
    simp only [ap_seq, ap_next, ap_asg, ap_gName, ap_ret, ap_retN, ap_drop, ap_ifS, ap_break, ap_cont, ap_par, ap_aug, ap_ip, ap_gSub, ap_gTup, ap_gNil, ap_gCons, ap_var, ap_c, ap_op, ap_un, ap_if, ap_test, ap_B, ap_and, ap_or, ap_not, ap_andV, ap_orV, ap_notV, ap_nil, ap_cons, ap_tup, ap_lst, ap_cb, ap_bm, ap_call, ap_chain, ap_rI, ap_rI0, ap_rU, ap_rEq, ap_rNe, ap_revT, ap_sl, ap_part, ap_noPart, ap_ixLI, ap_ixTI, ap_ixLV, ap_ixTV, ap_len, ap_setLI, ap_setLV, ap_appI, ap_appV, ap_tupL, ap_listS, ap_sumLI, ap_sumTI, ap_repLI, ap_intI, ap_intB, ap_eqTI, ap_neTI, ap_eqLI, ap_neLI, ap_isi, ap_for, ap_rng1, ap_rng2, ap_iList, ap_iTup, ap_lc, ap_yes, ap_cut, ap_gTupH, ap_fmt, ap_jsn, ap_jsc, ap_gcd, ap_isqrt, ap_ixL, tyV_l, wipe_nil, wipe_cons, upd_same, ap_iEnT, ap_iEnL, ap_iZipA, ap_all, ap_tupT, ap_attF, ap_makeL, ap_att, ap_prop, ap_isO, ap_bin, ap_ne, ap_meth, ap_make, ins_inj, FE_inj, ap_slI, ap_catI, ap_perm, ap_lenO, ap_strO, ap_listO, ap_reprB, ap_iterT, ap_neT, ap_negO, ap_binI, ap_catL, ap_tM1, ap_repTI, ap_popN, ap_par3, ap_catTT, ap_repTA, ap_countT, ap_notInT, ap_repL1, ap_cm, ap_shl, ap_shr, ap_mask, ap_comb, ap_bits, ap_rng3, List.set_cons_zero, List.set_cons_succ, List.getElem?_cons_zero, List.getElem?_cons_succ, List.cons_append, List.nil_append, List.append_nil, Option.some.injEq, V.int.injEq, V.ref.injEq, V.bl.injEq, V.str.injEq, V.ty.injEq, Bool.not_true, Bool.not_false, HO.lst.injEq, HO.tup.injEq, reduceCtorEq, Int.reduceToNat, Int.reduceLT, Int.reduceLE, Nat.reduceAdd, Int.cast_ofNat_Int, gi_c0, gi_c1, gi_c2, gi_c3, Int.natCast_inj, map_int_inj, map_nil_iff, List.cons.injEq, exists_eq_left, exists_eq_left', exists_eq, exists_eq', exists_and_left, exists_and_right, exists_const, and_assoc, and_true, true_and, and_false, false_and, or_false, false_or, or_true, true_or, ite_true, ite_false, if_true, if_false, Bool.false_eq_true, own_cons, own_nil, le1, le2, le3, le4, me_cons, me_nil, List.length_map, List.length_cons, List.length_nil, ne_eq, not_false_eq_true, not_true_eq_false, decide_eq_true_eq, CMu]
    refine ⟨by decide, fun u nu => ?_⟩
    have su := same_upd (o := HO.tup [V.int 0, V.int 1]) nu
    have bx' := big_of' (Nat.lt_of_le_of_lt bx (show (10 : Nat) ^ 60 < 2 ^ 4000 by decide +kernel))
    have by' := big_of' (Nat.lt_of_le_of_lt bY (show (10 : Nat) ^ 60 < 2 ^ 4000 by decide +kernel))
    refine ⟨⟨_, sqT_of (su _ _ ht)⟩, loop_gen (gives_tup (xs := es.map V.int)) (fun i σ' H' => (∃ z a b, σ' = [some (.ref t), some (.int x), some (.int y), some (.int p), some (.int a), some (.int b), z] ∧ a = val (es.take i) x y % p ∧ b % p = y ^ i % p ∧ 0 ≤ b ∧ b < p) ∧ Same H H') ⟨⟨none, 0, 1, rfl, by rw [List.take_zero, val_nil, Int.zero_emod], by rw [Int.pow_zero], by omega, by omega⟩, su⟩ (fun i σ' H' _ hP => hP.2 _ _ ht) (fun i v σ' H' H'' hi hP hy => ?_) (fun σ' H' hP => ?_)⟩
    · obtain ⟨⟨z, a, b, e, ea, eb, b0, b1⟩, sm⟩ := hP
      obtain ⟨rfl, hv⟩ := hy
      obtain ⟨n, rfl, en⟩ := at_int hv
      subst e
      rw [List.length_map] at hi
      have bn := rg n (List.mem_of_getElem? en)
      have a0 : 0 ≤ a ∧ a < p := by
        rw [ea]
        exact ⟨Int.emod_nonneg _ (by omega), Int.emod_lt_of_pos _ (by omega)⟩
      simp only [ap_seq, ap_next, ap_asg, ap_gName, ap_ret, ap_retN, ap_drop, ap_ifS, ap_break, ap_cont, ap_par, ap_aug, ap_ip, ap_gSub, ap_gTup, ap_gNil, ap_gCons, ap_var, ap_c, ap_op, ap_un, ap_if, ap_test, ap_B, ap_and, ap_or, ap_not, ap_andV, ap_orV, ap_notV, ap_nil, ap_cons, ap_tup, ap_lst, ap_cb, ap_bm, ap_call, ap_chain, ap_rI, ap_rI0, ap_rU, ap_rEq, ap_rNe, ap_revT, ap_sl, ap_part, ap_noPart, ap_ixLI, ap_ixTI, ap_ixLV, ap_ixTV, ap_len, ap_setLI, ap_setLV, ap_appI, ap_appV, ap_tupL, ap_listS, ap_sumLI, ap_sumTI, ap_repLI, ap_intI, ap_intB, ap_eqTI, ap_neTI, ap_eqLI, ap_neLI, ap_isi, ap_for, ap_rng1, ap_rng2, ap_iList, ap_iTup, ap_lc, ap_yes, ap_cut, ap_gTupH, ap_fmt, ap_jsn, ap_jsc, ap_gcd, ap_isqrt, ap_ixL, tyV_l, wipe_nil, wipe_cons, upd_same, ap_iEnT, ap_iEnL, ap_iZipA, ap_all, ap_tupT, ap_attF, ap_makeL, ap_att, ap_prop, ap_isO, ap_bin, ap_ne, ap_meth, ap_make, ins_inj, FE_inj, ap_slI, ap_catI, ap_perm, ap_lenO, ap_strO, ap_listO, ap_reprB, ap_iterT, ap_neT, ap_negO, ap_binI, ap_catL, ap_tM1, ap_repTI, ap_popN, ap_par3, ap_catTT, ap_repTA, ap_countT, ap_notInT, ap_repL1, ap_cm, ap_shl, ap_shr, ap_mask, ap_comb, ap_bits, ap_rng3, List.set_cons_zero, List.set_cons_succ, List.getElem?_cons_zero, List.getElem?_cons_succ, List.cons_append, List.nil_append, List.append_nil, Option.some.injEq, V.int.injEq, V.ref.injEq, V.bl.injEq, V.str.injEq, V.ty.injEq, Bool.not_true, Bool.not_false, HO.lst.injEq, HO.tup.injEq, reduceCtorEq, Int.reduceToNat, Int.reduceLT, Int.reduceLE, Nat.reduceAdd, Int.cast_ofNat_Int, gi_c0, gi_c1, gi_c2, gi_c3, Int.natCast_inj, map_int_inj, map_nil_iff, List.cons.injEq, exists_eq_left, exists_eq_left', exists_eq, exists_eq', exists_and_left, exists_and_right, exists_const, and_assoc, and_true, true_and, and_false, false_and, or_false, false_or, or_true, true_or, ite_true, ite_false, if_true, if_false, Bool.false_eq_true, own_cons, own_nil, le1, le2, le3, le4, me_cons, me_nil, List.length_map, List.length_cons, List.length_nil, ne_eq, not_false_eq_true, not_true_eq_false, decide_eq_true_eq, CMu]
      have et : es.take (i + 1) = es.take i ++ [n] := by rw [List.take_succ, en]; rfl
      have lt : (es.take i).length = i := by rw [List.length_take]; omega
      refine ⟨by omega, by omega, bx'.1, bx'.2, by omega, by omega, by omega, by omega, by omega, by omega, by omega, by'.1, by'.2, by omega, ?_, ?_, Int.emod_nonneg _ (by omega), Int.emod_lt_of_pos _ (by omega), sm⟩
      · rw [et, val_snoc, lt, Int.mul_comm (y ^ i)]
        exact ad_mod (mu_mod (by rw [ea, mm]) rfl) (mu_mod rfl eb)
      · rw [mm, Int.pow_succ]
        exact mu_mod eb rfl
    · obtain ⟨⟨z, a, b, e, ea, eb, b0, b1⟩, sm⟩ := hP
      subst e
      rw [List.length_map, List.take_length] at ea
      simp only [ap_seq, ap_next, ap_asg, ap_gName, ap_ret, ap_retN, ap_drop, ap_ifS, ap_break, ap_cont, ap_par, ap_aug, ap_ip, ap_gSub, ap_gTup, ap_gNil, ap_gCons, ap_var, ap_c, ap_op, ap_un, ap_if, ap_test, ap_B, ap_and, ap_or, ap_not, ap_andV, ap_orV, ap_notV, ap_nil, ap_cons, ap_tup, ap_lst, ap_cb, ap_bm, ap_call, ap_chain, ap_rI, ap_rI0, ap_rU, ap_rEq, ap_rNe, ap_revT, ap_sl, ap_part, ap_noPart, ap_ixLI, ap_ixTI, ap_ixLV, ap_ixTV, ap_len, ap_setLI, ap_setLV, ap_appI, ap_appV, ap_tupL, ap_listS, ap_sumLI, ap_sumTI, ap_repLI, ap_intI, ap_intB, ap_eqTI, ap_neTI, ap_eqLI, ap_neLI, ap_isi, ap_for, ap_rng1, ap_rng2, ap_iList, ap_iTup, ap_lc, ap_yes, ap_cut, ap_gTupH, ap_fmt, ap_jsn, ap_jsc, ap_gcd, ap_isqrt, ap_ixL, tyV_l, wipe_nil, wipe_cons, upd_same, ap_iEnT, ap_iEnL, ap_iZipA, ap_all, ap_tupT, ap_attF, ap_makeL, ap_att, ap_prop, ap_isO, ap_bin, ap_ne, ap_meth, ap_make, ins_inj, FE_inj, ap_slI, ap_catI, ap_perm, ap_lenO, ap_strO, ap_listO, ap_reprB, ap_iterT, ap_neT, ap_negO, ap_binI, ap_catL, ap_tM1, ap_repTI, ap_popN, ap_par3, ap_catTT, ap_repTA, ap_countT, ap_notInT, ap_repL1, ap_cm, ap_shl, ap_shr, ap_mask, ap_comb, ap_bits, ap_rng3, List.set_cons_zero, List.set_cons_succ, List.getElem?_cons_zero, List.getElem?_cons_succ, List.cons_append, List.nil_append, List.append_nil, Option.some.injEq, V.int.injEq, V.ref.injEq, V.bl.injEq, V.str.injEq, V.ty.injEq, Bool.not_true, Bool.not_false, HO.lst.injEq, HO.tup.injEq, reduceCtorEq, Int.reduceToNat, Int.reduceLT, Int.reduceLE, Nat.reduceAdd, Int.cast_ofNat_Int, gi_c0, gi_c1, gi_c2, gi_c3, Int.natCast_inj, map_int_inj, map_nil_iff, List.cons.injEq, exists_eq_left, exists_eq_left', exists_eq, exists_eq', exists_and_left, exists_and_right, exists_const, and_assoc, and_true, true_and, and_false, false_and, or_false, false_or, or_true, true_or, ite_true, ite_false, if_true, if_false, Bool.false_eq_true, own_cons, own_nil, le1, le2, le3, le4, me_cons, me_nil, List.length_map, List.length_cons, List.length_nil, ne_eq, not_false_eq_true, not_true_eq_false, decide_eq_true_eq]
      rw [ea]
      exact k H' sm
def sp_PrimeForm_value (C : Addr) : Sp := fun vs H Q _ => ∃ (a : Addr) (p x y : Int) (es : List Int), vs = [.ref a, .int x, .int y] ∧ PFAt C H a p es ∧ 1 < p ∧ p < 1000 ∧ (∀ n ∈ es, 0 ≤ n ∧ n < p) ∧ Sm x ∧ Sm y ∧ ∀ H', Same H H' → Q (.int (val es x y % p)) H'
theorem ok_PrimeForm_value (T : Tx K mg) : FnOk P w K mg base CX0 4 T.f_PrimeForm_value T.d_PrimeForm_value p_PrimeForm_value (sp_PrimeForm_value T.C_PrimeForm) := by
  refine T.F_PrimeForm_value.ok sc_PrimeForm_value (fun vs H Q E h => ?_) (fun cdv A outer s H vs Q E hr h => ?_)
  · obtain ⟨a, p, x, y, es, rfl, _⟩ := h
    rfl
  · obtain ⟨a, p, x, y, es, rfl, ⟨dx, t, ha, ht⟩, p1, p2, rg, bx, bY, q⟩ := h
    refine ⟨_, (pss_cons (ps_if (pt_not (pt_val (pe_call (ok_is_integer T) (hr.mono (by decide)) (by rfl) T.m_is_integer T.F_is_integer.kp T.b_is_integer .nil pass0 (pa_cons (pv 1) pa_nil)))) (pss_one ps_never) pss_nil)
      (pss_cons (ps_if (pt_not (pt_val (pe_call (ok_is_integer T) (hr.mono (by decide)) (by rfl) T.m_is_integer T.F_is_integer.kp T.b_is_integer .nil pass0 (pa_cons (pv 2) pa_nil)))) (pss_one ps_never) pss_nil)
      (pss_one (ps_ret (pe_call (ok_value_at T) (hr.mono (by decide)) (by rfl) T.m_value_at T.F_value_at.kp T.b_value_at .nil pass0 (pa_cons (pe_attF (pe_fld (pv 0) rfl) mono_var T.cl_PrimeForm T.no_PrimeForm_entries) (pa_cons (pv 1) (pa_cons (pv 2) (pa_cons (pe_attF (pe_fld (pv 0) rfl) mono_var T.cl_PrimeForm T.no_PrimeForm_prime) pa_nil))))))))), ?_⟩
    rw [st_PrimeForm_value]
    have ix : isI (.int x) = true := decide_eq_true bx
    have iy : isI (.int y) = true := decide_eq_true bY
    simp only [ap_seq, ap_next, ap_asg, ap_gName, ap_ret, ap_retN, ap_drop, ap_ifS, ap_break, ap_cont, ap_par, ap_aug, ap_ip, ap_gSub, ap_gTup, ap_gNil, ap_gCons, ap_var, ap_c, ap_op, ap_un, ap_if, ap_test, ap_B, ap_and, ap_or, ap_not, ap_andV, ap_orV, ap_notV, ap_nil, ap_cons, ap_tup, ap_lst, ap_cb, ap_bm, ap_call, ap_chain, ap_rI, ap_rI0, ap_rU, ap_rEq, ap_rNe, ap_revT, ap_sl, ap_part, ap_noPart, ap_ixLI, ap_ixTI, ap_ixLV, ap_ixTV, ap_len, ap_setLI, ap_setLV, ap_appI, ap_appV, ap_tupL, ap_listS, ap_sumLI, ap_sumTI, ap_repLI, ap_intI, ap_intB, ap_eqTI, ap_neTI, ap_eqLI, ap_neLI, ap_isi, ap_for, ap_rng1, ap_rng2, ap_iList, ap_iTup, ap_lc, ap_yes, ap_cut, ap_gTupH, ap_fmt, ap_jsn, ap_jsc, ap_gcd, ap_isqrt, ap_ixL, tyV_l, wipe_nil, wipe_cons, upd_same, ap_iEnT, ap_iEnL, ap_iZipA, ap_all, ap_tupT, ap_attF, ap_makeL, ap_att, ap_prop, ap_isO, ap_bin, ap_ne, ap_meth, ap_make, ins_inj, FE_inj, ap_slI, ap_catI, ap_perm, ap_lenO, ap_strO, ap_listO, ap_reprB, ap_iterT, ap_neT, ap_negO, ap_binI, ap_catL, ap_tM1, ap_repTI, ap_popN, ap_par3, ap_catTT, ap_repTA, ap_countT, ap_notInT, ap_repL1, ap_cm, ap_shl, ap_shr, ap_mask, ap_comb, ap_bits, ap_rng3, List.set_cons_zero, List.set_cons_succ, List.getElem?_cons_zero, List.getElem?_cons_succ, List.cons_append, List.nil_append, List.append_nil, Option.some.injEq, V.int.injEq, V.ref.injEq, V.bl.injEq, V.str.injEq, V.ty.injEq, Bool.not_true, Bool.not_false, HO.lst.injEq, HO.tup.injEq, reduceCtorEq, Int.reduceToNat, Int.reduceLT, Int.reduceLE, Nat.reduceAdd, Int.cast_ofNat_Int, gi_c0, gi_c1, gi_c2, gi_c3, Int.natCast_inj, map_int_inj, map_nil_iff, List.cons.injEq, exists_eq_left, exists_eq_left', exists_eq, exists_eq', exists_and_left, exists_and_right, exists_const, and_assoc, and_true, true_and, and_false, false_and, or_false, false_or, or_true, true_or, ite_true, ite_false, if_true, if_false, Bool.false_eq_true, own_cons, own_nil, le1, le2, le3, le4, me_cons, me_nil, List.length_map, List.length_cons, List.length_nil, ne_eq, not_false_eq_true, not_true_eq_false, decide_eq_true_eq, sp_is_integer, ty_int, ix, iy, ha, PF_p, PF_e]
    have sa : ∀ {n : Int}, Sm n → n.natAbs ≤ 10 ^ 60 := fun {n} h => by unfold Sm at h; omega
    exact ⟨t, es, x, y, p, rfl, ht, p1, p2, rg, sa bx, sa bY, q⟩
def sp_changed_modulo : Sp := fun vs H Q _ => ∃ (t u : Addr) (es : List Int) (a b c d p : Int), vs = [.ref t, .ref u, .int p] ∧ H t = some (TI es) ∧ TabAt H u a b c d ∧ 1 ≤ es.length ∧ es.length ≤ 13 ∧ (∀ n ∈ es, 0 ≤ n ∧ n < p) ∧ Sm a ∧ Sm b ∧ Sm c ∧ Sm d ∧ 1 < p ∧ p < 1000 ∧
  ∀ H' r, Same H H' → H' r = some (TI (md p (chP [a, b] [c, d] es))) → Q (.ref r) H'
theorem ok_changed_modulo (T : Tx K mg) : FnOk P w K mg base CX0 8 T.f_changed_modulo T.d_changed_modulo p_changed_modulo sp_changed_modulo := by
  refine T.F_changed_modulo.ok sc_changed_modulo (fun vs H Q E h => ?_) (fun cdv A outer s H vs Q E hr h => ?_)
  · obtain ⟨t, u, es, a, b, c, d, p, rfl, _⟩ := h
    rfl
  · obtain ⟨t, u, es, a, b, c, d, p, rfl, ht, ⟨r1, r2, h1, h2, h3⟩, ln1, ln2, rg, ba, bb, bc, bd, p1, p2, k⟩ := h
    refine ⟨_, (pss_cons (ps_set (i := 3) sc_changed_modulo.nd rfl (Or.inl rfl) (pe_tup (pa_cons (pe_call (ok_modulo T) (hr.mono (by decide)) (by rfl) T.m_modulo T.F_modulo.kp T.b_modulo .nil pass0 (pa_cons (pe_ix ix_TV (pv 1) pe_int (fun _ _ => rfl)) (pa_cons (pv 2) pa_nil))) (pa_cons (pe_call (ok_modulo T) (hr.mono (by decide)) (by rfl) T.m_modulo T.F_modulo.kp T.b_modulo .nil pass0 (pa_cons (pe_ix ix_TV (pv 1) pe_int (fun _ _ => rfl)) (pa_cons (pv 2) pa_nil))) pa_nil))))
      (pss_one (ps_ret (pe_call (ok_modulo T) (hr.mono (by decide)) (by rfl) T.m_modulo T.F_modulo.kp T.b_modulo .nil pass0 (pa_cons (pe_call (ok_changed_row T) (hr.mono (by decide)) (by rfl) T.m_changed_row T.F_changed_row.kp T.b_changed_row .nil pass0 (pa_cons (pv 0) (pa_cons (pv 3) pa_nil))) (pa_cons (pv 2) pa_nil)))))), ?_⟩
    rw [st_changed_modulo]
    simp only [ap_seq, ap_next, ap_asg, ap_gName, ap_ret, ap_retN, ap_drop, ap_ifS, ap_break, ap_cont, ap_par, ap_aug, ap_ip, ap_gSub, ap_gTup, ap_gNil, ap_gCons, ap_var, ap_c, ap_op, ap_un, ap_if, ap_test, ap_B, ap_and, ap_or, ap_not, ap_andV, ap_orV, ap_notV, ap_nil, ap_cons, ap_tup, ap_lst, ap_cb, ap_bm, ap_call, ap_chain, ap_rI, ap_rI0, ap_rU, ap_rEq, ap_rNe, ap_revT, ap_sl, ap_part, ap_noPart, ap_ixLI, ap_ixTI, ap_ixLV, ap_ixTV, ap_len, ap_setLI, ap_setLV, ap_appI, ap_appV, ap_tupL, ap_listS, ap_sumLI, ap_sumTI, ap_repLI, ap_intI, ap_intB, ap_eqTI, ap_neTI, ap_eqLI, ap_neLI, ap_isi, ap_for, ap_rng1, ap_rng2, ap_iList, ap_iTup, ap_lc, ap_yes, ap_cut, ap_gTupH, ap_fmt, ap_jsn, ap_jsc, ap_gcd, ap_isqrt, ap_ixL, tyV_l, wipe_nil, wipe_cons, upd_same, ap_iEnT, ap_iEnL, ap_iZipA, ap_all, ap_tupT, ap_attF, ap_makeL, ap_att, ap_prop, ap_isO, ap_bin, ap_ne, ap_meth, ap_make, ins_inj, FE_inj, ap_slI, ap_catI, ap_perm, ap_lenO, ap_strO, ap_listO, ap_reprB, ap_iterT, ap_neT, ap_negO, ap_binI, ap_catL, ap_tM1, ap_repTI, ap_popN, ap_par3, ap_catTT, ap_repTA, ap_countT, ap_notInT, ap_repL1, ap_cm, ap_shl, ap_shr, ap_mask, ap_comb, ap_bits, ap_rng3, List.set_cons_zero, List.set_cons_succ, List.getElem?_cons_zero, List.getElem?_cons_succ, List.cons_append, List.nil_append, List.append_nil, Option.some.injEq, V.int.injEq, V.ref.injEq, V.bl.injEq, V.str.injEq, V.ty.injEq, Bool.not_true, Bool.not_false, HO.lst.injEq, HO.tup.injEq, reduceCtorEq, Int.reduceToNat, Int.reduceLT, Int.reduceLE, Nat.reduceAdd, Int.cast_ofNat_Int, gi_c0, gi_c1, gi_c2, gi_c3, Int.natCast_inj, map_int_inj, map_nil_iff, List.cons.injEq, exists_eq_left, exists_eq_left', exists_eq, exists_eq', exists_and_left, exists_and_right, exists_const, and_assoc, and_true, true_and, and_false, false_and, or_false, false_or, or_true, true_or, ite_true, ite_false, if_true, if_false, Bool.false_eq_true, own_cons, own_nil, le1, le2, le3, le4, me_cons, me_nil, List.length_map, List.length_cons, List.length_nil, ne_eq, not_false_eq_true, not_true_eq_false, decide_eq_true_eq, h1]
    have w2 : ∀ {m n : Int}, Sm m → Sm n → ∀ z ∈ [m, n], Wd z := fun hm hn z hz => by
      simp only [List.mem_cons, List.not_mem_nil, or_false] at hz
      rcases hz with rfl | rfl
      · exact hm.wd
      · exact hn.wd
    refine ⟨_, atI_nat (j := 0) rfl, r1, [a, b], p, rfl, .inr h2, by show 2 < 1000; omega, w2 ba bb, by omega, p2, fun H1 q1 s1 n1 e1 => ⟨_, s1 _ _ h1, _, atI_nat (j := 1) rfl, r2, [c, d], p, rfl, .inr (s1 _ _ h3), by show 2 < 1000; omega, w2 bc bd, by omega, p2, fun H2 q2 s2 n2 e2 => ⟨by decide, fun z nz => ?_⟩⟩⟩
    have sz' := same_upd (o := HO.tup [V.ref q1, V.ref q2]) nz
    have S2 := (s1.trans s2).trans sz'
    have mb : ∀ n : Int, (n % p).natAbs ≤ 1000 := fun n => by
      have := Int.emod_nonneg n (show p ≠ 0 by omega)
      have := Int.emod_lt_of_pos n (show 0 < p by omega)
      omega
    have l2m : ∀ m n : Int, l1 [m % p, n % p] ≤ 2000 := fun m n => by
      have := mb m
      have := mb n
      show (m % p).natAbs + ((n % p).natAbs + 0) ≤ 2000
      omega
    have cg : Chg es [a % p, b % p] [c % p, d % p] 1000 2000 := ⟨by omega, by omega, fun n hn => by have := rg n hn; omega, by decide, rfl, rfl, l2m a b, l2m c d, by omega, Nat.lt_of_le_of_lt (Nat.pow_le_pow_right (by omega) ln2) (by decide)⟩
    refine ⟨t, z, es, a % p, b % p, c % p, d % p, 1000, 2000, rfl, S2 _ _ ht, ⟨q1, q2, upd_same, sz' _ _ (s2 _ _ e1), sz' _ _ e2⟩, cg, fun H3 r s3 er br => ?_⟩
    have lc : (chP [a % p, b % p] [c % p, d % p] es).length = es.length := chP_len rfl rfl (by omega)
    refine ⟨r, _, p, rfl, .inr er, by omega, fun n hn => wd_of (Nat.lt_of_le_of_lt (Nat.le_trans (br n hn) (Nat.mul_le_mul (Nat.mul_le_mul_right _ ln2) (Nat.pow_le_pow_right (by omega) (show es.length - 1 ≤ 12 by omega)))) (by decide +kernel)), by omega, p2, fun H4 r2 s4 n4 e4 => ?_⟩
    refine k H4 r2 ((S2.trans s3).trans s4) ?_
    have em : md p (chP [a % p, b % p] [c % p, d % p] es) = md p (chP [a, b] [c, d] es) := md_chP (md_md p [a, b]) (md_md p [c, d]) rfl
    rw [← em]
    exact e4
end
end My
namespace My
open PySem PySem.Spec PyProof.Rows L2 Pr
section
variable {P : Program} {w : World} {K : PySem.W.Frag} {mg : Str → Option Value} {base : Heap}
def sp_need_form (C : Addr) : Sp := fun vs H Q _ => ∃ (p dx t : Addr), vs = [.ref p] ∧ H p = some (.ins C dx (FEe t)) ∧ Q .non H
theorem ok_need_form (T : Tx K mg) : FnOk P w K mg base CX0 2 T.f_need_form T.d_need_form p_need_form (sp_need_form T.C_Form) := by
  refine T.F_need_form.ok sc_need_form (fun vs H Q E h => ?_) (fun cdv A outer s H vs Q E hr h => ?_)
  · obtain ⟨p, dx, t, rfl, _⟩ := h
    rfl
  · obtain ⟨p, dx, t, rfl, hp, q⟩ := h
    refine ⟨_, (pss_one (ps_if (pt_not (pt_val (pe_callB (cr_isO (isC T)) (by rfl) T.z_isinstance (by decide +kernel) (pa_cons (pv 0) (pa_cons (pe_glob (v := .ref T.C_Form) (by rfl) T.mg_Form rfl) pa_nil))))) (pss_one ps_never) pss_nil)), ?_⟩
    rw [st_need_form]
    simp only [ap_seq, ap_next, ap_asg, ap_gName, ap_ret, ap_retN, ap_drop, ap_ifS, ap_break, ap_cont, ap_par, ap_aug, ap_ip, ap_gSub, ap_gTup, ap_gNil, ap_gCons, ap_var, ap_c, ap_op, ap_un, ap_if, ap_test, ap_B, ap_and, ap_or, ap_not, ap_andV, ap_orV, ap_notV, ap_nil, ap_cons, ap_tup, ap_lst, ap_cb, ap_bm, ap_call, ap_chain, ap_rI, ap_rI0, ap_rU, ap_rEq, ap_rNe, ap_revT, ap_sl, ap_part, ap_noPart, ap_ixLI, ap_ixTI, ap_ixLV, ap_ixTV, ap_len, ap_setLI, ap_setLV, ap_appI, ap_appV, ap_tupL, ap_listS, ap_sumLI, ap_sumTI, ap_repLI, ap_intI, ap_intB, ap_eqTI, ap_neTI, ap_eqLI, ap_neLI, ap_isi, ap_for, ap_rng1, ap_rng2, ap_iList, ap_iTup, ap_lc, ap_yes, ap_cut, ap_gTupH, ap_fmt, ap_jsn, ap_jsc, ap_gcd, ap_isqrt, ap_ixL, tyV_l, wipe_nil, wipe_cons, upd_same, ap_iEnT, ap_iEnL, ap_iZipA, ap_all, ap_tupT, ap_attF, ap_makeL, ap_att, ap_prop, ap_isO, ap_bin, ap_ne, ap_meth, ap_make, ins_inj, FE_inj, ap_slI, ap_catI, ap_perm, ap_lenO, ap_strO, ap_listO, ap_reprB, ap_iterT, ap_neT, ap_negO, ap_binI, ap_catL, ap_tM1, ap_repTI, ap_popN, ap_par3, ap_catTT, ap_repTA, ap_countT, ap_notInT, ap_repL1, ap_cm, ap_shl, ap_shr, ap_mask, ap_comb, ap_bits, ap_rng3, List.set_cons_zero, List.set_cons_succ, List.getElem?_cons_zero, List.getElem?_cons_succ, List.cons_append, List.nil_append, List.append_nil, Option.some.injEq, V.int.injEq, V.ref.injEq, V.bl.injEq, V.str.injEq, V.ty.injEq, Bool.not_true, Bool.not_false, HO.lst.injEq, HO.tup.injEq, reduceCtorEq, Int.reduceToNat, Int.reduceLT, Int.reduceLE, Nat.reduceAdd, Int.cast_ofNat_Int, gi_c0, gi_c1, gi_c2, gi_c3, Int.natCast_inj, map_int_inj, map_nil_iff, List.cons.injEq, exists_eq_left, exists_eq_left', exists_eq, exists_eq', exists_and_left, exists_and_right, exists_const, and_assoc, and_true, true_and, and_false, false_and, or_false, false_or, or_true, true_or, ite_true, ite_false, if_true, if_false, Bool.false_eq_true, own_cons, own_nil, le1, le2, le3, le4, me_cons, me_nil, List.length_map, List.length_cons, List.length_nil, ne_eq, not_false_eq_true, not_true_eq_false, decide_eq_true_eq]
    refine ⟨true, .obj hp, ?_⟩
    simp only [ap_seq, ap_next, ap_asg, ap_gName, ap_ret, ap_retN, ap_drop, ap_ifS, ap_break, ap_cont, ap_par, ap_aug, ap_ip, ap_gSub, ap_gTup, ap_gNil, ap_gCons, ap_var, ap_c, ap_op, ap_un, ap_if, ap_test, ap_B, ap_and, ap_or, ap_not, ap_andV, ap_orV, ap_notV, ap_nil, ap_cons, ap_tup, ap_lst, ap_cb, ap_bm, ap_call, ap_chain, ap_rI, ap_rI0, ap_rU, ap_rEq, ap_rNe, ap_revT, ap_sl, ap_part, ap_noPart, ap_ixLI, ap_ixTI, ap_ixLV, ap_ixTV, ap_len, ap_setLI, ap_setLV, ap_appI, ap_appV, ap_tupL, ap_listS, ap_sumLI, ap_sumTI, ap_repLI, ap_intI, ap_intB, ap_eqTI, ap_neTI, ap_eqLI, ap_neLI, ap_isi, ap_for, ap_rng1, ap_rng2, ap_iList, ap_iTup, ap_lc, ap_yes, ap_cut, ap_gTupH, ap_fmt, ap_jsn, ap_jsc, ap_gcd, ap_isqrt, ap_ixL, tyV_l, wipe_nil, wipe_cons, upd_same, ap_iEnT, ap_iEnL, ap_iZipA, ap_all, ap_tupT, ap_attF, ap_makeL, ap_att, ap_prop, ap_isO, ap_bin, ap_ne, ap_meth, ap_make, ins_inj, FE_inj, ap_slI, ap_catI, ap_perm, ap_lenO, ap_strO, ap_listO, ap_reprB, ap_iterT, ap_neT, ap_negO, ap_binI, ap_catL, ap_tM1, ap_repTI, ap_popN, ap_par3, ap_catTT, ap_repTA, ap_countT, ap_notInT, ap_repL1, ap_cm, ap_shl, ap_shr, ap_mask, ap_comb, ap_bits, ap_rng3, List.set_cons_zero, List.set_cons_succ, List.getElem?_cons_zero, List.getElem?_cons_succ, List.cons_append, List.nil_append, List.append_nil, Option.some.injEq, V.int.injEq, V.ref.injEq, V.bl.injEq, V.str.injEq, V.ty.injEq, Bool.not_true, Bool.not_false, HO.lst.injEq, HO.tup.injEq, reduceCtorEq, Int.reduceToNat, Int.reduceLT, Int.reduceLE, Nat.reduceAdd, Int.cast_ofNat_Int, gi_c0, gi_c1, gi_c2, gi_c3, Int.natCast_inj, map_int_inj, map_nil_iff, List.cons.injEq, exists_eq_left, exists_eq_left', exists_eq, exists_eq', exists_and_left, exists_and_right, exists_const, and_assoc, and_true, true_and, and_false, false_and, or_false, false_or, or_true, true_or, ite_true, ite_false, if_true, if_false, Bool.false_eq_true, own_cons, own_nil, le1, le2, le3, le4, me_cons, me_nil, List.length_map, List.length_cons, List.length_nil, ne_eq, not_false_eq_true, not_true_eq_false, decide_eq_true_eq]
    exact q
def sp_PrimeForm_changed (C : Addr) : Sp := fun vs H Q _ => ∃ (f u : Addr) (es : List Int) (a b c d p : Int), vs = [.ref f, .ref u] ∧ PFAt C H f p es ∧ TabAt H u a b c d ∧ T4 a b c d ∧ (a * d - b * c) % p ≠ 0 ∧ p ∈ primes ∧ 1 ≤ es.length ∧ es.length ≤ 13 ∧ md p es = es ∧
  ∀ H' r, Same H H' → H r = none → PFAt C H' r p (md p (chP [a, b] [c, d] es)) → Q (.ref r) H'
theorem ok_PrimeForm_changed (T : Tx K mg) : FnOk P w K mg base CX0 14 T.f_PrimeForm_changed T.d_PrimeForm_changed p_PrimeForm_changed (sp_PrimeForm_changed T.C_PrimeForm) := by
  refine T.F_PrimeForm_changed.ok sc_PrimeForm_changed (fun vs H Q E h => ?_) (fun cdv A outer s H vs Q E hr h => ?_)
  · obtain ⟨f, u, es, a, b, c, d, p, rfl, _⟩ := h
    rfl
  · obtain ⟨f, u, es, a, b, c, d, p, rfl, ⟨dx, t, hf, ht⟩, hu, h4, hd, pp, l1, l2, hm, k⟩ := h
    refine ⟨_, (pss_cons (ps_expr (pe_call (ok_need_prime_table T) (hr.mono (by decide)) (by rfl) T.m_need_prime_table T.F_need_prime_table.kp T.b_need_prime_table .nil pass0 (pa_cons (pv 1) (pa_cons (pe_attF (pe_fld (pv 0) rfl) mono_var T.cl_PrimeForm T.no_PrimeForm_prime) pa_nil))))
      (pss_one (ps_ret (pe_make T.mk_PrimeForm (ok_PrimeForm___init__ T) (hr.mono (by decide)) (by rfl) T.mg_PrimeForm T.b_PrimeForm___init__ .nil pass0 (pa_cons (pe_attF (pe_fld (pv 0) rfl) mono_var T.cl_PrimeForm T.no_PrimeForm_prime) (pa_cons (pe_call (ok_changed_modulo T) (hr.mono (by decide)) (by rfl) T.m_changed_modulo T.F_changed_modulo.kp T.b_changed_modulo .nil pass0 (pa_cons (pe_attF (pe_fld (pv 0) rfl) mono_var T.cl_PrimeForm T.no_PrimeForm_entries) (pa_cons (pv 1) (pa_cons (pe_attF (pe_fld (pv 0) rfl) mono_var T.cl_PrimeForm T.no_PrimeForm_prime) pa_nil)))) pa_nil)))))), ?_⟩
    rw [st_PrimeForm_changed]
    have pb := primes_bd pp
    simp only [ap_seq, ap_next, ap_asg, ap_gName, ap_ret, ap_retN, ap_drop, ap_ifS, ap_break, ap_cont, ap_par, ap_aug, ap_ip, ap_gSub, ap_gTup, ap_gNil, ap_gCons, ap_var, ap_c, ap_op, ap_un, ap_if, ap_test, ap_B, ap_and, ap_or, ap_not, ap_andV, ap_orV, ap_notV, ap_nil, ap_cons, ap_tup, ap_lst, ap_cb, ap_bm, ap_call, ap_chain, ap_rI, ap_rI0, ap_rU, ap_rEq, ap_rNe, ap_revT, ap_sl, ap_part, ap_noPart, ap_ixLI, ap_ixTI, ap_ixLV, ap_ixTV, ap_len, ap_setLI, ap_setLV, ap_appI, ap_appV, ap_tupL, ap_listS, ap_sumLI, ap_sumTI, ap_repLI, ap_intI, ap_intB, ap_eqTI, ap_neTI, ap_eqLI, ap_neLI, ap_isi, ap_for, ap_rng1, ap_rng2, ap_iList, ap_iTup, ap_lc, ap_yes, ap_cut, ap_gTupH, ap_fmt, ap_jsn, ap_jsc, ap_gcd, ap_isqrt, ap_ixL, tyV_l, wipe_nil, wipe_cons, upd_same, ap_iEnT, ap_iEnL, ap_iZipA, ap_all, ap_tupT, ap_attF, ap_makeL, ap_att, ap_prop, ap_isO, ap_bin, ap_ne, ap_meth, ap_make, ins_inj, FE_inj, ap_slI, ap_catI, ap_perm, ap_lenO, ap_strO, ap_listO, ap_reprB, ap_iterT, ap_neT, ap_negO, ap_binI, ap_catL, ap_tM1, ap_repTI, ap_popN, ap_par3, ap_catTT, ap_repTA, ap_countT, ap_notInT, ap_repL1, ap_cm, ap_shl, ap_shr, ap_mask, ap_comb, ap_bits, ap_rng3, List.set_cons_zero, List.set_cons_succ, List.getElem?_cons_zero, List.getElem?_cons_succ, List.cons_append, List.nil_append, List.append_nil, Option.some.injEq, V.int.injEq, V.ref.injEq, V.bl.injEq, V.str.injEq, V.ty.injEq, Bool.not_true, Bool.not_false, HO.lst.injEq, HO.tup.injEq, reduceCtorEq, Int.reduceToNat, Int.reduceLT, Int.reduceLE, Nat.reduceAdd, Int.cast_ofNat_Int, gi_c0, gi_c1, gi_c2, gi_c3, Int.natCast_inj, map_int_inj, map_nil_iff, List.cons.injEq, exists_eq_left, exists_eq_left', exists_eq, exists_eq', exists_and_left, exists_and_right, exists_const, and_assoc, and_true, true_and, and_false, false_and, or_false, false_or, or_true, true_or, ite_true, ite_false, if_true, if_false, Bool.false_eq_true, own_cons, own_nil, le1, le2, le3, le4, me_cons, me_nil, List.length_map, List.length_cons, List.length_nil, ne_eq, not_false_eq_true, not_true_eq_false, decide_eq_true_eq, hf, PF_p, PF_e]
    refine ⟨u, a, b, c, d, p, rfl, hu, h4, hd, by omega, by omega, fun H1 s1 => ?_⟩
    have hf1 := s1 _ _ hf
    simp only [ap_seq, ap_next, ap_asg, ap_gName, ap_ret, ap_retN, ap_drop, ap_ifS, ap_break, ap_cont, ap_par, ap_aug, ap_ip, ap_gSub, ap_gTup, ap_gNil, ap_gCons, ap_var, ap_c, ap_op, ap_un, ap_if, ap_test, ap_B, ap_and, ap_or, ap_not, ap_andV, ap_orV, ap_notV, ap_nil, ap_cons, ap_tup, ap_lst, ap_cb, ap_bm, ap_call, ap_chain, ap_rI, ap_rI0, ap_rU, ap_rEq, ap_rNe, ap_revT, ap_sl, ap_part, ap_noPart, ap_ixLI, ap_ixTI, ap_ixLV, ap_ixTV, ap_len, ap_setLI, ap_setLV, ap_appI, ap_appV, ap_tupL, ap_listS, ap_sumLI, ap_sumTI, ap_repLI, ap_intI, ap_intB, ap_eqTI, ap_neTI, ap_eqLI, ap_neLI, ap_isi, ap_for, ap_rng1, ap_rng2, ap_iList, ap_iTup, ap_lc, ap_yes, ap_cut, ap_gTupH, ap_fmt, ap_jsn, ap_jsc, ap_gcd, ap_isqrt, ap_ixL, tyV_l, wipe_nil, wipe_cons, upd_same, ap_iEnT, ap_iEnL, ap_iZipA, ap_all, ap_tupT, ap_attF, ap_makeL, ap_att, ap_prop, ap_isO, ap_bin, ap_ne, ap_meth, ap_make, ins_inj, FE_inj, ap_slI, ap_catI, ap_perm, ap_lenO, ap_strO, ap_listO, ap_reprB, ap_iterT, ap_neT, ap_negO, ap_binI, ap_catL, ap_tM1, ap_repTI, ap_popN, ap_par3, ap_catTT, ap_repTA, ap_countT, ap_notInT, ap_repL1, ap_cm, ap_shl, ap_shr, ap_mask, ap_comb, ap_bits, ap_rng3, List.set_cons_zero, List.set_cons_succ, List.getElem?_cons_zero, List.getElem?_cons_succ, List.cons_append, List.nil_append, List.append_nil, Option.some.injEq, V.int.injEq, V.ref.injEq, V.bl.injEq, V.str.injEq, V.ty.injEq, Bool.not_true, Bool.not_false, HO.lst.injEq, HO.tup.injEq, reduceCtorEq, Int.reduceToNat, Int.reduceLT, Int.reduceLE, Nat.reduceAdd, Int.cast_ofNat_Int, gi_c0, gi_c1, gi_c2, gi_c3, Int.natCast_inj, map_int_inj, map_nil_iff, List.cons.injEq, exists_eq_left, exists_eq_left', exists_eq, exists_eq', exists_and_left, exists_and_right, exists_const, and_assoc, and_true, true_and, and_false, false_and, or_false, false_or, or_true, true_or, ite_true, ite_false, if_true, if_false, Bool.false_eq_true, own_cons, own_nil, le1, le2, le3, le4, me_cons, me_nil, List.length_map, List.length_cons, List.length_nil, ne_eq, not_false_eq_true, not_true_eq_false, decide_eq_true_eq, hf1, PF_p, PF_e]
    have rg : ∀ n ∈ es, 0 ≤ n ∧ n < p := by
      rw [← hm]
      exact md_rg (by omega) es
    refine ⟨t, u, es, a, b, c, d, p, rfl, s1 _ _ ht, hu.same s1, l1, l2, rg, h4.a.sm, h4.b.sm, h4.c.sm, h4.d.sm, by omega, by omega, fun H2 r s2 er => ?_⟩
    have lc : (chP [a, b] [c, d] es).length = es.length := chP_len rfl rfl (by omega)
    have lm := md_len p (chP [a, b] [c, d] es)
    refine newP_ok er pp ⟨by omega, by omega, fun n hn => by have := md_rg (p := p) (by omega) _ n hn; unfold Sm; omega⟩ fun g H3 s3 ng hg => ?_
    rw [md_md] at hg
    exact k H3 g ((s1.trans s2).trans s3) (free_of (s1.trans s2) ng) hg
def sp_need_like (C : Addr) : Sp := fun vs H Q _ => ∃ (f g : Addr) (p : Int) (es fs : List Int), vs = [.ref f, .ref g] ∧ PFAt C H f p es ∧ PFAt C H g p fs ∧ Q .non H
theorem ok_need_like (T : Tx K mg) : FnOk P w K mg base CX0 4 T.f_need_like T.d_need_like p_need_like (sp_need_like T.C_PrimeForm) := by
  refine T.F_need_like.ok sc_need_like (fun vs H Q E h => ?_) (fun cdv A outer s H vs Q E hr h => ?_)
  · obtain ⟨f, g, p, es, fs, rfl, _⟩ := h
    rfl
  · obtain ⟨f, g, p, es, fs, rfl, ⟨dx, t, hf, ht⟩, ⟨dy, u, hg, hu⟩, k⟩ := h
    refine ⟨_, (pss_one (ps_if (PW.pt (pw_or (pt_not (pt_val (pe_callB (cr_isO (isC_PrimeForm T)) (by rfl) T.z_isinstance (by decide +kernel) (pa_cons (pv 1) (pa_cons (pe_glob (v := .ref T.C_PrimeForm) (by rfl) T.mg_PrimeForm rfl) pa_nil))))) (pw_or1 (pt_cmpR op_ne (pe_prop (pv 1) T.cl_PrimeForm T.pr_PrimeForm_prime (ok_PrimeForm_prime T) (hr.mono (by decide)) T.b_PrimeForm_prime .nil pass0 (by rfl)) (pe_prop (pv 0) T.cl_PrimeForm T.pr_PrimeForm_prime (ok_PrimeForm_prime T) (hr.mono (by decide)) T.b_PrimeForm_prime .nil pass0 (by rfl)) (nomark _))))) (pss_one ps_never) pss_nil)), ?_⟩
    rw [st_need_like]
    simp only [ap_seq, ap_next, ap_asg, ap_gName, ap_ret, ap_retN, ap_drop, ap_ifS, ap_break, ap_cont, ap_par, ap_aug, ap_ip, ap_gSub, ap_gTup, ap_gNil, ap_gCons, ap_var, ap_c, ap_op, ap_un, ap_if, ap_test, ap_B, ap_and, ap_or, ap_not, ap_andV, ap_orV, ap_notV, ap_nil, ap_cons, ap_tup, ap_lst, ap_cb, ap_bm, ap_call, ap_chain, ap_rI, ap_rI0, ap_rU, ap_rEq, ap_rNe, ap_revT, ap_sl, ap_part, ap_noPart, ap_ixLI, ap_ixTI, ap_ixLV, ap_ixTV, ap_len, ap_setLI, ap_setLV, ap_appI, ap_appV, ap_tupL, ap_listS, ap_sumLI, ap_sumTI, ap_repLI, ap_intI, ap_intB, ap_eqTI, ap_neTI, ap_eqLI, ap_neLI, ap_isi, ap_for, ap_rng1, ap_rng2, ap_iList, ap_iTup, ap_lc, ap_yes, ap_cut, ap_gTupH, ap_fmt, ap_jsn, ap_jsc, ap_gcd, ap_isqrt, ap_ixL, tyV_l, wipe_nil, wipe_cons, upd_same, ap_iEnT, ap_iEnL, ap_iZipA, ap_all, ap_tupT, ap_attF, ap_makeL, ap_att, ap_prop, ap_isO, ap_bin, ap_ne, ap_meth, ap_make, ins_inj, FE_inj, ap_slI, ap_catI, ap_perm, ap_lenO, ap_strO, ap_listO, ap_reprB, ap_iterT, ap_neT, ap_negO, ap_binI, ap_catL, ap_tM1, ap_repTI, ap_popN, ap_par3, ap_catTT, ap_repTA, ap_countT, ap_notInT, ap_repL1, ap_cm, ap_shl, ap_shr, ap_mask, ap_comb, ap_bits, ap_rng3, List.set_cons_zero, List.set_cons_succ, List.getElem?_cons_zero, List.getElem?_cons_succ, List.cons_append, List.nil_append, List.append_nil, Option.some.injEq, V.int.injEq, V.ref.injEq, V.bl.injEq, V.str.injEq, V.ty.injEq, Bool.not_true, Bool.not_false, HO.lst.injEq, HO.tup.injEq, reduceCtorEq, Int.reduceToNat, Int.reduceLT, Int.reduceLE, Nat.reduceAdd, Int.cast_ofNat_Int, gi_c0, gi_c1, gi_c2, gi_c3, Int.natCast_inj, map_int_inj, map_nil_iff, List.cons.injEq, exists_eq_left, exists_eq_left', exists_eq, exists_eq', exists_and_left, exists_and_right, exists_const, and_assoc, and_true, true_and, and_false, false_and, or_false, false_or, or_true, true_or, ite_true, ite_false, if_true, if_false, Bool.false_eq_true, own_cons, own_nil, le1, le2, le3, le4, me_cons, me_nil, List.length_map, List.length_cons, List.length_nil, ne_eq, not_false_eq_true, not_true_eq_false, decide_eq_true_eq]
    refine ⟨true, .obj hg, ?_⟩
    simp only [ap_seq, ap_next, ap_asg, ap_gName, ap_ret, ap_retN, ap_drop, ap_ifS, ap_break, ap_cont, ap_par, ap_aug, ap_ip, ap_gSub, ap_gTup, ap_gNil, ap_gCons, ap_var, ap_c, ap_op, ap_un, ap_if, ap_test, ap_B, ap_and, ap_or, ap_not, ap_andV, ap_orV, ap_notV, ap_nil, ap_cons, ap_tup, ap_lst, ap_cb, ap_bm, ap_call, ap_chain, ap_rI, ap_rI0, ap_rU, ap_rEq, ap_rNe, ap_revT, ap_sl, ap_part, ap_noPart, ap_ixLI, ap_ixTI, ap_ixLV, ap_ixTV, ap_len, ap_setLI, ap_setLV, ap_appI, ap_appV, ap_tupL, ap_listS, ap_sumLI, ap_sumTI, ap_repLI, ap_intI, ap_intB, ap_eqTI, ap_neTI, ap_eqLI, ap_neLI, ap_isi, ap_for, ap_rng1, ap_rng2, ap_iList, ap_iTup, ap_lc, ap_yes, ap_cut, ap_gTupH, ap_fmt, ap_jsn, ap_jsc, ap_gcd, ap_isqrt, ap_ixL, tyV_l, wipe_nil, wipe_cons, upd_same, ap_iEnT, ap_iEnL, ap_iZipA, ap_all, ap_tupT, ap_attF, ap_makeL, ap_att, ap_prop, ap_isO, ap_bin, ap_ne, ap_meth, ap_make, ins_inj, FE_inj, ap_slI, ap_catI, ap_perm, ap_lenO, ap_strO, ap_listO, ap_reprB, ap_iterT, ap_neT, ap_negO, ap_binI, ap_catL, ap_tM1, ap_repTI, ap_popN, ap_par3, ap_catTT, ap_repTA, ap_countT, ap_notInT, ap_repL1, ap_cm, ap_shl, ap_shr, ap_mask, ap_comb, ap_bits, ap_rng3, List.set_cons_zero, List.set_cons_succ, List.getElem?_cons_zero, List.getElem?_cons_succ, List.cons_append, List.nil_append, List.append_nil, Option.some.injEq, V.int.injEq, V.ref.injEq, V.bl.injEq, V.str.injEq, V.ty.injEq, Bool.not_true, Bool.not_false, HO.lst.injEq, HO.tup.injEq, reduceCtorEq, Int.reduceToNat, Int.reduceLT, Int.reduceLE, Nat.reduceAdd, Int.cast_ofNat_Int, gi_c0, gi_c1, gi_c2, gi_c3, Int.natCast_inj, map_int_inj, map_nil_iff, List.cons.injEq, exists_eq_left, exists_eq_left', exists_eq, exists_eq', exists_and_left, exists_and_right, exists_const, and_assoc, and_true, true_and, and_false, false_and, or_false, false_or, or_true, true_or, ite_true, ite_false, if_true, if_false, Bool.false_eq_true, own_cons, own_nil, le1, le2, le3, le4, me_cons, me_nil, List.length_map, List.length_cons, List.length_nil, ne_eq, not_false_eq_true, not_true_eq_false, decide_eq_true_eq, hf, hg, sp_PrimeForm_prime]
    refine ⟨u, p, rfl, t, p, rfl, rfl, ?_⟩
    rw [decide_eq_true rfl, if_neg (by simp)]
    exact k
def sp_PrimeForm___mul__ (C : Addr) : Sp := fun vs H Q _ => ∃ (f g : Addr) (p : Int) (es fs : List Int), vs = [.ref f, .ref g] ∧ PFAt C H f p es ∧ PFAt C H g p fs ∧ p ∈ primes ∧ 1 ≤ es.length ∧ 1 ≤ fs.length ∧ es.length + fs.length ≤ 14 ∧ md p es = es ∧ md p fs = fs ∧
  ∀ H' r, Same H H' → H r = none → PFAt C H' r p (md p (mulP es fs)) → Q (.ref r) H'
theorem ok_PrimeForm___mul__ (T : Tx K mg) : FnOk P w K mg base CX0 14 T.f_PrimeForm___mul__ T.d_PrimeForm___mul__ p_PrimeForm___mul__ (sp_PrimeForm___mul__ T.C_PrimeForm) := by
  refine T.F_PrimeForm___mul__.ok sc_PrimeForm___mul__ (fun vs H Q E h => ?_) (fun cdv A outer s H vs Q E hr h => ?_)
  · obtain ⟨f, g, p, es, fs, rfl, _⟩ := h
    rfl
  · obtain ⟨f, g, p, es, fs, rfl, ⟨dx, t, hf, ht⟩, ⟨dy, u, hg, hu⟩, pp, ln1, ln2, ln3, m1, m2, k⟩ := h
    refine ⟨_, (pss_cons (ps_if (pt_not (pt_val (pe_callB (cr_isO (isC_PrimeForm T)) (by rfl) T.z_isinstance (by decide +kernel) (pa_cons (pv 1) (pa_cons (pe_glob (v := .ref T.C_PrimeForm) (by rfl) T.mg_PrimeForm rfl) pa_nil))))) (pss_one ps_never) pss_nil)
      (pss_cons (ps_expr (pe_call (ok_need_like T) (hr.mono (by decide)) (by rfl) T.m_need_like T.F_need_like.kp T.b_need_like .nil pass0 (pa_cons (pv 0) (pa_cons (pv 1) pa_nil))))
      (pss_cons (ps_if (pt_cmpR op_gt (pe_op op_add (pe_prop (pv 0) T.cl_PrimeForm T.pr_PrimeForm_degree (ok_PrimeForm_degree T) (hr.mono (by decide)) T.b_PrimeForm_degree .nil pass0 (by rfl)) (pe_prop (pv 1) T.cl_PrimeForm T.pr_PrimeForm_degree (ok_PrimeForm_degree T) (hr.mono (by decide)) T.b_PrimeForm_degree .nil pass0 (by rfl))) (pe_glob (v := .int 12) (by rfl) T.c_MOST_DEGREE ⟨_, rfl⟩) (nomark _)) (pss_one ps_never) pss_nil)
      (pss_one (ps_ret (pe_make T.mk_PrimeForm (ok_PrimeForm___init__ T) (hr.mono (by decide)) (by rfl) T.mg_PrimeForm T.b_PrimeForm___init__ .nil pass0 (pa_cons (pe_attF (pe_fld (pv 0) rfl) mono_var T.cl_PrimeForm T.no_PrimeForm_prime) (pa_cons (pe_call (ok_modulo T) (hr.mono (by decide)) (by rfl) T.m_modulo T.F_modulo.kp T.b_modulo .nil pass0 (pa_cons (pe_call (ok_product_row T) (hr.mono (by decide)) (by rfl) T.m_product_row T.F_product_row.kp T.b_product_row .nil pass0 (pa_cons (pe_attF (pe_fld (pv 0) rfl) mono_var T.cl_PrimeForm T.no_PrimeForm_entries) (pa_cons (pe_prop (pv 1) T.cl_PrimeForm T.pr_PrimeForm_entries (ok_PrimeForm_entries T) (hr.mono (by decide)) T.b_PrimeForm_entries .nil pass0 (by rfl)) pa_nil))) (pa_cons (pe_attF (pe_fld (pv 0) rfl) mono_var T.cl_PrimeForm T.no_PrimeForm_prime) pa_nil))) pa_nil)))))))), ?_⟩
    rw [st_PrimeForm___mul__]
    simp only [ap_seq, ap_next, ap_asg, ap_gName, ap_ret, ap_retN, ap_drop, ap_ifS, ap_break, ap_cont, ap_par, ap_aug, ap_ip, ap_gSub, ap_gTup, ap_gNil, ap_gCons, ap_var, ap_c, ap_op, ap_un, ap_if, ap_test, ap_B, ap_and, ap_or, ap_not, ap_andV, ap_orV, ap_notV, ap_nil, ap_cons, ap_tup, ap_lst, ap_cb, ap_bm, ap_call, ap_chain, ap_rI, ap_rI0, ap_rU, ap_rEq, ap_rNe, ap_revT, ap_sl, ap_part, ap_noPart, ap_ixLI, ap_ixTI, ap_ixLV, ap_ixTV, ap_len, ap_setLI, ap_setLV, ap_appI, ap_appV, ap_tupL, ap_listS, ap_sumLI, ap_sumTI, ap_repLI, ap_intI, ap_intB, ap_eqTI, ap_neTI, ap_eqLI, ap_neLI, ap_isi, ap_for, ap_rng1, ap_rng2, ap_iList, ap_iTup, ap_lc, ap_yes, ap_cut, ap_gTupH, ap_fmt, ap_jsn, ap_jsc, ap_gcd, ap_isqrt, ap_ixL, tyV_l, wipe_nil, wipe_cons, upd_same, ap_iEnT, ap_iEnL, ap_iZipA, ap_all, ap_tupT, ap_attF, ap_makeL, ap_att, ap_prop, ap_isO, ap_bin, ap_ne, ap_meth, ap_make, ins_inj, FE_inj, ap_slI, ap_catI, ap_perm, ap_lenO, ap_strO, ap_listO, ap_reprB, ap_iterT, ap_neT, ap_negO, ap_binI, ap_catL, ap_tM1, ap_repTI, ap_popN, ap_par3, ap_catTT, ap_repTA, ap_countT, ap_notInT, ap_repL1, ap_cm, ap_shl, ap_shr, ap_mask, ap_comb, ap_bits, ap_rng3, List.set_cons_zero, List.set_cons_succ, List.getElem?_cons_zero, List.getElem?_cons_succ, List.cons_append, List.nil_append, List.append_nil, Option.some.injEq, V.int.injEq, V.ref.injEq, V.bl.injEq, V.str.injEq, V.ty.injEq, Bool.not_true, Bool.not_false, HO.lst.injEq, HO.tup.injEq, reduceCtorEq, Int.reduceToNat, Int.reduceLT, Int.reduceLE, Nat.reduceAdd, Int.cast_ofNat_Int, gi_c0, gi_c1, gi_c2, gi_c3, Int.natCast_inj, map_int_inj, map_nil_iff, List.cons.injEq, exists_eq_left, exists_eq_left', exists_eq, exists_eq', exists_and_left, exists_and_right, exists_const, and_assoc, and_true, true_and, and_false, false_and, or_false, false_or, or_true, true_or, ite_true, ite_false, if_true, if_false, Bool.false_eq_true, own_cons, own_nil, le1, le2, le3, le4, me_cons, me_nil, List.length_map, List.length_cons, List.length_nil, ne_eq, not_false_eq_true, not_true_eq_false, decide_eq_true_eq]
    refine ⟨true, .obj hg, ?_⟩
    simp only [ap_seq, ap_next, ap_asg, ap_gName, ap_ret, ap_retN, ap_drop, ap_ifS, ap_break, ap_cont, ap_par, ap_aug, ap_ip, ap_gSub, ap_gTup, ap_gNil, ap_gCons, ap_var, ap_c, ap_op, ap_un, ap_if, ap_test, ap_B, ap_and, ap_or, ap_not, ap_andV, ap_orV, ap_notV, ap_nil, ap_cons, ap_tup, ap_lst, ap_cb, ap_bm, ap_call, ap_chain, ap_rI, ap_rI0, ap_rU, ap_rEq, ap_rNe, ap_revT, ap_sl, ap_part, ap_noPart, ap_ixLI, ap_ixTI, ap_ixLV, ap_ixTV, ap_len, ap_setLI, ap_setLV, ap_appI, ap_appV, ap_tupL, ap_listS, ap_sumLI, ap_sumTI, ap_repLI, ap_intI, ap_intB, ap_eqTI, ap_neTI, ap_eqLI, ap_neLI, ap_isi, ap_for, ap_rng1, ap_rng2, ap_iList, ap_iTup, ap_lc, ap_yes, ap_cut, ap_gTupH, ap_fmt, ap_jsn, ap_jsc, ap_gcd, ap_isqrt, ap_ixL, tyV_l, wipe_nil, wipe_cons, upd_same, ap_iEnT, ap_iEnL, ap_iZipA, ap_all, ap_tupT, ap_attF, ap_makeL, ap_att, ap_prop, ap_isO, ap_bin, ap_ne, ap_meth, ap_make, ins_inj, FE_inj, ap_slI, ap_catI, ap_perm, ap_lenO, ap_strO, ap_listO, ap_reprB, ap_iterT, ap_neT, ap_negO, ap_binI, ap_catL, ap_tM1, ap_repTI, ap_popN, ap_par3, ap_catTT, ap_repTA, ap_countT, ap_notInT, ap_repL1, ap_cm, ap_shl, ap_shr, ap_mask, ap_comb, ap_bits, ap_rng3, List.set_cons_zero, List.set_cons_succ, List.getElem?_cons_zero, List.getElem?_cons_succ, List.cons_append, List.nil_append, List.append_nil, Option.some.injEq, V.int.injEq, V.ref.injEq, V.bl.injEq, V.str.injEq, V.ty.injEq, Bool.not_true, Bool.not_false, HO.lst.injEq, HO.tup.injEq, reduceCtorEq, Int.reduceToNat, Int.reduceLT, Int.reduceLE, Nat.reduceAdd, Int.cast_ofNat_Int, gi_c0, gi_c1, gi_c2, gi_c3, Int.natCast_inj, map_int_inj, map_nil_iff, List.cons.injEq, exists_eq_left, exists_eq_left', exists_eq, exists_eq', exists_and_left, exists_and_right, exists_const, and_assoc, and_true, true_and, and_false, false_and, or_false, false_or, or_true, true_or, ite_true, ite_false, if_true, if_false, Bool.false_eq_true, own_cons, own_nil, le1, le2, le3, le4, me_cons, me_nil, List.length_map, List.length_cons, List.length_nil, ne_eq, not_false_eq_true, not_true_eq_false, decide_eq_true_eq, hf, hg, PF_p, PF_e, sp_PrimeForm_degree, sp_PrimeForm_entries]
    have pb := primes_bd pp
    have wd : ∀ {l : List Int}, md p l = l → ∀ n ∈ l, Wd n := fun {l} h n hn => by
      rw [← h] at hn
      have := md_rg (p := p) (by omega) l n hn
      exact Sm.wd (by unfold Sm; omega)
    refine ⟨f, g, p, es, fs, rfl, ⟨dx, t, hf, ht⟩, ⟨dy, u, hg, hu⟩, ⟨_, _, hf⟩, dx, t, ⟨p, hf⟩, es, ht, ⟨_, _, hg⟩, dy, u, ⟨p, hg⟩, fs, hu, ?_⟩
    rw [if_neg (by omega)]
    refine ⟨dx, _, hf, _, PF_p, dx, _, hf, _, PF_e, ⟨_, _, hg⟩, dy, u, ⟨p, hg⟩, t, u, es, fs, rfl, ht, hu, by omega, by omega, by omega, by omega, wd m1, wd m2, fun H1 r s1 nr er => ?_⟩
    have lm := mulP_len es fs
    have bm : ∀ n ∈ mulP es fs, Wd n := fun n hn => by
      have b : ∀ {l : List Int}, l.length ≤ 13 → md p l = l → l1 l ≤ 13 * 101 := fun {l} hl h => by
        refine Nat.le_trans (l1_Bd (m := 101) fun n hn => ?_) (Nat.mul_le_mul_right _ hl)
        rw [← h] at hn
        have := md_rg (p := p) (by omega) l n hn
        omega
      exact wd_of (Nat.lt_of_le_of_lt (Nat.le_trans (l1_mem hn) (Nat.le_trans (l1_mulP es fs) (Nat.mul_le_mul (b (by omega) m1) (b (by omega) m2)))) (by decide +kernel))
    refine ⟨dx, _, s1 _ _ hf, _, PF_p, r, _, p, rfl, .inr er, by omega, bm, by omega, by omega, fun H2 r2 s2 n2 e2 => ?_⟩
    have lmd : (List.map (fun x => x % p) (mulP es fs)).length = (mulP es fs).length := List.length_map ..
    refine newP_ok e2 pp ⟨by omega, by omega, fun n hn => by have := md_rg (p := p) (by omega) _ n hn; unfold Sm; omega⟩ fun z H3 s3 nz hz => ?_
    rw [md_md] at hz
    exact k H3 z ((s1.trans s2).trans s3) (free_of (s1.trans s2) nz) hz
def sp_PrimeForm___eq__ (C : Addr) : Sp := fun vs H Q _ => ∃ (f g : Addr) (p q : Int) (es fs : List Int), vs = [.ref f, .ref g] ∧ PFAt C H f p es ∧ PFAt C H g q fs ∧ es.length ≤ 1000 ∧ fs.length ≤ 1000 ∧ Q (.bl (decide (p = q ∧ es = fs))) H
theorem ok_PrimeForm___eq__ (T : Tx K mg) : FnOk P w K mg base CX0 4 T.f_PrimeForm___eq__ T.d_PrimeForm___eq__ p_PrimeForm___eq__ (sp_PrimeForm___eq__ T.C_PrimeForm) := by
  refine T.F_PrimeForm___eq__.ok sc_PrimeForm___eq__ (fun vs H Q E h => ?_) (fun cdv A outer s H vs Q E hr h => ?_)
  · obtain ⟨f, g, p, q, es, fs, rfl, _⟩ := h
    rfl
  · obtain ⟨f, g, p, q, es, fs, rfl, ⟨dx, t, hf, ht⟩, ⟨dy, u, hg, hu⟩, l1, l2, k⟩ := h
    refine ⟨_, (pss_one (ps_ret (pe_and (pe_callB (cr_isO (isC_PrimeForm T)) (by rfl) T.z_isinstance (by decide +kernel) (pa_cons (pv 1) (pa_cons (pe_glob (v := .ref T.C_PrimeForm) (by rfl) T.mg_PrimeForm rfl) pa_nil))) (pe_and (pe_cmpR op_eq (pe_attF (pe_fld (pv 0) rfl) mono_var T.cl_PrimeForm T.no_PrimeForm_prime) (pe_attF (pe_fld (pv 1) rfl) mono_var T.cl_PrimeForm T.no_PrimeForm_prime) (nomark _)) (pe_one (pe_cmpR (op_eqTI hr.units) (pe_attF (pe_fld (pv 0) rfl) mono_var T.cl_PrimeForm T.no_PrimeForm_entries) (pe_attF (pe_fld (pv 1) rfl) mono_var T.cl_PrimeForm T.no_PrimeForm_entries) (nomark _))))))), ?_⟩
    rw [st_PrimeForm___eq__]
    simp only [ap_seq, ap_next, ap_asg, ap_gName, ap_ret, ap_retN, ap_drop, ap_ifS, ap_break, ap_cont, ap_par, ap_aug, ap_ip, ap_gSub, ap_gTup, ap_gNil, ap_gCons, ap_var, ap_c, ap_op, ap_un, ap_if, ap_test, ap_B, ap_and, ap_or, ap_not, ap_andV, ap_orV, ap_notV, ap_nil, ap_cons, ap_tup, ap_lst, ap_cb, ap_bm, ap_call, ap_chain, ap_rI, ap_rI0, ap_rU, ap_rEq, ap_rNe, ap_revT, ap_sl, ap_part, ap_noPart, ap_ixLI, ap_ixTI, ap_ixLV, ap_ixTV, ap_len, ap_setLI, ap_setLV, ap_appI, ap_appV, ap_tupL, ap_listS, ap_sumLI, ap_sumTI, ap_repLI, ap_intI, ap_intB, ap_eqTI, ap_neTI, ap_eqLI, ap_neLI, ap_isi, ap_for, ap_rng1, ap_rng2, ap_iList, ap_iTup, ap_lc, ap_yes, ap_cut, ap_gTupH, ap_fmt, ap_jsn, ap_jsc, ap_gcd, ap_isqrt, ap_ixL, tyV_l, wipe_nil, wipe_cons, upd_same, ap_iEnT, ap_iEnL, ap_iZipA, ap_all, ap_tupT, ap_attF, ap_makeL, ap_att, ap_prop, ap_isO, ap_bin, ap_ne, ap_meth, ap_make, ins_inj, FE_inj, ap_slI, ap_catI, ap_perm, ap_lenO, ap_strO, ap_listO, ap_reprB, ap_iterT, ap_neT, ap_negO, ap_binI, ap_catL, ap_tM1, ap_repTI, ap_popN, ap_par3, ap_catTT, ap_repTA, ap_countT, ap_notInT, ap_repL1, ap_cm, ap_shl, ap_shr, ap_mask, ap_comb, ap_bits, ap_rng3, List.set_cons_zero, List.set_cons_succ, List.getElem?_cons_zero, List.getElem?_cons_succ, List.cons_append, List.nil_append, List.append_nil, Option.some.injEq, V.int.injEq, V.ref.injEq, V.bl.injEq, V.str.injEq, V.ty.injEq, Bool.not_true, Bool.not_false, HO.lst.injEq, HO.tup.injEq, reduceCtorEq, Int.reduceToNat, Int.reduceLT, Int.reduceLE, Nat.reduceAdd, Int.cast_ofNat_Int, gi_c0, gi_c1, gi_c2, gi_c3, Int.natCast_inj, map_int_inj, map_nil_iff, List.cons.injEq, exists_eq_left, exists_eq_left', exists_eq, exists_eq', exists_and_left, exists_and_right, exists_const, and_assoc, and_true, true_and, and_false, false_and, or_false, false_or, or_true, true_or, ite_true, ite_false, if_true, if_false, Bool.false_eq_true, own_cons, own_nil, le1, le2, le3, le4, me_cons, me_nil, List.length_map, List.length_cons, List.length_nil, ne_eq, not_false_eq_true, not_true_eq_false, decide_eq_true_eq]
    refine ⟨true, .obj hg, ?_⟩
    simp only [ap_seq, ap_next, ap_asg, ap_gName, ap_ret, ap_retN, ap_drop, ap_ifS, ap_break, ap_cont, ap_par, ap_aug, ap_ip, ap_gSub, ap_gTup, ap_gNil, ap_gCons, ap_var, ap_c, ap_op, ap_un, ap_if, ap_test, ap_B, ap_and, ap_or, ap_not, ap_andV, ap_orV, ap_notV, ap_nil, ap_cons, ap_tup, ap_lst, ap_cb, ap_bm, ap_call, ap_chain, ap_rI, ap_rI0, ap_rU, ap_rEq, ap_rNe, ap_revT, ap_sl, ap_part, ap_noPart, ap_ixLI, ap_ixTI, ap_ixLV, ap_ixTV, ap_len, ap_setLI, ap_setLV, ap_appI, ap_appV, ap_tupL, ap_listS, ap_sumLI, ap_sumTI, ap_repLI, ap_intI, ap_intB, ap_eqTI, ap_neTI, ap_eqLI, ap_neLI, ap_isi, ap_for, ap_rng1, ap_rng2, ap_iList, ap_iTup, ap_lc, ap_yes, ap_cut, ap_gTupH, ap_fmt, ap_jsn, ap_jsc, ap_gcd, ap_isqrt, ap_ixL, tyV_l, wipe_nil, wipe_cons, upd_same, ap_iEnT, ap_iEnL, ap_iZipA, ap_all, ap_tupT, ap_attF, ap_makeL, ap_att, ap_prop, ap_isO, ap_bin, ap_ne, ap_meth, ap_make, ins_inj, FE_inj, ap_slI, ap_catI, ap_perm, ap_lenO, ap_strO, ap_listO, ap_reprB, ap_iterT, ap_neT, ap_negO, ap_binI, ap_catL, ap_tM1, ap_repTI, ap_popN, ap_par3, ap_catTT, ap_repTA, ap_countT, ap_notInT, ap_repL1, ap_cm, ap_shl, ap_shr, ap_mask, ap_comb, ap_bits, ap_rng3, List.set_cons_zero, List.set_cons_succ, List.getElem?_cons_zero, List.getElem?_cons_succ, List.cons_append, List.nil_append, List.append_nil, Option.some.injEq, V.int.injEq, V.ref.injEq, V.bl.injEq, V.str.injEq, V.ty.injEq, Bool.not_true, Bool.not_false, HO.lst.injEq, HO.tup.injEq, reduceCtorEq, Int.reduceToNat, Int.reduceLT, Int.reduceLE, Nat.reduceAdd, Int.cast_ofNat_Int, gi_c0, gi_c1, gi_c2, gi_c3, Int.natCast_inj, map_int_inj, map_nil_iff, List.cons.injEq, exists_eq_left, exists_eq_left', exists_eq, exists_eq', exists_and_left, exists_and_right, exists_const, and_assoc, and_true, true_and, and_false, false_and, or_false, false_or, or_true, true_or, ite_true, ite_false, if_true, if_false, Bool.false_eq_true, own_cons, own_nil, le1, le2, le3, le4, me_cons, me_nil, List.length_map, List.length_cons, List.length_nil, ne_eq, not_false_eq_true, not_true_eq_false, decide_eq_true_eq, hf, hg, PF_p, PF_e]
    refine ⟨rfl, ?_⟩
    by_cases c : p = q
    · rw [if_pos c]
      refine ⟨es, ht, fs, hu, ?_⟩
      have e : decide (p = q ∧ es = fs) = decide (es = fs) := decide_eq_decide.mpr ⟨fun h => h.2, fun h => ⟨c, h⟩⟩
      rw [← e]
      exact k
    · rw [if_neg c]
      rw [decide_eq_false fun h => c h.1] at k
      exact k
def sp_PrimeForm___eq__T (C : Addr) : Sp := fun vs H Q _ => ∃ (p q dx : Addr) (fs : List (Str × V)) (xs : List V), vs = [.ref p, .ref q] ∧ H p = some (.ins C dx fs) ∧ H q = some (.tup xs) ∧ Q (.bl false) H
theorem ok_PrimeForm___eq__T (T : Tx K mg) : FnOk P w K mg base CX0 4 T.f_PrimeForm___eq__ T.d_PrimeForm___eq__ p_PrimeForm___eq__ (sp_PrimeForm___eq__T T.C_PrimeForm) := by
  refine T.F_PrimeForm___eq__.ok sc_PrimeForm___eq__ (fun vs H Q E h => ?_) (fun cdv A outer s H vs Q E hr h => ?_)
  · obtain ⟨p, q, dx, fs, xs, rfl, _⟩ := h
    rfl
  · obtain ⟨p, q, dx, fs, xs, rfl, hp, hq, k⟩ := h
    refine ⟨_, (pss_one (ps_ret (pe_and (pe_callB (cr_isO (isC_PrimeForm T)) (by rfl) T.z_isinstance (by decide +kernel) (pa_cons (pv 1) (pa_cons (pe_glob (v := .ref T.C_PrimeForm) (by rfl) T.mg_PrimeForm rfl) pa_nil))) (pe_and (pe_cmpR op_eq (pe_attF (pe_fld (pv 0) rfl) mono_var T.cl_PrimeForm T.no_PrimeForm_prime) (pe_attF (pe_fld (pv 1) rfl) mono_var T.cl_PrimeForm T.no_PrimeForm_prime) (nomark _)) (pe_one (pe_cmpR (op_eqTI hr.units) (pe_attF (pe_fld (pv 0) rfl) mono_var T.cl_PrimeForm T.no_PrimeForm_entries) (pe_attF (pe_fld (pv 1) rfl) mono_var T.cl_PrimeForm T.no_PrimeForm_entries) (nomark _))))))), ?_⟩
    rw [st_PrimeForm___eq__]
    simp only [ap_seq, ap_next, ap_asg, ap_gName, ap_ret, ap_retN, ap_drop, ap_ifS, ap_break, ap_cont, ap_par, ap_aug, ap_ip, ap_gSub, ap_gTup, ap_gNil, ap_gCons, ap_var, ap_c, ap_op, ap_un, ap_if, ap_test, ap_B, ap_and, ap_or, ap_not, ap_andV, ap_orV, ap_notV, ap_nil, ap_cons, ap_tup, ap_lst, ap_cb, ap_bm, ap_call, ap_chain, ap_rI, ap_rI0, ap_rU, ap_rEq, ap_rNe, ap_revT, ap_sl, ap_part, ap_noPart, ap_ixLI, ap_ixTI, ap_ixLV, ap_ixTV, ap_len, ap_setLI, ap_setLV, ap_appI, ap_appV, ap_tupL, ap_listS, ap_sumLI, ap_sumTI, ap_repLI, ap_intI, ap_intB, ap_eqTI, ap_neTI, ap_eqLI, ap_neLI, ap_isi, ap_for, ap_rng1, ap_rng2, ap_iList, ap_iTup, ap_lc, ap_yes, ap_cut, ap_gTupH, ap_fmt, ap_jsn, ap_jsc, ap_gcd, ap_isqrt, ap_ixL, tyV_l, wipe_nil, wipe_cons, upd_same, ap_iEnT, ap_iEnL, ap_iZipA, ap_all, ap_tupT, ap_attF, ap_makeL, ap_att, ap_prop, ap_isO, ap_bin, ap_ne, ap_meth, ap_make, ins_inj, FE_inj, ap_slI, ap_catI, ap_perm, ap_lenO, ap_strO, ap_listO, ap_reprB, ap_iterT, ap_neT, ap_negO, ap_binI, ap_catL, ap_tM1, ap_repTI, ap_popN, ap_par3, ap_catTT, ap_repTA, ap_countT, ap_notInT, ap_repL1, ap_cm, ap_shl, ap_shr, ap_mask, ap_comb, ap_bits, ap_rng3, List.set_cons_zero, List.set_cons_succ, List.getElem?_cons_zero, List.getElem?_cons_succ, List.cons_append, List.nil_append, List.append_nil, Option.some.injEq, V.int.injEq, V.ref.injEq, V.bl.injEq, V.str.injEq, V.ty.injEq, Bool.not_true, Bool.not_false, HO.lst.injEq, HO.tup.injEq, reduceCtorEq, Int.reduceToNat, Int.reduceLT, Int.reduceLE, Nat.reduceAdd, Int.cast_ofNat_Int, gi_c0, gi_c1, gi_c2, gi_c3, Int.natCast_inj, map_int_inj, map_nil_iff, List.cons.injEq, exists_eq_left, exists_eq_left', exists_eq, exists_eq', exists_and_left, exists_and_right, exists_const, and_assoc, and_true, true_and, and_false, false_and, or_false, false_or, or_true, true_or, ite_true, ite_false, if_true, if_false, Bool.false_eq_true, own_cons, own_nil, le1, le2, le3, le4, me_cons, me_nil, List.length_map, List.length_cons, List.length_nil, ne_eq, not_false_eq_true, not_true_eq_false, decide_eq_true_eq]
    refine ⟨false, .tup hq, ?_⟩
    simp only [ap_seq, ap_next, ap_asg, ap_gName, ap_ret, ap_retN, ap_drop, ap_ifS, ap_break, ap_cont, ap_par, ap_aug, ap_ip, ap_gSub, ap_gTup, ap_gNil, ap_gCons, ap_var, ap_c, ap_op, ap_un, ap_if, ap_test, ap_B, ap_and, ap_or, ap_not, ap_andV, ap_orV, ap_notV, ap_nil, ap_cons, ap_tup, ap_lst, ap_cb, ap_bm, ap_call, ap_chain, ap_rI, ap_rI0, ap_rU, ap_rEq, ap_rNe, ap_revT, ap_sl, ap_part, ap_noPart, ap_ixLI, ap_ixTI, ap_ixLV, ap_ixTV, ap_len, ap_setLI, ap_setLV, ap_appI, ap_appV, ap_tupL, ap_listS, ap_sumLI, ap_sumTI, ap_repLI, ap_intI, ap_intB, ap_eqTI, ap_neTI, ap_eqLI, ap_neLI, ap_isi, ap_for, ap_rng1, ap_rng2, ap_iList, ap_iTup, ap_lc, ap_yes, ap_cut, ap_gTupH, ap_fmt, ap_jsn, ap_jsc, ap_gcd, ap_isqrt, ap_ixL, tyV_l, wipe_nil, wipe_cons, upd_same, ap_iEnT, ap_iEnL, ap_iZipA, ap_all, ap_tupT, ap_attF, ap_makeL, ap_att, ap_prop, ap_isO, ap_bin, ap_ne, ap_meth, ap_make, ins_inj, FE_inj, ap_slI, ap_catI, ap_perm, ap_lenO, ap_strO, ap_listO, ap_reprB, ap_iterT, ap_neT, ap_negO, ap_binI, ap_catL, ap_tM1, ap_repTI, ap_popN, ap_par3, ap_catTT, ap_repTA, ap_countT, ap_notInT, ap_repL1, ap_cm, ap_shl, ap_shr, ap_mask, ap_comb, ap_bits, ap_rng3, List.set_cons_zero, List.set_cons_succ, List.getElem?_cons_zero, List.getElem?_cons_succ, List.cons_append, List.nil_append, List.append_nil, Option.some.injEq, V.int.injEq, V.ref.injEq, V.bl.injEq, V.str.injEq, V.ty.injEq, Bool.not_true, Bool.not_false, HO.lst.injEq, HO.tup.injEq, reduceCtorEq, Int.reduceToNat, Int.reduceLT, Int.reduceLE, Nat.reduceAdd, Int.cast_ofNat_Int, gi_c0, gi_c1, gi_c2, gi_c3, Int.natCast_inj, map_int_inj, map_nil_iff, List.cons.injEq, exists_eq_left, exists_eq_left', exists_eq, exists_eq', exists_and_left, exists_and_right, exists_const, and_assoc, and_true, true_and, and_false, false_and, or_false, false_or, or_true, true_or, ite_true, ite_false, if_true, if_false, Bool.false_eq_true, own_cons, own_nil, le1, le2, le3, le4, me_cons, me_nil, List.length_map, List.length_cons, List.length_nil, ne_eq, not_false_eq_true, not_true_eq_false, decide_eq_true_eq]
    exact k
def sp_PrimeForm_of_form (C D : Addr) : Sp := fun vs H Q _ => ∃ (f dx t : Addr) (p : Int) (es : List Int), vs = [.ref C, .ref f, .int p] ∧ H f = some (.ins D dx (FEe t)) ∧ H t = some (TI es) ∧ p ∈ primes ∧ 1 ≤ es.length ∧ es.length ≤ 13 ∧ (∀ n ∈ es, Wd n) ∧
  ∀ H' r, Same H H' → H r = none → PFAt C H' r p (md p es) → Q (.ref r) H'
theorem ok_PrimeForm_of_form (T : Tx K mg) : FnOk P w K mg base CX0 12 T.f_PrimeForm_of_form T.d_PrimeForm_of_form p_PrimeForm_of_form (sp_PrimeForm_of_form T.C_PrimeForm T.C_Form) := by
  refine T.F_PrimeForm_of_form.ok sc_PrimeForm_of_form (fun vs H Q E h => ?_) (fun cdv A outer s H vs Q E hr h => ?_)
  · obtain ⟨f, dx, t, p, es, rfl, _⟩ := h
    rfl
  · obtain ⟨f, dx, t, p, es, rfl, hf, ht, pp, l1, l2, wd, k⟩ := h
    refine ⟨_, (pss_cons (ps_expr (pe_call (ok_need_form T) (hr.mono (by decide)) (by rfl) T.m_need_form T.F_need_form.kp T.b_need_form .nil pass0 (pa_cons (pv 1) pa_nil)))
      (pss_cons (ps_expr (pe_call (ok_need_prime T) (hr.mono (by decide)) (by rfl) T.m_need_prime T.F_need_prime.kp T.b_need_prime .nil pass0 (pa_cons (pv 2) pa_nil)))
      (pss_cons (ps_if (pt_cmpR op_gt (pe_prop (pv 1) T.cl_Form T.pr_Form_degree (ok_Form_degree T) (hr.mono (by decide)) T.b_Form_degree .nil pass0 (by rfl)) (pe_glob (v := .int 12) (by rfl) T.c_MOST_DEGREE ⟨_, rfl⟩) (nomark _)) (pss_one ps_never) pss_nil)
      (pss_one (ps_ret (pe_makeL (i := 0) T.mk_PrimeForm (ok_PrimeForm___init__ T) (hr.mono (by decide)) rfl (by first | exact .inl rfl | exact .inr (.inl rfl)) T.b_PrimeForm___init__ .nil pass0 (pa_cons (pv 2) (pa_cons (pe_call (ok_modulo T) (hr.mono (by decide)) (by rfl) T.m_modulo T.F_modulo.kp T.b_modulo .nil pass0 (pa_cons (pe_prop (pv 1) T.cl_Form T.pr_Form_entries (ok_Form_entries T) (hr.mono (by decide)) T.b_Form_entries .nil pass0 (by rfl)) (pa_cons (pv 2) pa_nil))) pa_nil)))))))), ?_⟩
    rw [st_PrimeForm_of_form]
    simp only [ap_seq, ap_next, ap_asg, ap_gName, ap_ret, ap_retN, ap_drop, ap_ifS, ap_break, ap_cont, ap_par, ap_aug, ap_ip, ap_gSub, ap_gTup, ap_gNil, ap_gCons, ap_var, ap_c, ap_op, ap_un, ap_if, ap_test, ap_B, ap_and, ap_or, ap_not, ap_andV, ap_orV, ap_notV, ap_nil, ap_cons, ap_tup, ap_lst, ap_cb, ap_bm, ap_call, ap_chain, ap_rI, ap_rI0, ap_rU, ap_rEq, ap_rNe, ap_revT, ap_sl, ap_part, ap_noPart, ap_ixLI, ap_ixTI, ap_ixLV, ap_ixTV, ap_len, ap_setLI, ap_setLV, ap_appI, ap_appV, ap_tupL, ap_listS, ap_sumLI, ap_sumTI, ap_repLI, ap_intI, ap_intB, ap_eqTI, ap_neTI, ap_eqLI, ap_neLI, ap_isi, ap_for, ap_rng1, ap_rng2, ap_iList, ap_iTup, ap_lc, ap_yes, ap_cut, ap_gTupH, ap_fmt, ap_jsn, ap_jsc, ap_gcd, ap_isqrt, ap_ixL, tyV_l, wipe_nil, wipe_cons, upd_same, ap_iEnT, ap_iEnL, ap_iZipA, ap_all, ap_tupT, ap_attF, ap_makeL, ap_att, ap_prop, ap_isO, ap_bin, ap_ne, ap_meth, ap_make, ins_inj, FE_inj, ap_slI, ap_catI, ap_perm, ap_lenO, ap_strO, ap_listO, ap_reprB, ap_iterT, ap_neT, ap_negO, ap_binI, ap_catL, ap_tM1, ap_repTI, ap_popN, ap_par3, ap_catTT, ap_repTA, ap_countT, ap_notInT, ap_repL1, ap_cm, ap_shl, ap_shr, ap_mask, ap_comb, ap_bits, ap_rng3, List.set_cons_zero, List.set_cons_succ, List.getElem?_cons_zero, List.getElem?_cons_succ, List.cons_append, List.nil_append, List.append_nil, Option.some.injEq, V.int.injEq, V.ref.injEq, V.bl.injEq, V.str.injEq, V.ty.injEq, Bool.not_true, Bool.not_false, HO.lst.injEq, HO.tup.injEq, reduceCtorEq, Int.reduceToNat, Int.reduceLT, Int.reduceLE, Nat.reduceAdd, Int.cast_ofNat_Int, gi_c0, gi_c1, gi_c2, gi_c3, Int.natCast_inj, map_int_inj, map_nil_iff, List.cons.injEq, exists_eq_left, exists_eq_left', exists_eq, exists_eq', exists_and_left, exists_and_right, exists_const, and_assoc, and_true, true_and, and_false, false_and, or_false, false_or, or_true, true_or, ite_true, ite_false, if_true, if_false, Bool.false_eq_true, own_cons, own_nil, le1, le2, le3, le4, me_cons, me_nil, List.length_map, List.length_cons, List.length_nil, ne_eq, not_false_eq_true, not_true_eq_false, decide_eq_true_eq, hf, sp_need_form, sp_need_prime, sp_Form_degree, sp_Form_entries]
    have pb := primes_bd pp
    refine ⟨pp, es, ht, ?_⟩
    rw [if_neg (by omega)]
    refine ⟨t, es, p, rfl, .inr ht, by omega, wd, by omega, by omega, fun H1 r s1 nr er => ?_⟩
    have lmd : (List.map (fun x => x % p) es).length = es.length := List.length_map ..
    refine newP_ok er pp ⟨by omega, by omega, fun n hn => by have := md_rg (p := p) (by omega) _ n hn; unfold Sm; omega⟩ fun z H2 s2 nz hz => ?_
    rw [md_md] at hz
    exact k H2 z (s1.trans s2) (free_of s1 nz) hz
end
end My
namespace My
open PySem PySem.Spec PyProof.Rows L2 Pr
theorem join_cons (sep x y : Str) (r : List Str) : Txt.join sep (x :: y :: r) = x ++ sep ++ Txt.join sep (y :: r) := by
  rw [TL.join_eq, TL.join_eq]
  rfl
def txtI (n : Int) : Str := Str.ofString (toString n)
def formT (es : List Int) : Str := Str.ofString "form " ++ Txt.join (Str.ofString " ") (es.map txtI)
theorem txtI_len {n : Int} (h : Sm n) : n.natAbs.log2 < 1920 ∧ (txtI n).length ≤ 1921 := by
  have h1 : n.natAbs.log2 < 1920 := by
    have : n.natAbs < 2 ^ 1920 := Nat.lt_of_lt_of_le (show n.natAbs < 10 ^ 60 by unfold Sm at h; omega) (by decide +kernel)
    exact Nat.lt_of_lt_of_le (PySem.Flt.log2_lt_of (by decide) this) (by decide)
  exact ⟨h1, int_text_len_1921 h1⟩
theorem txt_sum : ∀ {es : List Int}, (∀ n ∈ es, Sm n) → ((es.map txtI).map (·.length)).sum ≤ 1921 * es.length
  | [], _ => Nat.le_refl _
  | n :: es, h => by
    have h1 := (txtI_len (h n List.mem_cons_self)).2
    have h2 := txt_sum (es := es) fun m hm => h m (List.mem_cons_of_mem _ hm)
    rw [List.map_cons, List.map_cons, List.sum_cons, List.length_cons]
    omega
theorem txt_join {es : List Int} (h : ∀ n ∈ es, Sm n) : (Txt.join (Str.ofString " ") (es.map txtI)).length ≤ 1922 * es.length := by
  have h1 := StrLaws.join_length_le (Str.ofString " ") (es.map txtI)
  have h2 := txt_sum h
  rw [TL.join_eq]
  rw [List.length_map] at h1
  have h3 : (Str.ofString " ").length = 1 := rfl
  rw [h3] at h1
  omega
theorem formT_eq {es : List Int} (h : 0 < es.length) : Txt.join (Str.ofString " ") (Str.ofString "form" :: es.map txtI) = formT es := by
  match es, h with
  | n :: es, _ =>
    rw [List.map_cons, join_cons]
    rfl
theorem range_txt (es : List Int) : (List.range (es.map V.int).length).map (fun i => V.str (txtI (es.getD i 0))) = (es.map txtI).map V.str := by
  rw [List.length_map]
  refine List.ext_getElem (by simp) fun i h1 h2 => ?_
  have hi : i < es.length := by simpa using h2
  simp [List.getD_eq_getElem?_getD, hi]
theorem lead_zero (es : List Int) : leadV es = .non ↔ V.int (gcdL es) = V.int 0 := by
  rcases lead_cases es with ⟨e, g⟩ | ⟨i, x, t, e, ex, x0, _⟩
  · have : gcdL es = 0 := gcdL_zero fun n hn => by
      rw [List.filter_eq_nil_iff] at g
      have := g n hn
      simpa [nz] using this
    rw [e, this]
    simp
  · have g : gcdL es ≠ 0 := fun h => by
      have d := gcdL_dvd (List.mem_of_getElem? ex)
      rw [h] at d
      exact x0 (Int.zero_dvd.mp d)
    rw [e]
    simp [g]
/-- the text of a prime form -/
def primeT (p : Int) (es : List Int) : Str := formT es ++ Str.ofString " over " ++ txtI p
section
variable {P : Program} {w : World} {K : PySem.W.Frag} {mg : Str → Option Value} {base : Heap}
def sp_PrimeForm___str__ (C : Addr) : Sp := fun vs H Q _ => ∃ (a : Addr) (p : Int) (es : List Int), vs = [.ref a] ∧ PFAt C H a p es ∧ es.length < 1000 ∧ (∀ n ∈ es, Sm n) ∧ Sm p ∧ ∀ H', Same H H' → Q (.str (primeT p es)) H'
theorem ok_PrimeForm___str__ (T : Tx K mg) : FnOk P w K mg base CX0 4 T.f_PrimeForm___str__ T.d_PrimeForm___str__ p_PrimeForm___str__ (sp_PrimeForm___str__ T.C_PrimeForm) := by
  refine T.F_PrimeForm___str__.ok sc_PrimeForm___str__ (fun vs H Q E h => ?_) (fun cdv A outer s H vs Q E hr h => ?_)
  · obtain ⟨a, p, es, rfl, _⟩ := h
    rfl
  · obtain ⟨a, p, es, rfl, ⟨dx, t, hp, ht⟩, hl, bs, bp, q⟩ := h
    refine ⟨_, (pss_cons (ps_set (i := 1) sc_PrimeForm___str__.nd rfl (Or.inl rfl) (pe_join pe_str (pe_lc (own := [("entry", 2)]) (g := gName 2) (tt := tYes) rfl sc_PrimeForm___str__.nd (pi_tup (pe_attF (pe_fld (pv 0) rfl) mono_var T.cl_PrimeForm T.no_PrimeForm_entries)) (blkOk_by (N := n_PrimeForm___str__) (sc := defScope s_PrimeForm___str__) (by decide +kernel)) (fun _ _ _ _ _ => (pg_name (i := 2) sc_PrimeForm___str__.nd rfl (by first | exact .inl rfl | exact .inr rfl))) (fun _ _ _ _ _ => pts_nil) (fun _ _ _ _ _ => (pe_callTy call_str_int (by rfl) T.z_str (by decide +kernel) (pa_cons (pv 2) pa_nil))))))
      (pss_one (ps_ret (pe_joined (.cons pe_str (.cons (pe_fmt (pv 1)) (.cons pe_str (.cons (pe_fmt (pe_attF (pe_fld (pv 0) rfl) mono_var T.cl_PrimeForm T.no_PrimeForm_prime)) .nil)))))))), ?_⟩
    rw [st_PrimeForm___str__]
    simp only [ap_seq, ap_next, ap_asg, ap_gName, ap_ret, ap_retN, ap_drop, ap_ifS, ap_break, ap_cont, ap_par, ap_aug, ap_ip, ap_gSub, ap_gTup, ap_gNil, ap_gCons, ap_var, ap_c, ap_op, ap_un, ap_if, ap_test, ap_B, ap_and, ap_or, ap_not, ap_andV, ap_orV, ap_notV, ap_nil, ap_cons, ap_tup, ap_lst, ap_cb, ap_bm, ap_call, ap_chain, ap_rI, ap_rI0, ap_rU, ap_rEq, ap_rNe, ap_revT, ap_sl, ap_part, ap_noPart, ap_ixLI, ap_ixTI, ap_ixLV, ap_ixTV, ap_len, ap_setLI, ap_setLV, ap_appI, ap_appV, ap_tupL, ap_listS, ap_sumLI, ap_sumTI, ap_repLI, ap_intI, ap_intB, ap_eqTI, ap_neTI, ap_eqLI, ap_neLI, ap_isi, ap_for, ap_rng1, ap_rng2, ap_iList, ap_iTup, ap_lc, ap_yes, ap_cut, ap_gTupH, ap_fmt, ap_jsn, ap_jsc, ap_gcd, ap_isqrt, ap_ixL, tyV_l, wipe_nil, wipe_cons, upd_same, ap_iEnT, ap_iEnL, ap_iZipA, ap_all, ap_tupT, ap_attF, ap_makeL, ap_att, ap_prop, ap_isO, ap_bin, ap_ne, ap_meth, ap_make, ins_inj, FE_inj, ap_slI, ap_catI, ap_perm, ap_lenO, ap_strO, ap_listO, ap_reprB, ap_iterT, ap_neT, ap_negO, ap_binI, ap_catL, ap_tM1, ap_repTI, ap_popN, ap_par3, ap_catTT, ap_repTA, ap_countT, ap_notInT, ap_repL1, ap_cm, ap_shl, ap_shr, ap_mask, ap_comb, ap_bits, ap_rng3, List.set_cons_zero, List.set_cons_succ, List.getElem?_cons_zero, List.getElem?_cons_succ, List.cons_append, List.nil_append, List.append_nil, Option.some.injEq, V.int.injEq, V.ref.injEq, V.bl.injEq, V.str.injEq, V.ty.injEq, Bool.not_true, Bool.not_false, HO.lst.injEq, HO.tup.injEq, reduceCtorEq, Int.reduceToNat, Int.reduceLT, Int.reduceLE, Nat.reduceAdd, Int.cast_ofNat_Int, gi_c0, gi_c1, gi_c2, gi_c3, Int.natCast_inj, map_int_inj, map_nil_iff, List.cons.injEq, exists_eq_left, exists_eq_left', exists_eq, exists_eq', exists_and_left, exists_and_right, exists_const, and_assoc, and_true, true_and, and_false, false_and, or_false, false_or, or_true, true_or, ite_true, ite_false, if_true, if_false, Bool.false_eq_true, own_cons, own_nil, le1, le2, le3, le4, me_cons, me_nil, List.length_map, List.length_cons, List.length_nil, ne_eq, not_false_eq_true, not_true_eq_false, decide_eq_true_eq, hp, PF_p, PF_e]
    refine ⟨⟨_, sqT_of ht⟩, lc_tupV (fun i => .str (txtI (es.getD i 0))) ht (by rw [List.length_map]; omega) (fun x => rfl) (fun i x G hx sm Q' hq => ?_) (fun D G nD sm eD => ?_)⟩
    · obtain ⟨n, rfl, en⟩ := at_int hx
      simp only [ap_seq, ap_next, ap_asg, ap_gName, ap_ret, ap_retN, ap_drop, ap_ifS, ap_break, ap_cont, ap_par, ap_aug, ap_ip, ap_gSub, ap_gTup, ap_gNil, ap_gCons, ap_var, ap_c, ap_op, ap_un, ap_if, ap_test, ap_B, ap_and, ap_or, ap_not, ap_andV, ap_orV, ap_notV, ap_nil, ap_cons, ap_tup, ap_lst, ap_cb, ap_bm, ap_call, ap_chain, ap_rI, ap_rI0, ap_rU, ap_rEq, ap_rNe, ap_revT, ap_sl, ap_part, ap_noPart, ap_ixLI, ap_ixTI, ap_ixLV, ap_ixTV, ap_len, ap_setLI, ap_setLV, ap_appI, ap_appV, ap_tupL, ap_listS, ap_sumLI, ap_sumTI, ap_repLI, ap_intI, ap_intB, ap_eqTI, ap_neTI, ap_eqLI, ap_neLI, ap_isi, ap_for, ap_rng1, ap_rng2, ap_iList, ap_iTup, ap_lc, ap_yes, ap_cut, ap_gTupH, ap_fmt, ap_jsn, ap_jsc, ap_gcd, ap_isqrt, ap_ixL, tyV_l, wipe_nil, wipe_cons, upd_same, ap_iEnT, ap_iEnL, ap_iZipA, ap_all, ap_tupT, ap_attF, ap_makeL, ap_att, ap_prop, ap_isO, ap_bin, ap_ne, ap_meth, ap_make, ins_inj, FE_inj, ap_slI, ap_catI, ap_perm, ap_lenO, ap_strO, ap_listO, ap_reprB, ap_iterT, ap_neT, ap_negO, ap_binI, ap_catL, ap_tM1, ap_repTI, ap_popN, ap_par3, ap_catTT, ap_repTA, ap_countT, ap_notInT, ap_repL1, ap_cm, ap_shl, ap_shr, ap_mask, ap_comb, ap_bits, ap_rng3, List.set_cons_zero, List.set_cons_succ, List.getElem?_cons_zero, List.getElem?_cons_succ, List.cons_append, List.nil_append, List.append_nil, Option.some.injEq, V.int.injEq, V.ref.injEq, V.bl.injEq, V.str.injEq, V.ty.injEq, Bool.not_true, Bool.not_false, HO.lst.injEq, HO.tup.injEq, reduceCtorEq, Int.reduceToNat, Int.reduceLT, Int.reduceLE, Nat.reduceAdd, Int.cast_ofNat_Int, gi_c0, gi_c1, gi_c2, gi_c3, Int.natCast_inj, map_int_inj, map_nil_iff, List.cons.injEq, exists_eq_left, exists_eq_left', exists_eq, exists_eq', exists_and_left, exists_and_right, exists_const, and_assoc, and_true, true_and, and_false, false_and, or_false, false_or, or_true, true_or, ite_true, ite_false, if_true, if_false, Bool.false_eq_true, own_cons, own_nil, le1, le2, le3, le4, me_cons, me_nil, List.length_map, List.length_cons, List.length_nil, ne_eq, not_false_eq_true, not_true_eq_false, decide_eq_true_eq]
      have e : es.getD i 0 = n := by rw [List.getD_eq_getElem?_getD, en]; rfl
      rw [e] at hq
      exact ⟨(txtI_len (bs n (List.mem_of_getElem? en))).1, hq G (Same.refl G)⟩
    · rw [range_txt] at eD
      have l1 := txt_sum bs
      have l2 := txt_join bs
      have z : (2000000 : Nat) ≤ sizeLine := by decide
      have l3 : (Str.ofString " ").length = 1 := rfl
      have l4 : (Str.empty ++ Str.ofString "form ").length = 5 := rfl
      have hp1 := sm _ _ hp
      have l5 : (Str.ofString " over ").length = 6 := rfl
      have l6 := txtI_len bp
      have l7 : (Str.ofString (toString p)).length ≤ 1921 := l6.2
      refine ⟨D, rfl, es.map txtI, .inl (sqL_of eD), by rw [List.length_map, l3]; omega, by rw [l4]; omega, by omega, by rw [Str.length_append, l4]; omega, by rw [Str.length_append, Str.length_append, l4, l5]; omega, dx, _, hp1, _, PF_p, .inr ⟨p, rfl, l6.1, by rw [Str.length_append, Str.length_append, Str.length_append, l4, l5]; omega, ?_⟩⟩
      exact q G sm
end
end My
namespace My
open PySem PySem.Spec PyProof.Rows L2 Pr
section
variable {P : Program} {w : World} {K : PySem.W.Frag} {mg : Str → Option Value} {base : Heap}
def sp_law_is_told (C : Addr) : Sp := fun vs H Q _ => ∃ (f e : Addr) (p : Int) (es : List Int), vs = [.ref f, .int p, .ref e] ∧ PFAt C H f p (md p es) ∧ H e = some (TI es) ∧ p ∈ primes ∧ 1 ≤ es.length ∧ es.length ≤ 13 ∧ (∀ n ∈ es, Wd n) ∧ ∀ H', Same H H' → Q (.bl true) H'
theorem ok_law_is_told (T : Tx K mg) : FnOk P w K mg base CX0 20 T.f_law_is_told T.d_law_is_told p_law_is_told (sp_law_is_told T.C_PrimeForm) := by
  refine T.F_law_is_told.ok sc_law_is_told (fun vs H Q E h => ?_) (fun cdv A outer s H vs Q E hr h => ?_)
  · obtain ⟨f, e, p, es, rfl, _⟩ := h
    rfl
  · obtain ⟨f, e, p, es, rfl, hf, he, pp, l1, l2, wd, k⟩ := h
    refine ⟨_, (pss_cons (ps_set (i := 3) sc_law_is_told.nd rfl (Or.inl rfl) (pe_call (ok_law_left_by T) (hr.mono (by decide)) (by rfl) T.m_law_left_by T.F_law_left_by.kp T.b_law_left_by .nil pass0 (pa_cons (pv 2) (pa_cons (pv 1) pa_nil))))
      (pss_cons (ps_if (PW.pt (pw_or (pt_cmpR op_ne (pe_prop (pv 0) T.cl_PrimeForm T.pr_PrimeForm_prime (ok_PrimeForm_prime T) (hr.mono (by decide)) T.b_PrimeForm_prime .nil pass0 (by rfl)) (pv 1) (nomark _)) (pw_or (pt_cmpR (op_neTI hr.units) (pe_prop (pv 0) T.cl_PrimeForm T.pr_PrimeForm_entries (ok_PrimeForm_entries T) (hr.mono (by decide)) T.b_PrimeForm_entries .nil pass0 (by rfl)) (pv 3) (nomark _)) (pw_or (pt_cmpR op_ne (pe_prop (pv 0) T.cl_PrimeForm T.pr_PrimeForm_degree (ok_PrimeForm_degree T) (hr.mono (by decide)) T.b_PrimeForm_degree .nil pass0 (by rfl)) (pe_op op_sub (pe_callB cr_len (by rfl) T.z_len PySem.boot_len (pa_cons (pv 3) pa_nil)) pe_int) (nomark _)) (pw_or1 (pt_cmpR op_ne (pe_callB cr_reprB (by rfl) T.z_repr (by decide +kernel) (pa_cons (pe_prop (pv 0) T.cl_PrimeForm T.pr_PrimeForm_is_zero (ok_PrimeForm_is_zero T) (hr.mono (by decide)) T.b_PrimeForm_is_zero .nil pass0 (by rfl)) pa_nil)) (pe_callB cr_reprB (by rfl) T.z_repr (by decide +kernel) (pa_cons (pe_cmpR op_eq (pe_call (ok_law_shared T) (hr.mono (by decide)) (by rfl) T.m_law_shared T.F_law_shared.kp T.b_law_shared .nil pass0 (pa_cons (pv 3) pa_nil)) pe_int (nomark _)) pa_nil)) (nomark _))))))) (pss_one (ps_ret pe_bl)) pss_nil)
      (pss_cons (ps_if (PW.pt (pw_or (pt_cmpR (op_neOwn T.nf_PrimeForm T.px_obj T.px_ne T.me_PrimeForm___eq__.at_ T.me_PrimeForm___eq__.fn (ok_PrimeForm___eq__ T) (hr.mono (by decide)) T.b_PrimeForm___eq__ pass0) (pe_prop (pv 0) T.cl_PrimeForm T.pr_PrimeForm_plain (ok_PrimeForm_plain T) (hr.mono (by decide)) T.b_PrimeForm_plain .nil pass0 (by rfl)) (pe_make T.mk_PrimeForm (ok_PrimeForm___init__ T) (hr.mono (by decide)) (by rfl) T.mg_PrimeForm T.b_PrimeForm___init__ .nil pass0 (pa_cons (pv 1) (pa_cons (pe_call (ok_law_first_one T) (hr.mono (by decide)) (by rfl) T.m_law_first_one T.F_law_first_one.kp T.b_law_first_one .nil pass0 (pa_cons (pv 3) (pa_cons (pv 1) pa_nil))) pa_nil))) (nomark _)) (pw_or1 (pt_cmpR (op_neTI hr.units) (pe_prop (pe_prop (pe_prop (pv 0) T.cl_PrimeForm T.pr_PrimeForm_plain (ok_PrimeForm_plain T) (hr.mono (by decide)) T.b_PrimeForm_plain .nil pass0 (by rfl)) T.cl_PrimeForm T.pr_PrimeForm_plain (ok_PrimeForm_plain T) (hr.mono (by decide)) T.b_PrimeForm_plain .nil pass0 (by rfl)) T.cl_PrimeForm T.pr_PrimeForm_entries (ok_PrimeForm_entries T) (hr.mono (by decide)) T.b_PrimeForm_entries .nil pass0 (by rfl)) (pe_call (ok_law_first_one T) (hr.mono (by decide)) (by rfl) T.m_law_first_one T.F_law_first_one.kp T.b_law_first_one .nil pass0 (pa_cons (pv 3) (pa_cons (pv 1) pa_nil))) (nomark _))))) (pss_one (ps_ret pe_bl)) pss_nil)
      (pss_cons (ps_set (i := 4) sc_law_is_told.nd rfl (Or.inl rfl) (pe_join pe_str (pe_op op_catL (pe_lst (pa_cons pe_str pa_nil)) (pe_lc (own := [("_law_entry", 5)]) (g := gName 5) (tt := tYes) rfl sc_law_is_told.nd (pi_tup (pv 3)) (blkOk_by (N := n_law_is_told) (sc := defScope s_law_is_told) (by decide +kernel)) (fun _ _ _ _ _ => (pg_name (i := 5) sc_law_is_told.nd rfl (by first | exact .inl rfl | exact .inr rfl))) (fun _ _ _ _ _ => pts_nil) (fun _ _ _ _ _ => (pe_callTy call_str_int (by rfl) T.z_str (by decide +kernel) (pa_cons (pv 5) pa_nil)))))))
      (pss_cons (ps_if (pt_cmpR op_ne (pe_callTy (cr_strO T.me_PrimeForm___str__.at_ T.me_PrimeForm___str__.fn (ok_PrimeForm___str__ T) (hr.mono (by decide)) T.b_PrimeForm___str__ pass0) (by rfl) T.z_str (by decide +kernel) (pa_cons (pv 0) pa_nil)) (pe_op op_add_str (pe_op op_add_str (pv 4) pe_str) (pe_callTy call_str_int (by rfl) T.z_str (by decide +kernel) (pa_cons (pv 1) pa_nil))) (nomark _)) (pss_one (ps_ret pe_bl)) pss_nil)
      (pss_one (ps_ret (pe_and (pe_cmpR (op_eqOwn (fun _ _ => rfl) T.nf_PrimeForm T.me_PrimeForm___eq__.at_ T.me_PrimeForm___eq__.fn (ok_PrimeForm___eq__ T) (hr.mono (by decide)) T.b_PrimeForm___eq__ pass0) (pv 0) (pe_make T.mk_PrimeForm (ok_PrimeForm___init__ T) (hr.mono (by decide)) (by rfl) T.mg_PrimeForm T.b_PrimeForm___init__ .nil pass0 (pa_cons (pv 1) (pa_cons (pv 3) pa_nil))) (nomark _)) (pe_and (pe_cmpR (op_neOwnT T.px_nft T.px_obj T.px_ne T.me_PrimeForm___eq__.at_ T.me_PrimeForm___eq__.fn (ok_PrimeForm___eq__T T) (hr.mono (by decide)) T.b_PrimeForm___eq__ pass0) (pv 0) (pv 3) (nomark _)) (pe_one (pe_cmpR (op_neOwn T.nf_PrimeForm T.px_obj T.px_ne T.me_PrimeForm___eq__.at_ T.me_PrimeForm___eq__.fn (ok_PrimeForm___eq__ T) (hr.mono (by decide)) T.b_PrimeForm___eq__ pass0) (pv 0) (pe_make T.mk_PrimeForm (ok_PrimeForm___init__ T) (hr.mono (by decide)) (by rfl) T.mg_PrimeForm T.b_PrimeForm___init__ .nil pass0 (pa_cons (pe_ifExp (pt_cmpR op_ne (pv 1) pe_int (nomark _)) pe_int pe_int) (pa_cons (pv 3) pa_nil))) (nomark _)))))))))))), ?_⟩
    rw [st_law_is_told]
    have pb := primes_bd pp
    have p0 : 0 < p := by omega
    have hmm := md_md p es
    have lmd := md_len p es
    have rg := md_rg p0 es
    have smd : ∀ n ∈ md p es, Sm n := fun n hn => by have := rg n hn; unfold Sm; omega
    simp only [ap_seq, ap_next, ap_asg, ap_gName, ap_ret, ap_retN, ap_drop, ap_ifS, ap_break, ap_cont, ap_par, ap_aug, ap_ip, ap_gSub, ap_gTup, ap_gNil, ap_gCons, ap_var, ap_c, ap_op, ap_un, ap_if, ap_test, ap_B, ap_and, ap_or, ap_not, ap_andV, ap_orV, ap_notV, ap_nil, ap_cons, ap_tup, ap_lst, ap_cb, ap_bm, ap_call, ap_chain, ap_rI, ap_rI0, ap_rU, ap_rEq, ap_rNe, ap_revT, ap_sl, ap_part, ap_noPart, ap_ixLI, ap_ixTI, ap_ixLV, ap_ixTV, ap_len, ap_setLI, ap_setLV, ap_appI, ap_appV, ap_tupL, ap_listS, ap_sumLI, ap_sumTI, ap_repLI, ap_intI, ap_intB, ap_eqTI, ap_neTI, ap_eqLI, ap_neLI, ap_isi, ap_for, ap_rng1, ap_rng2, ap_iList, ap_iTup, ap_lc, ap_yes, ap_cut, ap_gTupH, ap_fmt, ap_jsn, ap_jsc, ap_gcd, ap_isqrt, ap_ixL, tyV_l, wipe_nil, wipe_cons, upd_same, ap_iEnT, ap_iEnL, ap_iZipA, ap_all, ap_tupT, ap_attF, ap_makeL, ap_att, ap_prop, ap_isO, ap_bin, ap_ne, ap_meth, ap_make, ins_inj, FE_inj, ap_slI, ap_catI, ap_perm, ap_lenO, ap_strO, ap_listO, ap_reprB, ap_iterT, ap_neT, ap_negO, ap_binI, ap_catL, ap_tM1, ap_repTI, ap_popN, ap_par3, ap_catTT, ap_repTA, ap_countT, ap_notInT, ap_repL1, ap_cm, ap_shl, ap_shr, ap_mask, ap_comb, ap_bits, ap_rng3, List.set_cons_zero, List.set_cons_succ, List.getElem?_cons_zero, List.getElem?_cons_succ, List.cons_append, List.nil_append, List.append_nil, Option.some.injEq, V.int.injEq, V.ref.injEq, V.bl.injEq, V.str.injEq, V.ty.injEq, Bool.not_true, Bool.not_false, HO.lst.injEq, HO.tup.injEq, reduceCtorEq, Int.reduceToNat, Int.reduceLT, Int.reduceLE, Nat.reduceAdd, Int.cast_ofNat_Int, gi_c0, gi_c1, gi_c2, gi_c3, Int.natCast_inj, map_int_inj, map_nil_iff, List.cons.injEq, exists_eq_left, exists_eq_left', exists_eq, exists_eq', exists_and_left, exists_and_right, exists_const, and_assoc, and_true, true_and, and_false, false_and, or_false, false_or, or_true, true_or, ite_true, ite_false, if_true, if_false, Bool.false_eq_true, own_cons, own_nil, le1, le2, le3, le4, me_cons, me_nil, List.length_map, List.length_cons, List.length_nil, ne_eq, not_false_eq_true, not_true_eq_false, decide_eq_true_eq]
    refine ⟨e, es, p, rfl, .inr he, by omega, wd, by omega, by omega, fun H1 d s1 nd hd => ?_⟩
    have hd : H1 d = some (TI (md p es)) := hd
    obtain ⟨dx, t, hf0, ht0⟩ := hf.same s1
    simp only [ap_seq, ap_next, ap_asg, ap_gName, ap_ret, ap_retN, ap_drop, ap_ifS, ap_break, ap_cont, ap_par, ap_aug, ap_ip, ap_gSub, ap_gTup, ap_gNil, ap_gCons, ap_var, ap_c, ap_op, ap_un, ap_if, ap_test, ap_B, ap_and, ap_or, ap_not, ap_andV, ap_orV, ap_notV, ap_nil, ap_cons, ap_tup, ap_lst, ap_cb, ap_bm, ap_call, ap_chain, ap_rI, ap_rI0, ap_rU, ap_rEq, ap_rNe, ap_revT, ap_sl, ap_part, ap_noPart, ap_ixLI, ap_ixTI, ap_ixLV, ap_ixTV, ap_len, ap_setLI, ap_setLV, ap_appI, ap_appV, ap_tupL, ap_listS, ap_sumLI, ap_sumTI, ap_repLI, ap_intI, ap_intB, ap_eqTI, ap_neTI, ap_eqLI, ap_neLI, ap_isi, ap_for, ap_rng1, ap_rng2, ap_iList, ap_iTup, ap_lc, ap_yes, ap_cut, ap_gTupH, ap_fmt, ap_jsn, ap_jsc, ap_gcd, ap_isqrt, ap_ixL, tyV_l, wipe_nil, wipe_cons, upd_same, ap_iEnT, ap_iEnL, ap_iZipA, ap_all, ap_tupT, ap_attF, ap_makeL, ap_att, ap_prop, ap_isO, ap_bin, ap_ne, ap_meth, ap_make, ins_inj, FE_inj, ap_slI, ap_catI, ap_perm, ap_lenO, ap_strO, ap_listO, ap_reprB, ap_iterT, ap_neT, ap_negO, ap_binI, ap_catL, ap_tM1, ap_repTI, ap_popN, ap_par3, ap_catTT, ap_repTA, ap_countT, ap_notInT, ap_repL1, ap_cm, ap_shl, ap_shr, ap_mask, ap_comb, ap_bits, ap_rng3, List.set_cons_zero, List.set_cons_succ, List.getElem?_cons_zero, List.getElem?_cons_succ, List.cons_append, List.nil_append, List.append_nil, Option.some.injEq, V.int.injEq, V.ref.injEq, V.bl.injEq, V.str.injEq, V.ty.injEq, Bool.not_true, Bool.not_false, HO.lst.injEq, HO.tup.injEq, reduceCtorEq, Int.reduceToNat, Int.reduceLT, Int.reduceLE, Nat.reduceAdd, Int.cast_ofNat_Int, gi_c0, gi_c1, gi_c2, gi_c3, Int.natCast_inj, map_int_inj, map_nil_iff, List.cons.injEq, exists_eq_left, exists_eq_left', exists_eq, exists_eq', exists_and_left, exists_and_right, exists_const, and_assoc, and_true, true_and, and_false, false_and, or_false, false_or, or_true, true_or, ite_true, ite_false, if_true, if_false, Bool.false_eq_true, own_cons, own_nil, le1, le2, le3, le4, me_cons, me_nil, List.length_map, List.length_cons, List.length_nil, ne_eq, not_false_eq_true, not_true_eq_false, decide_eq_true_eq, hf0, ht0, sp_PrimeForm_prime, sp_PrimeForm_entries, sp_PrimeForm_degree, PF_p, PF_e]
    have hf1 : PFAt T.C_PrimeForm H1 f p (md p es) := ⟨dx, t, hf0, ht0⟩
    have ez : (if decide (leadV (md p es) = .non) = true then Str.ofString "True" else Str.ofString "False") = if V.int (gcdL (md p es)) = V.int 0 then Str.ofString "True" else Str.ofString "False" := by
      by_cases c : leadV (md p es) = .non
      · rw [if_pos (decide_eq_true c), if_pos ((lead_zero (md p es)).mp c)]
      · rw [if_neg (by simp [c]), if_neg fun z => c ((lead_zero (md p es)).mpr z)]
    have big : ∀ n ∈ md p es, -(10 ^ 100) ≤ n ∧ n ≤ 10 ^ 100 := fun n hn => by have := rg n hn; omega
    have ep : plP p (md p es) = plR p (md p es) := plP_of hmm
    have rg2 := plR_rg (p := p) p0 rg
    have ln2 := plR_len p (md p es)
    have gp : Goop (plR p (md p es)) := ⟨by omega, by omega, fun n hn => by have := rg2 n hn; unfold Sm; omega⟩
    have gm : Goop (md p es) := ⟨by omega, by omega, smd⟩
    have em2 := md_id p0 rg2
    refine ⟨t, p, rfl, rfl, ?_⟩
    rw [decide_eq_true rfl, if_neg (by simp)]
    refine ⟨t, ⟨p, rfl⟩, _, ht0, _, hd, ?_⟩
    rw [decide_eq_true rfl, if_neg (by simp)]
    refine ⟨t, ⟨p, rfl⟩, _, ht0, _, .inr hd, rfl, ?_⟩
    rw [List.length_map (f := V.int), decide_eq_true rfl, if_neg (by simp)]
    refine ⟨f, p, md p es, rfl, hf1, fun H2 s2 => ⟨_, rfl, d, md p es, rfl, s2 _ _ hd, rfl, rfl, ?_⟩⟩
    rw [ez, decide_eq_true rfl, if_neg (by simp)]
    have hf2 := hf1.same s2
    obtain ⟨dx2, t2, hf2a, ht2⟩ := id hf2
    refine ⟨⟨_, _, hf2a⟩, f, p, md p es, rfl, hf2, pp, by omega, by omega, hmm, fun H3 a s3 na ha => ?_⟩
    have hd3 := s3 _ _ (s2 _ _ hd)
    refine ⟨d, md p es, p, rfl, hd3, by omega, big, by omega, by omega, fun H4 b s4 nb hb => ?_⟩
    rw [ep] at hb
    refine newP_ok hb pp gp fun c H5 s5 nc hc => ?_
    rw [em2] at hc
    have ha5 := ha.same (s4.trans s5)
    obtain ⟨dxa, ta, hfa, hta⟩ := id ha5
    obtain ⟨dxc, tc, hfc, htc⟩ := id hc
    refine ⟨a, rfl, dxa, _, c, rfl, hfa, ⟨_, _, hfc⟩, a, c, p, p, _, _, rfl, ha5, hc, by omega, by omega, true, by rw [decide_eq_true ⟨rfl, rfl⟩], ?_⟩
    rw [if_neg (by simp)]
    have S5 := ((s2.trans s3).trans s4).trans s5
    have hf5 := hf1.same S5
    obtain ⟨dx5, t5, hf5a, ht5⟩ := id hf5
    refine ⟨⟨_, _, hf5a⟩, f, p, md p es, rfl, hf5, pp, by omega, by omega, hmm, fun H6 a6 s6 n6 h6 => ?_⟩
    obtain ⟨d6, t6, h6a, h6t⟩ := id h6
    refine ⟨a6, rfl, ⟨_, _, h6a⟩, a6, p, plR p (md p es), rfl, h6, pp, by omega, by omega, em2, fun H7 a7 s7 n7 h7 => ?_⟩
    rw [plR_idem pp hmm] at h7
    obtain ⟨d7, t7, h7a, h7t⟩ := id h7
    refine ⟨a7, rfl, ⟨_, _, h7a⟩, d7, t7, ⟨p, h7a⟩, ?_⟩
    have S7 := (S5.trans s6).trans s7
    have hd7 := S7 _ _ hd
    refine ⟨d, md p es, p, rfl, hd7, by omega, big, by omega, by omega, fun H8 b8 s8 n8 h8 => ?_⟩
    rw [ep] at h8
    refine ⟨b8, rfl, _, s8 _ _ h7t, _, h8, ?_⟩
    rw [decide_eq_true rfl, if_neg (by simp)]
    have S8 := S7.trans s8
    refine ⟨by decide, fun y3 n3 => ?_⟩
    have S9 := S8.trans (same_upd (o := HO.lst [V.str (Str.ofString "form")]) n3)
    have e3 : upd H8 y3 (HO.lst [V.str (Str.ofString "form")]) y3 = some (.lst [V.str (Str.ofString "form")]) := upd_same
    generalize upd H8 y3 (HO.lst [V.str (Str.ofString "form")]) = H9 at S9 e3 ⊢
    have hd9 := S9 _ _ hd
    refine ⟨⟨_, sqT_of hd9⟩, lc_tupV (fun i => .str (txtI ((md p es).getD i 0))) hd9 (by rw [List.length_map]; omega) (fun x => rfl) (fun i x G hx sm Q' hq' => ?_) (fun D G nD sm eD => ?_)⟩
    · obtain ⟨n, rfl, en⟩ := at_int hx
      simp only [ap_seq, ap_next, ap_asg, ap_gName, ap_ret, ap_retN, ap_drop, ap_ifS, ap_break, ap_cont, ap_par, ap_aug, ap_ip, ap_gSub, ap_gTup, ap_gNil, ap_gCons, ap_var, ap_c, ap_op, ap_un, ap_if, ap_test, ap_B, ap_and, ap_or, ap_not, ap_andV, ap_orV, ap_notV, ap_nil, ap_cons, ap_tup, ap_lst, ap_cb, ap_bm, ap_call, ap_chain, ap_rI, ap_rI0, ap_rU, ap_rEq, ap_rNe, ap_revT, ap_sl, ap_part, ap_noPart, ap_ixLI, ap_ixTI, ap_ixLV, ap_ixTV, ap_len, ap_setLI, ap_setLV, ap_appI, ap_appV, ap_tupL, ap_listS, ap_sumLI, ap_sumTI, ap_repLI, ap_intI, ap_intB, ap_eqTI, ap_neTI, ap_eqLI, ap_neLI, ap_isi, ap_for, ap_rng1, ap_rng2, ap_iList, ap_iTup, ap_lc, ap_yes, ap_cut, ap_gTupH, ap_fmt, ap_jsn, ap_jsc, ap_gcd, ap_isqrt, ap_ixL, tyV_l, wipe_nil, wipe_cons, upd_same, ap_iEnT, ap_iEnL, ap_iZipA, ap_all, ap_tupT, ap_attF, ap_makeL, ap_att, ap_prop, ap_isO, ap_bin, ap_ne, ap_meth, ap_make, ins_inj, FE_inj, ap_slI, ap_catI, ap_perm, ap_lenO, ap_strO, ap_listO, ap_reprB, ap_iterT, ap_neT, ap_negO, ap_binI, ap_catL, ap_tM1, ap_repTI, ap_popN, ap_par3, ap_catTT, ap_repTA, ap_countT, ap_notInT, ap_repL1, ap_cm, ap_shl, ap_shr, ap_mask, ap_comb, ap_bits, ap_rng3, List.set_cons_zero, List.set_cons_succ, List.getElem?_cons_zero, List.getElem?_cons_succ, List.cons_append, List.nil_append, List.append_nil, Option.some.injEq, V.int.injEq, V.ref.injEq, V.bl.injEq, V.str.injEq, V.ty.injEq, Bool.not_true, Bool.not_false, HO.lst.injEq, HO.tup.injEq, reduceCtorEq, Int.reduceToNat, Int.reduceLT, Int.reduceLE, Nat.reduceAdd, Int.cast_ofNat_Int, gi_c0, gi_c1, gi_c2, gi_c3, Int.natCast_inj, map_int_inj, map_nil_iff, List.cons.injEq, exists_eq_left, exists_eq_left', exists_eq, exists_eq', exists_and_left, exists_and_right, exists_const, and_assoc, and_true, true_and, and_false, false_and, or_false, false_or, or_true, true_or, ite_true, ite_false, if_true, if_false, Bool.false_eq_true, own_cons, own_nil, le1, le2, le3, le4, me_cons, me_nil, List.length_map, List.length_cons, List.length_nil, ne_eq, not_false_eq_true, not_true_eq_false, decide_eq_true_eq]
      have e : (md p es).getD i 0 = n := by rw [List.getD_eq_getElem?_getD, en]; rfl
      rw [e] at hq'
      exact ⟨(txtI_len (smd n (List.mem_of_getElem? en))).1, hq' G (Same.refl G)⟩
    · rw [range_txt] at eD
      have lt : ((md p es).map txtI).length = es.length := by rw [List.length_map, lmd]
      refine ⟨D, rfl, _, sm _ _ e3, _, eD, by rw [List.length_map, lt]; show 1 + es.length < 1000000; omega, fun l nl => ?_⟩
      have S10 := (S9.trans sm).trans (same_upd (o := HO.lst ([V.str (Str.ofString "form")] ++ ((md p es).map txtI).map V.str)) nl)
      have el : upd G l (HO.lst ([V.str (Str.ofString "form")] ++ ((md p es).map txtI).map V.str)) l = some (.lst ((Str.ofString "form" :: (md p es).map txtI).map V.str)) := upd_same
      generalize upd G l (HO.lst ([V.str (Str.ofString "form")] ++ ((md p es).map txtI).map V.str)) = H10 at S10 el ⊢
      have l1' := txt_sum smd
      have l2' := txt_join smd
      have l3 : (Str.ofString " ").length = 1 := rfl
      have l4 : (Str.ofString "form").length = 4 := rfl
      refine ⟨Str.ofString "form" :: (md p es).map txtI, .inl (sqL_of el), by rw [List.map_cons, List.sum_cons, List.length_cons, lt, l3, l4]; omega, ?_⟩
      have sp' : Sm p := by unfold Sm; omega
      have zl : (2000000 : Nat) ≤ sizeLine := by decide
      have l5 : (Str.ofString " over ").length = 6 := rfl
      have l6 := txtI_len sp'
      have l7 : (Str.ofString (toString p)).length ≤ 1921 := l6.2
      have lfT : (formT (md p es)).length ≤ 5 + 1922 * 13 := by
        have : (Str.ofString "form ").length = 5 := rfl
        unfold formT
        rw [Str.length_append, this]
        omega
      have hf10 := hf1.same S10
      obtain ⟨dx9, t9, hf9a, ht9⟩ := id hf10
      refine ⟨⟨_, _, hf9a⟩, f, p, md p es, rfl, hf10, by omega, smd, sp', fun H11 s11 => ?_⟩
      rw [formT_eq (by omega)]
      refine ⟨_, rfl, by omega, l6.1, by rw [Str.length_append, l5]; omega, rfl, ?_⟩
      rw [decide_eq_true (show primeT p (md p es) = formT (md p es) ++ Str.ofString " over " ++ Str.ofString (toString p) from rfl), if_neg (by simp)]
      have S11 := S10.trans s11
      have hd11 := S11 _ _ hd
      refine newP_ok hd11 pp gm fun c1 H12 s12 nc1 hc1 => ?_
      rw [hmm] at hc1
      have S12' := S11.trans s12
      have hf12 := hf1.same S12'
      obtain ⟨dy, ty', hya, hyt⟩ := id hf12
      obtain ⟨dz, tz, hza, hzt⟩ := id hc1
      refine ⟨dy, _, c1, rfl, hya, ⟨_, _, hza⟩, f, c1, p, p, _, _, rfl, hf12, hc1, by omega, by omega, true, by rw [decide_eq_true ⟨rfl, rfl⟩], ?_⟩
      rw [if_pos rfl]
      refine ⟨⟨_, _, hya⟩, ⟨_, S12' _ _ hd⟩, f, d, dy, _, _, rfl, hya, S12' _ _ hd, false, rfl, ?_⟩
      rw [if_pos (show (!false) = true from rfl)]
      refine ⟨rfl, ?_⟩
      by_cases c13 : p = 13
      · rw [decide_eq_true c13, if_neg (by simp)]
        refine newP_ok (S12' _ _ hd) (by decide) gm fun c2 H13 s13 nc2 hc2 => ?_
        have hf13 := hf1.same (S12'.trans s13)
        obtain ⟨du, tu, hua, hut⟩ := id hf13
        obtain ⟨dv, tv, hva, hvt⟩ := id hc2
        refine ⟨du, _, c2, rfl, hua, ⟨_, _, hva⟩, f, c2, p, 17, _, _, rfl, hf13, hc2, by omega, by rw [md_len]; omega, false, by rw [decide_eq_false fun h => (show p ≠ 17 by omega) h.1], ?_⟩
        exact k _ (s1.trans (S12'.trans s13))
      · rw [decide_eq_false c13, if_pos (show (!false) = true from rfl)]
        refine newP_ok (S12' _ _ hd) (by decide) gm fun c2 H13 s13 nc2 hc2 => ?_
        have hf13 := hf1.same (S12'.trans s13)
        obtain ⟨du, tu, hua, hut⟩ := id hf13
        obtain ⟨dv, tv, hva, hvt⟩ := id hc2
        refine ⟨du, _, c2, rfl, hua, ⟨_, _, hva⟩, f, c2, p, 13, _, _, rfl, hf13, hc2, by omega, by rw [md_len]; omega, false, by rw [decide_eq_false fun h => c13 h.1], ?_⟩
        exact k _ (s1.trans (S12'.trans s13))
end
end My
namespace My
open PySem PySem.Spec PyProof.Rows L2 Pr
theorem ch_ch {a b c d x y z u : Int} {es : List Int} (pos : 0 < es.length) : chP [x, y] [z, u] (chP [a, b] [c, d] es) = chP [a * x + b * z, a * y + b * u] [c * x + d * z, c * y + d * u] es := by
  have l1 : (chP [a, b] [c, d] es).length = es.length := chP_len rfl rfl pos
  have l2 : (chP [x, y] [z, u] (chP [a, b] [c, d] es)).length = es.length := by rw [chP_len rfl rfl (by omega), l1]
  refine (chP_eq rfl rfl pos l2 fun p q => ?_).symm
  rw [chP_val rfl rfl (by omega), chP_val rfl rfl pos, val_two, val_two, val_two, val_two, val_two, val_two]
  congr 1 <;> grind
theorem ch_mul {a b c d : Int} {es fs : List Int} (pos : 0 < es.length) (pos2 : 0 < fs.length) : chP [a, b] [c, d] (mulP es fs) = mulP (chP [a, b] [c, d] es) (chP [a, b] [c, d] fs) := by
  have l1 : (chP [a, b] [c, d] es).length = es.length := chP_len rfl rfl pos
  have l2 : (chP [a, b] [c, d] fs).length = fs.length := chP_len rfl rfl pos2
  have lm := mulP_len es fs
  refine chP_eq rfl rfl (by omega) (by rw [mulP_len, mulP_len, l1, l2]) fun p q => ?_
  rw [val_mulP (by omega) (by omega), val_mulP pos pos2, chP_val rfl rfl pos, chP_val rfl rfl pos2]
theorem l1_two {a b : Int} {m : Nat} (ha : -m ≤ a ∧ a ≤ m) (hb : -m ≤ b ∧ b ≤ m) : l1 [a, b] ≤ 2 * m := by
  show a.natAbs + (b.natAbs + 0) ≤ _
  omega
theorem exT {d p : Addr} {H H' : Hp} {xs : List V} (D : Dc H d) (ex : Exc d H H') (h : H p = some (.tup xs)) : H' p = some (.tup xs) := by
  obtain ⟨_, _, _, ed⟩ := D
  refine ex _ _ (fun e => ?_) h
  subst e
  rw [ed] at h
  cases h
theorem exI {d p C dx : Addr} {H H' : Hp} {fs : List (Str × V)} (D : Dc H d) (ex : Exc d H H') (h : H p = some (.ins C dx fs)) : H' p = some (.ins C dx fs) := by
  obtain ⟨_, _, _, ed⟩ := D
  refine ex _ _ (fun e => ?_) h
  subst e
  rw [ed] at h
  cases h
theorem TabAt.exc {H H' : Hp} {d p : Addr} {a b c e : Int} (D : Dc H d) (ex : Exc d H H') (h : TabAt H p a b c e) : TabAt H' p a b c e := by
  obtain ⟨r, t, h1, h2, h3⟩ := h
  exact ⟨r, t, exT D ex h1, exT D ex h2, exT D ex h3⟩
/-- entries from -m to m -/
structure Tb (m : Int) (a b c d : Int) : Prop where
  a : -m ≤ a ∧ a ≤ m
  b : -m ≤ b ∧ b ≤ m
  c : -m ≤ c ∧ c ≤ m
  d : -m ≤ d ∧ d ≤ m
theorem Tb.chg {m : Nat} {a b c d : Int} {es : List Int} {A N : Nat} (t : Tb m a b c d) (pos : 0 < es.length) (hN : es.length ≤ N) (h30 : N ≤ 30) (bd : ∀ n ∈ es, n.natAbs ≤ A) (hA : A < 10 ^ 200) (hm : 1 ≤ m) (pw : (2 * m) ^ N < 10 ^ 250) : Chg es [a, b] [c, d] A (2 * m) :=
  ⟨pos, by omega, bd, hA, rfl, rfl, l1_two t.a t.b, l1_two t.c t.d, by omega, Nat.lt_of_le_of_lt (Nat.pow_le_pow_right (by omega) hN) pw⟩
section
variable {P : Program} {w : World} {K : PySem.W.Frag} {mg : Str → Option Value} {base : Heap}
def sp_law_changed : Sp := fun vs H Q _ => ∃ (p q : Addr) (es : List Int) (a b c d : Int) (A L : Nat), vs = [.ref p, .ref q] ∧ H p = some (TI es) ∧ TabAt H q a b c d ∧ Chg es [a, b] [c, d] A L ∧
  ∀ H' r, Same H H' → H' r = some (TI (chP [a, b] [c, d] es)) → Q (.ref r) H'
theorem ok_law_changed (T : Tx K mg) : FnOk P w K mg base CX0 3 T.f_law_changed T.d_law_changed p_law_changed sp_law_changed := by
  refine T.F_law_changed.ok sc_law_changed (fun vs H Q E h => ?_) (fun cdv A outer s H vs Q E hr h => ?_)
  · obtain ⟨p, q, es, a, b, c, d, A', L, rfl, _⟩ := h
    rfl
  · obtain ⟨p, q, es, a, b, c, d, B, L, rfl, hp, ⟨r1, r2, h1, h2, h3⟩, hc, k⟩ := h
    refine ⟨_, (pss_cons (ps_set (i := 2) sc_law_changed.nd rfl (Or.inl rfl) (pe_callTy cr_tupL (by rfl) T.z_tuple (by decide +kernel) (pa_cons (pe_lc (own := [("_law_entry", 4)]) (g := gName 4) (tt := tYes) rfl sc_law_changed.nd (pi_tup (pv 0)) (blkOk_by (N := n_law_changed) (sc := defScope s_law_changed) (by decide +kernel)) (fun _ _ _ _ _ => (pg_name (i := 4) sc_law_changed.nd rfl (by first | exact .inl rfl | exact .inr rfl))) (fun _ _ _ _ _ => pts_nil) (fun _ _ _ _ _ => pe_int)) pa_nil)))
      (pss_cons (ps_for PassesOwn.never rfl (pi_enT (by rfl) T.z_enumerate (pa_cons (pv 0) pa_nil)) (pg_tupH (n := 2) (by rfl) (pgs_cons (pg_name (i := 3) sc_law_changed.nd rfl (by first | exact .inl rfl | exact .inr rfl)) (pgs_cons (pg_name (i := 4) sc_law_changed.nd rfl (by first | exact .inl rfl | exact .inr rfl)) pgs_nil)))
      (pss_cons (ps_set (i := 5) sc_law_changed.nd rfl (Or.inl rfl) (pe_call (ok_law_product T) (hr.mono (by decide)) (by rfl) T.m_law_product T.F_law_product.kp T.b_law_product .nil pass0 (pa_cons (pe_call (ok_law_power T) (hr.mono (by decide)) (by rfl) T.m_law_power T.F_law_power.kp T.b_law_power .nil pass0 (pa_cons (pe_ix ix_TV (pv 1) pe_int (fun _ _ => rfl)) (pa_cons (pe_op op_sub (pe_op op_sub (pe_callB cr_len (by rfl) T.z_len PySem.boot_len (pa_cons (pv 0) pa_nil)) pe_int) (pv 3)) pa_nil))) (pa_cons (pe_call (ok_law_power T) (hr.mono (by decide)) (by rfl) T.m_law_power T.F_law_power.kp T.b_law_power .nil pass0 (pa_cons (pe_ix ix_TV (pv 1) pe_int (fun _ _ => rfl)) (pa_cons (pv 3) pa_nil))) pa_nil))))
      (pss_one (ps_set (i := 2) sc_law_changed.nd rfl (Or.inl rfl) (pe_call (ok_law_plus T) (hr.mono (by decide)) (by rfl) T.m_law_plus T.F_law_plus.kp T.b_law_plus .nil pass0 (pa_cons (pv 2) (pa_cons (pe_call (ok_law_scaled T) (hr.mono (by decide)) (by rfl) T.m_law_scaled T.F_law_scaled.kp T.b_law_scaled .nil pass0 (pa_cons (pv 5) (pa_cons (pv 4) pa_nil))) pa_nil)))))))
      (pss_one (ps_ret (pv 2))))), ?_⟩
    rw [st_law_changed]
    simp only [ap_seq, ap_next, ap_asg, ap_gName, ap_ret, ap_retN, ap_drop, ap_ifS, ap_break, ap_cont, ap_par, ap_aug, ap_ip, ap_gSub, ap_gTup, ap_gNil, ap_gCons, ap_var, ap_c, ap_op, ap_un, ap_if, ap_test, ap_B, ap_and, ap_or, ap_not, ap_andV, ap_orV, ap_notV, ap_nil, ap_cons, ap_tup, ap_lst, ap_cb, ap_bm, ap_call, ap_chain, ap_rI, ap_rI0, ap_rU, ap_rEq, ap_rNe, ap_revT, ap_sl, ap_part, ap_noPart, ap_ixLI, ap_ixTI, ap_ixLV, ap_ixTV, ap_len, ap_setLI, ap_setLV, ap_appI, ap_appV, ap_tupL, ap_listS, ap_sumLI, ap_sumTI, ap_repLI, ap_intI, ap_intB, ap_eqTI, ap_neTI, ap_eqLI, ap_neLI, ap_isi, ap_for, ap_rng1, ap_rng2, ap_iList, ap_iTup, ap_lc, ap_yes, ap_cut, ap_gTupH, ap_fmt, ap_jsn, ap_jsc, ap_gcd, ap_isqrt, ap_ixL, tyV_l, wipe_nil, wipe_cons, upd_same, ap_iEnT, ap_iEnL, ap_iZipA, ap_all, ap_tupT, ap_attF, ap_makeL, ap_att, ap_prop, ap_isO, ap_bin, ap_ne, ap_meth, ap_make, ins_inj, FE_inj, ap_slI, ap_catI, ap_perm, ap_lenO, ap_strO, ap_listO, ap_reprB, ap_iterT, ap_neT, ap_negO, ap_binI, ap_catL, ap_tM1, ap_repTI, ap_popN, ap_par3, ap_catTT, ap_repTA, ap_countT, ap_notInT, ap_repL1, ap_cm, ap_shl, ap_shr, ap_mask, ap_comb, ap_bits, ap_rng3, List.set_cons_zero, List.set_cons_succ, List.getElem?_cons_zero, List.getElem?_cons_succ, List.cons_append, List.nil_append, List.append_nil, Option.some.injEq, V.int.injEq, V.ref.injEq, V.bl.injEq, V.str.injEq, V.ty.injEq, Bool.not_true, Bool.not_false, HO.lst.injEq, HO.tup.injEq, reduceCtorEq, Int.reduceToNat, Int.reduceLT, Int.reduceLE, Nat.reduceAdd, Int.cast_ofNat_Int, gi_c0, gi_c1, gi_c2, gi_c3, Int.natCast_inj, map_int_inj, map_nil_iff, List.cons.injEq, exists_eq_left, exists_eq_left', exists_eq, exists_eq', exists_and_left, exists_and_right, exists_const, and_assoc, and_true, true_and, and_false, false_and, or_false, false_or, or_true, true_or, ite_true, ite_false, if_true, if_false, Bool.false_eq_true, own_cons, own_nil, le1, le2, le3, le4, me_cons, me_nil, List.length_map, List.length_cons, List.length_nil, ne_eq, not_false_eq_true, not_true_eq_false, decide_eq_true_eq, hp]
    refine ⟨⟨_, sqT_of hp⟩, lc_tupI (fun _ => 0) hp (by rw [List.length_map]; have := hc.hi; omega) (fun x => rfl) (fun i x H2 hx s2 Q' k' => ?_) (fun B' H2 nB s2 eB => ?_)⟩
    · simp only [ap_seq, ap_next, ap_asg, ap_gName, ap_ret, ap_retN, ap_drop, ap_ifS, ap_break, ap_cont, ap_par, ap_aug, ap_ip, ap_gSub, ap_gTup, ap_gNil, ap_gCons, ap_var, ap_c, ap_op, ap_un, ap_if, ap_test, ap_B, ap_and, ap_or, ap_not, ap_andV, ap_orV, ap_notV, ap_nil, ap_cons, ap_tup, ap_lst, ap_cb, ap_bm, ap_call, ap_chain, ap_rI, ap_rI0, ap_rU, ap_rEq, ap_rNe, ap_revT, ap_sl, ap_part, ap_noPart, ap_ixLI, ap_ixTI, ap_ixLV, ap_ixTV, ap_len, ap_setLI, ap_setLV, ap_appI, ap_appV, ap_tupL, ap_listS, ap_sumLI, ap_sumTI, ap_repLI, ap_intI, ap_intB, ap_eqTI, ap_neTI, ap_eqLI, ap_neLI, ap_isi, ap_for, ap_rng1, ap_rng2, ap_iList, ap_iTup, ap_lc, ap_yes, ap_cut, ap_gTupH, ap_fmt, ap_jsn, ap_jsc, ap_gcd, ap_isqrt, ap_ixL, tyV_l, wipe_nil, wipe_cons, upd_same, ap_iEnT, ap_iEnL, ap_iZipA, ap_all, ap_tupT, ap_attF, ap_makeL, ap_att, ap_prop, ap_isO, ap_bin, ap_ne, ap_meth, ap_make, ins_inj, FE_inj, ap_slI, ap_catI, ap_perm, ap_lenO, ap_strO, ap_listO, ap_reprB, ap_iterT, ap_neT, ap_negO, ap_binI, ap_catL, ap_tM1, ap_repTI, ap_popN, ap_par3, ap_catTT, ap_repTA, ap_countT, ap_notInT, ap_repL1, ap_cm, ap_shl, ap_shr, ap_mask, ap_comb, ap_bits, ap_rng3, List.set_cons_zero, List.set_cons_succ, List.getElem?_cons_zero, List.getElem?_cons_succ, List.cons_append, List.nil_append, List.append_nil, Option.some.injEq, V.int.injEq, V.ref.injEq, V.bl.injEq, V.str.injEq, V.ty.injEq, Bool.not_true, Bool.not_false, HO.lst.injEq, HO.tup.injEq, reduceCtorEq, Int.reduceToNat, Int.reduceLT, Int.reduceLE, Nat.reduceAdd, Int.cast_ofNat_Int, gi_c0, gi_c1, gi_c2, gi_c3, Int.natCast_inj, map_int_inj, map_nil_iff, List.cons.injEq, exists_eq_left, exists_eq_left', exists_eq, exists_eq', exists_and_left, exists_and_right, exists_const, and_assoc, and_true, true_and, and_false, false_and, or_false, false_or, or_true, true_or, ite_true, ite_false, if_true, if_false, Bool.false_eq_true, own_cons, own_nil, le1, le2, le3, le4, me_cons, me_nil, List.length_map, List.length_cons, List.length_nil, ne_eq, not_false_eq_true, not_true_eq_false, decide_eq_true_eq]
      exact k' H2 (Same.refl H2)
    · simp only [ap_seq, ap_next, ap_asg, ap_gName, ap_ret, ap_retN, ap_drop, ap_ifS, ap_break, ap_cont, ap_par, ap_aug, ap_ip, ap_gSub, ap_gTup, ap_gNil, ap_gCons, ap_var, ap_c, ap_op, ap_un, ap_if, ap_test, ap_B, ap_and, ap_or, ap_not, ap_andV, ap_orV, ap_notV, ap_nil, ap_cons, ap_tup, ap_lst, ap_cb, ap_bm, ap_call, ap_chain, ap_rI, ap_rI0, ap_rU, ap_rEq, ap_rNe, ap_revT, ap_sl, ap_part, ap_noPart, ap_ixLI, ap_ixTI, ap_ixLV, ap_ixTV, ap_len, ap_setLI, ap_setLV, ap_appI, ap_appV, ap_tupL, ap_listS, ap_sumLI, ap_sumTI, ap_repLI, ap_intI, ap_intB, ap_eqTI, ap_neTI, ap_eqLI, ap_neLI, ap_isi, ap_for, ap_rng1, ap_rng2, ap_iList, ap_iTup, ap_lc, ap_yes, ap_cut, ap_gTupH, ap_fmt, ap_jsn, ap_jsc, ap_gcd, ap_isqrt, ap_ixL, tyV_l, wipe_nil, wipe_cons, upd_same, ap_iEnT, ap_iEnL, ap_iZipA, ap_all, ap_tupT, ap_attF, ap_makeL, ap_att, ap_prop, ap_isO, ap_bin, ap_ne, ap_meth, ap_make, ins_inj, FE_inj, ap_slI, ap_catI, ap_perm, ap_lenO, ap_strO, ap_listO, ap_reprB, ap_iterT, ap_neT, ap_negO, ap_binI, ap_catL, ap_tM1, ap_repTI, ap_popN, ap_par3, ap_catTT, ap_repTA, ap_countT, ap_notInT, ap_repL1, ap_cm, ap_shl, ap_shr, ap_mask, ap_comb, ap_bits, ap_rng3, List.set_cons_zero, List.set_cons_succ, List.getElem?_cons_zero, List.getElem?_cons_succ, List.cons_append, List.nil_append, List.append_nil, Option.some.injEq, V.int.injEq, V.ref.injEq, V.bl.injEq, V.str.injEq, V.ty.injEq, Bool.not_true, Bool.not_false, HO.lst.injEq, HO.tup.injEq, reduceCtorEq, Int.reduceToNat, Int.reduceLT, Int.reduceLE, Nat.reduceAdd, Int.cast_ofNat_Int, gi_c0, gi_c1, gi_c2, gi_c3, Int.natCast_inj, map_int_inj, map_nil_iff, List.cons.injEq, exists_eq_left, exists_eq_left', exists_eq, exists_eq', exists_and_left, exists_and_right, exists_const, and_assoc, and_true, true_and, and_false, false_and, or_false, false_or, or_true, true_or, ite_true, ite_false, if_true, if_false, Bool.false_eq_true, own_cons, own_nil, le1, le2, le3, le4, me_cons, me_nil, List.length_map, List.length_cons, List.length_nil, ne_eq, not_false_eq_true, not_true_eq_false, decide_eq_true_eq, eB]
      intro l nl
      have sG := s2.trans (same_upd (o := TI ((List.range es.length).map fun _ => (0 : Int))) nl)
      have el : upd H2 l (TI ((List.range es.length).map fun _ => (0 : Int))) l = some (TI ((List.range es.length).map fun _ => (0 : Int))) := upd_same
      have zl : ((List.range es.length).map fun _ => (0 : Int)).length = es.length := by simp
      have zv : ∀ x y, val ((List.range es.length).map fun _ => (0 : Int)) x y = 0 := fun x y => val_zeros (fun c hc => by obtain ⟨_, _, rfl⟩ := List.mem_map.mp hc; rfl) x y
      generalize ((List.range es.length).map fun _ => (0 : Int)) = zs at sG el zl zv
      generalize upd H2 l (TI zs) = G at sG el
      have hpG := sG _ _ hp
      have hi := hc.hi
      have bL : ∀ j, j ≤ es.length → L ^ j < 10 ^ 250 := fun j hj => Nat.lt_of_le_of_lt (Nat.pow_le_pow_right hc.lp hj) hc.pw
      have pw : ∀ (ns : List Int), ns.length = 2 → l1 ns ≤ L → ∀ j, j ≤ es.length → (powP ns j).length = j + 1 ∧ l1 (powP ns j) ≤ L ^ j ∧ ∀ m ∈ powP ns j, Wd m := fun ns hn hl j hj => by
        have e := Nat.le_trans (l1_powP ns j) (Nat.pow_le_pow_left hl j)
        exact ⟨by rw [powP_lenE (by omega) j, hn]; omega, e, fun m hm => wd_of (Nat.lt_of_le_of_lt (Nat.le_trans (l1_mem hm) e) (Nat.lt_trans (bL j hj) (by decide +kernel)))⟩
      have w1 : ∀ (ns : List Int), l1 ns ≤ L → ∀ m ∈ ns, Wd m := fun ns hl m hm => wd_of (Nat.lt_of_le_of_lt (Nat.le_trans (l1_mem hm) hl) (Nat.lt_of_le_of_lt (Nat.le_self_pow (by have := hc.pos; omega) L) (Nat.lt_trans hc.pw (by decide +kernel))))
      refine ⟨⟨_, sqT_of hpG⟩, loop_pair (gives_en (xs := es.map V.int)) (fun i σ' H' => ∃ (f : Addr) (fs : List Int) (y3 y4 y5 : Option V), σ' = [some (.ref p), some (.ref q), some (.ref f), y3, y4, y5] ∧ Same H H' ∧ H' f = some (TI fs) ∧ fs.length = es.length ∧ ∀ x y, val fs x y = val (es.take i) (val [a, b] x y) (val [c, d] x y) * (val [a, b] x y) ^ (es.length - i))
        ⟨l, zs, none, none, none, rfl, sG, el, zl, fun x y => by rw [zv, List.take_zero, val_nil, Int.zero_mul]⟩ (fun i σ' H' _ hP => ?_) (fun i x y t σ' H' hi2 hP nt r => ?_) (fun σ' H' hP => ?_)⟩
      · obtain ⟨f, fs, y3, y4, y5, _, sm, _⟩ := hP
        exact sm _ _ hp
      · obtain ⟨f, fs, y3, y4, y5, e, sm, ef, lf, vf⟩ := hP
        obtain ⟨rfl, hy⟩ := r
        obtain ⟨n, rfl, en⟩ := at_int hy
        subst e
        rw [List.length_map] at hi2
        have s4 := same_upd (o := HO.tup [V.int (i : Nat), V.int n]) nt
        have S := sm.trans s4
        have h1' := S _ _ h1
        have hp' := S _ _ hp
        have ei : (es.length : Int) - 1 - (i : Nat) = ((es.length - 1 - i : Nat) : Int) := by omega
        simp only [ap_seq, ap_next, ap_asg, ap_gName, ap_ret, ap_retN, ap_drop, ap_ifS, ap_break, ap_cont, ap_par, ap_aug, ap_ip, ap_gSub, ap_gTup, ap_gNil, ap_gCons, ap_var, ap_c, ap_op, ap_un, ap_if, ap_test, ap_B, ap_and, ap_or, ap_not, ap_andV, ap_orV, ap_notV, ap_nil, ap_cons, ap_tup, ap_lst, ap_cb, ap_bm, ap_call, ap_chain, ap_rI, ap_rI0, ap_rU, ap_rEq, ap_rNe, ap_revT, ap_sl, ap_part, ap_noPart, ap_ixLI, ap_ixTI, ap_ixLV, ap_ixTV, ap_len, ap_setLI, ap_setLV, ap_appI, ap_appV, ap_tupL, ap_listS, ap_sumLI, ap_sumTI, ap_repLI, ap_intI, ap_intB, ap_eqTI, ap_neTI, ap_eqLI, ap_neLI, ap_isi, ap_for, ap_rng1, ap_rng2, ap_iList, ap_iTup, ap_lc, ap_yes, ap_cut, ap_gTupH, ap_fmt, ap_jsn, ap_jsc, ap_gcd, ap_isqrt, ap_ixL, tyV_l, wipe_nil, wipe_cons, upd_same, ap_iEnT, ap_iEnL, ap_iZipA, ap_all, ap_tupT, ap_attF, ap_makeL, ap_att, ap_prop, ap_isO, ap_bin, ap_ne, ap_meth, ap_make, ins_inj, FE_inj, ap_slI, ap_catI, ap_perm, ap_lenO, ap_strO, ap_listO, ap_reprB, ap_iterT, ap_neT, ap_negO, ap_binI, ap_catL, ap_tM1, ap_repTI, ap_popN, ap_par3, ap_catTT, ap_repTA, ap_countT, ap_notInT, ap_repL1, ap_cm, ap_shl, ap_shr, ap_mask, ap_comb, ap_bits, ap_rng3, List.set_cons_zero, List.set_cons_succ, List.getElem?_cons_zero, List.getElem?_cons_succ, List.cons_append, List.nil_append, List.append_nil, Option.some.injEq, V.int.injEq, V.ref.injEq, V.bl.injEq, V.str.injEq, V.ty.injEq, Bool.not_true, Bool.not_false, HO.lst.injEq, HO.tup.injEq, reduceCtorEq, Int.reduceToNat, Int.reduceLT, Int.reduceLE, Nat.reduceAdd, Int.cast_ofNat_Int, gi_c0, gi_c1, gi_c2, gi_c3, Int.natCast_inj, map_int_inj, map_nil_iff, List.cons.injEq, exists_eq_left, exists_eq_left', exists_eq, exists_eq', exists_and_left, exists_and_right, exists_const, and_assoc, and_true, true_and, and_false, false_and, or_false, false_or, or_true, true_or, ite_true, ite_false, if_true, if_false, Bool.false_eq_true, own_cons, own_nil, le1, le2, le3, le4, me_cons, me_nil, List.length_map, List.length_cons, List.length_nil, ne_eq, not_false_eq_true, not_true_eq_false, decide_eq_true_eq, h1', hp', ei]
        have ef' := s4 _ _ ef
        have h2' := S _ _ h2
        have h3' := S _ _ h3
        generalize upd H' t (HO.tup [V.int (i : Nat), V.int n]) = G1 at S h1' hp' ef' h2' h3' s4 ⊢
        have q1 := pw [a, b] rfl hc.f1 (es.length - 1 - i) (by omega)
        have q2 := pw [c, d] rfl hc.s1 i (by omega)
        refine ⟨_, rfl, r1, [a, b], es.length - 1 - i, rfl, h2', by show 0 < 2; omega, by show 2 < 1000; omega, by omega, fun j hj => ⟨by rw [(pw [a, b] rfl hc.f1 j (by omega)).1]; omega, (pw [a, b] rfl hc.f1 j (by omega)).2.2⟩, w1 _ hc.f1, fun G2 rp s5 nrp erp => ?_⟩
        refine ⟨_, s5 _ _ h1', _, rfl, r2, [c, d], i, rfl, s5 _ _ h3', by show 0 < 2; omega, by show 2 < 1000; omega, by omega, fun j hj => ⟨by rw [(pw [c, d] rfl hc.s1 j (by omega)).1]; omega, (pw [c, d] rfl hc.s1 j (by omega)).2.2⟩, w1 _ hc.s1, fun G3 rs s6 nrs ers => ?_⟩
        refine ⟨rp, rs, _, _, rfl, s6 _ _ erp, ers, by rw [q1.1]; omega, by rw [q2.1]; omega, by rw [q1.1]; omega, by rw [q2.1]; omega, q1.2.2, q2.2.2, fun G4 rm s7 nrm erm => ?_⟩
        have lm : (mulP (powP [a, b] (es.length - 1 - i)) (powP [c, d] i)).length = es.length := by rw [mulP_len, q1.1, q2.1]; omega
        have bm : ∀ m ∈ mulP (powP [a, b] (es.length - 1 - i)) (powP [c, d] i), Wd m := fun m hm => by
          have h := Nat.le_trans (l1_mem hm) (Nat.le_trans (l1_mulP _ _) (Nat.mul_le_mul q1.2.1 q2.2.1))
          rw [← Nat.pow_add] at h
          exact wd_of (Nat.lt_of_le_of_lt h (Nat.lt_trans (bL _ (by omega)) (by decide +kernel)))
        have bn := hc.bd n (List.mem_of_getElem? en)
        refine ⟨rm, _, n, rfl, erm, by omega, bm, wd_of (Nat.lt_trans (Nat.lt_of_le_of_lt bn hc.sm) (by decide +kernel)), fun G5 rt s8 nrt ert => ?_⟩
        have S58 := ((s5.trans s6).trans s7).trans s8
        refine ⟨f, rt, fs, _, rfl, S58 _ _ ef', ert, by rw [List.length_map]; omega, by omega, fun G6 ru s9 nru eru => ?_⟩
        refine ⟨ru, rfl, (S.trans S58).trans s9, _, eru, by rw [List.length_zipWith, List.length_map]; omega, fun x y => ?_⟩
        have et : es.take (i + 1) = es.take i ++ [n] := by rw [List.take_succ, en]; rfl
        have lt : (es.take i).length = i := by rw [List.length_take]; omega
        have p1 : es.length - i = (es.length - (i + 1)) + 1 := by omega
        have p2 : es.length - 1 - i = es.length - (i + 1) := by omega
        rw [val_zip _ _ _ _ (by rw [List.length_map]; omega), vf, val_map, val_mulP (by rw [q1.1]; omega) (by rw [q2.1]; omega), val_powP (by show 0 < 2; omega), val_powP (by show 0 < 2; omega), et, val_snoc, lt, p1, p2, Int.pow_succ]
        grind
      · obtain ⟨f, fs, y3, y4, y5, e, sm, ef, lf, vf⟩ := hP
        subst e
        simp only [ap_seq, ap_next, ap_asg, ap_gName, ap_ret, ap_retN, ap_drop, ap_ifS, ap_break, ap_cont, ap_par, ap_aug, ap_ip, ap_gSub, ap_gTup, ap_gNil, ap_gCons, ap_var, ap_c, ap_op, ap_un, ap_if, ap_test, ap_B, ap_and, ap_or, ap_not, ap_andV, ap_orV, ap_notV, ap_nil, ap_cons, ap_tup, ap_lst, ap_cb, ap_bm, ap_call, ap_chain, ap_rI, ap_rI0, ap_rU, ap_rEq, ap_rNe, ap_revT, ap_sl, ap_part, ap_noPart, ap_ixLI, ap_ixTI, ap_ixLV, ap_ixTV, ap_len, ap_setLI, ap_setLV, ap_appI, ap_appV, ap_tupL, ap_listS, ap_sumLI, ap_sumTI, ap_repLI, ap_intI, ap_intB, ap_eqTI, ap_neTI, ap_eqLI, ap_neLI, ap_isi, ap_for, ap_rng1, ap_rng2, ap_iList, ap_iTup, ap_lc, ap_yes, ap_cut, ap_gTupH, ap_fmt, ap_jsn, ap_jsc, ap_gcd, ap_isqrt, ap_ixL, tyV_l, wipe_nil, wipe_cons, upd_same, ap_iEnT, ap_iEnL, ap_iZipA, ap_all, ap_tupT, ap_attF, ap_makeL, ap_att, ap_prop, ap_isO, ap_bin, ap_ne, ap_meth, ap_make, ins_inj, FE_inj, ap_slI, ap_catI, ap_perm, ap_lenO, ap_strO, ap_listO, ap_reprB, ap_iterT, ap_neT, ap_negO, ap_binI, ap_catL, ap_tM1, ap_repTI, ap_popN, ap_par3, ap_catTT, ap_repTA, ap_countT, ap_notInT, ap_repL1, ap_cm, ap_shl, ap_shr, ap_mask, ap_comb, ap_bits, ap_rng3, List.set_cons_zero, List.set_cons_succ, List.getElem?_cons_zero, List.getElem?_cons_succ, List.cons_append, List.nil_append, List.append_nil, Option.some.injEq, V.int.injEq, V.ref.injEq, V.bl.injEq, V.str.injEq, V.ty.injEq, Bool.not_true, Bool.not_false, HO.lst.injEq, HO.tup.injEq, reduceCtorEq, Int.reduceToNat, Int.reduceLT, Int.reduceLE, Nat.reduceAdd, Int.cast_ofNat_Int, gi_c0, gi_c1, gi_c2, gi_c3, Int.natCast_inj, map_int_inj, map_nil_iff, List.cons.injEq, exists_eq_left, exists_eq_left', exists_eq, exists_eq', exists_and_left, exists_and_right, exists_const, and_assoc, and_true, true_and, and_false, false_and, or_false, false_or, or_true, true_or, ite_true, ite_false, if_true, if_false, Bool.false_eq_true, own_cons, own_nil, le1, le2, le3, le4, me_cons, me_nil, List.length_map, List.length_cons, List.length_nil, ne_eq, not_false_eq_true, not_true_eq_false, decide_eq_true_eq]
        rw [List.length_map] at vf
        have e : chP [a, b] [c, d] es = fs := chP_eq rfl rfl hc.pos lf fun x y => by rw [vf, List.take_length, Nat.sub_self, Int.pow_zero, Int.mul_one]
        exact k H' f sm (by rw [e]; exact ef)
def sp_law_joined : Sp := fun vs H Q _ => ∃ (p q : Addr) (a b c e x y z u : Int), vs = [.ref p, .ref q] ∧ TabAt H p a b c e ∧ TabAt H q x y z u ∧ Tb (10 ^ 20) a b c e ∧ Tb (10 ^ 20) x y z u ∧
  ∀ H' r, Same H H' → TabAt H' r (a * x + b * z) (a * y + b * u) (c * x + e * z) (c * y + e * u) → Q (.ref r) H'
theorem ok_law_joined (T : Tx K mg) : FnOk P w K mg base CX0 1 T.f_law_joined T.d_law_joined p_law_joined sp_law_joined := by
  refine T.F_law_joined.ok sc_law_joined (fun vs H Q E h => ?_) (fun cdv A outer s H vs Q E hr h => ?_)
  · obtain ⟨p, q, a, b, c, e, x, y, z, u, rfl, _⟩ := h
    rfl
  · obtain ⟨p, q, a, b, c, e, x, y, z, u, rfl, ⟨r1, r2, h1, h2, h3⟩, hq, tb1, tb2, k⟩ := h
    refine ⟨_, (pss_cons (ps_set (i := 2) sc_law_joined.nd rfl (Or.inl rfl) (pe_lst pa_nil))
      (pss_cons (ps_for PassesOwn.never rfl (pi_tup (pv 0)) (pg_tupH (n := 2) (by rfl) (pgs_cons (pg_name (i := 3) sc_law_joined.nd rfl (by first | exact .inl rfl | exact .inr rfl)) (pgs_cons (pg_name (i := 4) sc_law_joined.nd rfl (by first | exact .inl rfl | exact .inr rfl)) pgs_nil)))
      (pss_one (ps_expr (pe_bm PySem.F.plainAttrs_list PySem.F.slot_list_append PySem.F.type_list_append mt_appV (pv 2) (pa_cons (pe_callTy cr_tupL (by rfl) T.z_tuple (by decide +kernel) (pa_cons (pe_lc (own := [("_law_at", 5)]) (g := gName 5) (tt := tYes) rfl sc_law_joined.nd (pi_range1 (by rfl) T.z_range (pa_cons pe_int pa_nil)) (blkOk_by (N := n_law_joined) (sc := defScope s_law_joined) (by decide +kernel)) (fun _ _ _ _ _ => (pg_name (i := 5) sc_law_joined.nd rfl (by first | exact .inl rfl | exact .inr rfl))) (fun _ _ _ _ _ => pts_nil) (fun _ _ _ _ _ => (pe_op op_add (pe_op op_mulB (pv 3) (pe_ix ix_TI (pe_ix ix_TV (pv 1) pe_int (fun _ _ => rfl)) (pv 5) (fun _ _ => rfl))) (pe_op op_mulB (pv 4) (pe_ix ix_TI (pe_ix ix_TV (pv 1) pe_int (fun _ _ => rfl)) (pv 5) (fun _ _ => rfl)))))) pa_nil)) pa_nil)))))
      (pss_one (ps_ret (pe_callTy cr_tupL (by rfl) T.z_tuple (by decide +kernel) (pa_cons (pv 2) pa_nil)))))), ?_⟩
    rw [st_law_joined]
    simp only [ap_seq, ap_next, ap_asg, ap_gName, ap_ret, ap_retN, ap_drop, ap_ifS, ap_break, ap_cont, ap_par, ap_aug, ap_ip, ap_gSub, ap_gTup, ap_gNil, ap_gCons, ap_var, ap_c, ap_op, ap_un, ap_if, ap_test, ap_B, ap_and, ap_or, ap_not, ap_andV, ap_orV, ap_notV, ap_nil, ap_cons, ap_tup, ap_lst, ap_cb, ap_bm, ap_call, ap_chain, ap_rI, ap_rI0, ap_rU, ap_rEq, ap_rNe, ap_revT, ap_sl, ap_part, ap_noPart, ap_ixLI, ap_ixTI, ap_ixLV, ap_ixTV, ap_len, ap_setLI, ap_setLV, ap_appI, ap_appV, ap_tupL, ap_listS, ap_sumLI, ap_sumTI, ap_repLI, ap_intI, ap_intB, ap_eqTI, ap_neTI, ap_eqLI, ap_neLI, ap_isi, ap_for, ap_rng1, ap_rng2, ap_iList, ap_iTup, ap_lc, ap_yes, ap_cut, ap_gTupH, ap_fmt, ap_jsn, ap_jsc, ap_gcd, ap_isqrt, ap_ixL, tyV_l, wipe_nil, wipe_cons, upd_same, ap_iEnT, ap_iEnL, ap_iZipA, ap_all, ap_tupT, ap_attF, ap_makeL, ap_att, ap_prop, ap_isO, ap_bin, ap_ne, ap_meth, ap_make, ins_inj, FE_inj, ap_slI, ap_catI, ap_perm, ap_lenO, ap_strO, ap_listO, ap_reprB, ap_iterT, ap_neT, ap_negO, ap_binI, ap_catL, ap_tM1, ap_repTI, ap_popN, ap_par3, ap_catTT, ap_repTA, ap_countT, ap_notInT, ap_repL1, ap_cm, ap_shl, ap_shr, ap_mask, ap_comb, ap_bits, ap_rng3, List.set_cons_zero, List.set_cons_succ, List.getElem?_cons_zero, List.getElem?_cons_succ, List.cons_append, List.nil_append, List.append_nil, Option.some.injEq, V.int.injEq, V.ref.injEq, V.bl.injEq, V.str.injEq, V.ty.injEq, Bool.not_true, Bool.not_false, HO.lst.injEq, HO.tup.injEq, reduceCtorEq, Int.reduceToNat, Int.reduceLT, Int.reduceLE, Nat.reduceAdd, Int.cast_ofNat_Int, gi_c0, gi_c1, gi_c2, gi_c3, Int.natCast_inj, map_int_inj, map_nil_iff, List.cons.injEq, exists_eq_left, exists_eq_left', exists_eq, exists_eq', exists_and_left, exists_and_right, exists_const, and_assoc, and_true, true_and, and_false, false_and, or_false, false_or, or_true, true_or, ite_true, ite_false, if_true, if_false, Bool.false_eq_true, own_cons, own_nil, le1, le2, le3, le4, me_cons, me_nil, List.length_map, List.length_cons, List.length_nil, ne_eq, not_false_eq_true, not_true_eq_false, decide_eq_true_eq, CMu]
    refine ⟨by decide, fun l nl => ?_⟩
    obtain ⟨q1, q2, g1, g2, g3⟩ := hq
    have s0 := same_upd (o := HO.lst []) nl
    have el : upd H l (.lst []) l = some (.lst []) := upd_same
    generalize upd H l (.lst []) = H0 at s0 el ⊢
    have wb : ∀ {n : Int}, -(10 ^ 20) ≤ n ∧ n ≤ 10 ^ 20 → Wd n := fun {n} hn => wd_of (show n.natAbs < 2 ^ 4000 from Nat.lt_of_le_of_lt (show n.natAbs ≤ 10 ^ 20 by omega) (by decide +kernel))
    refine ⟨⟨_, sqT_of (s0 _ _ h1)⟩, loop_gen (gives_tup (xs := [.ref r1, .ref r2])) (fun i σ' H' => ∃ (rs : List Addr) (y3 y4 y5 : Option V), σ' = [some (.ref p), some (.ref q), some (.ref l), y3, y4, y5] ∧ Same H H' ∧ H' l = some (.lst (rs.map V.ref)) ∧ Rows H' l rs ([[a * x + b * z, a * y + b * u], [c * x + e * z, c * y + e * u]].take i))
      ⟨[], none, none, none, rfl, s0, el, rfl, fun i r ns e1 => by simp at e1⟩ (fun i σ' H' _ hP => ?_) (fun i v σ' H' H'' hi hP hy => ?_) (fun σ' H' hP => ?_)⟩
    · obtain ⟨rs, y3, y4, y5, _, sm, _⟩ := hP
      exact sm _ _ h1
    · obtain ⟨rs, y3, y4, y5, e0, sm, el, rw1⟩ := hP
      obtain ⟨rfl, hv⟩ := hy
      have hv2 : ∃ (r : Addr) (m n : Int), v = .ref r ∧ H r = some (TI [m, n]) ∧ (-(10 ^ 20) ≤ m ∧ m ≤ 10 ^ 20) ∧ (-(10 ^ 20) ≤ n ∧ n ≤ 10 ^ 20) ∧ [[a * x + b * z, a * y + b * u], [c * x + e * z, c * y + e * u]][i]? = some [m * x + n * z, m * y + n * u] := by
        match i, hi, hv with
        | 0, _, hv => exact ⟨r1, a, b, (Option.some.inj hv).symm, h2, tb1.a, tb1.b, rfl⟩
        | 1, _, hv => exact ⟨r2, c, e, (Option.some.inj hv).symm, h3, tb1.c, tb1.d, rfl⟩
      obtain ⟨r, m, n, rfl, hr0, bm, bn, eN⟩ := hv2
      subst e0
      refine ⟨r, rfl, [.int m, .int n], sm _ _ hr0, rfl, _, _, rfl, _, _, rfl, rfl, ?_⟩
      simp only [ap_seq, ap_next, ap_asg, ap_gName, ap_ret, ap_retN, ap_drop, ap_ifS, ap_break, ap_cont, ap_par, ap_aug, ap_ip, ap_gSub, ap_gTup, ap_gNil, ap_gCons, ap_var, ap_c, ap_op, ap_un, ap_if, ap_test, ap_B, ap_and, ap_or, ap_not, ap_andV, ap_orV, ap_notV, ap_nil, ap_cons, ap_tup, ap_lst, ap_cb, ap_bm, ap_call, ap_chain, ap_rI, ap_rI0, ap_rU, ap_rEq, ap_rNe, ap_revT, ap_sl, ap_part, ap_noPart, ap_ixLI, ap_ixTI, ap_ixLV, ap_ixTV, ap_len, ap_setLI, ap_setLV, ap_appI, ap_appV, ap_tupL, ap_listS, ap_sumLI, ap_sumTI, ap_repLI, ap_intI, ap_intB, ap_eqTI, ap_neTI, ap_eqLI, ap_neLI, ap_isi, ap_for, ap_rng1, ap_rng2, ap_iList, ap_iTup, ap_lc, ap_yes, ap_cut, ap_gTupH, ap_fmt, ap_jsn, ap_jsc, ap_gcd, ap_isqrt, ap_ixL, tyV_l, wipe_nil, wipe_cons, upd_same, ap_iEnT, ap_iEnL, ap_iZipA, ap_all, ap_tupT, ap_attF, ap_makeL, ap_att, ap_prop, ap_isO, ap_bin, ap_ne, ap_meth, ap_make, ins_inj, FE_inj, ap_slI, ap_catI, ap_perm, ap_lenO, ap_strO, ap_listO, ap_reprB, ap_iterT, ap_neT, ap_negO, ap_binI, ap_catL, ap_tM1, ap_repTI, ap_popN, ap_par3, ap_catTT, ap_repTA, ap_countT, ap_notInT, ap_repL1, ap_cm, ap_shl, ap_shr, ap_mask, ap_comb, ap_bits, ap_rng3, List.set_cons_zero, List.set_cons_succ, List.getElem?_cons_zero, List.getElem?_cons_succ, List.cons_append, List.nil_append, List.append_nil, Option.some.injEq, V.int.injEq, V.ref.injEq, V.bl.injEq, V.str.injEq, V.ty.injEq, Bool.not_true, Bool.not_false, HO.lst.injEq, HO.tup.injEq, reduceCtorEq, Int.reduceToNat, Int.reduceLT, Int.reduceLE, Nat.reduceAdd, Int.cast_ofNat_Int, gi_c0, gi_c1, gi_c2, gi_c3, Int.natCast_inj, map_int_inj, map_nil_iff, List.cons.injEq, exists_eq_left, exists_eq_left', exists_eq, exists_eq', exists_and_left, exists_and_right, exists_const, and_assoc, and_true, true_and, and_false, false_and, or_false, false_or, or_true, true_or, ite_true, ite_false, if_true, if_false, Bool.false_eq_true, own_cons, own_nil, le1, le2, le3, le4, me_cons, me_nil, List.length_map, List.length_cons, List.length_nil, ne_eq, not_false_eq_true, not_true_eq_false, decide_eq_true_eq, CMu]
      refine ⟨.inl ⟨rfl, _, sqL_of el⟩, by omega, by omega, lc_rangeI (fun k => m * [x, y].getD k 0 + n * [z, u].getD k 0) (by omega) (fun x => rfl) (fun k H2 hk s2 Q' k' => ?_) (fun A1 H2 nA s2 eA => ?_)⟩
      · have g1' := s2 _ _ (sm _ _ g1)
        have g2' := s2 _ _ (sm _ _ g2)
        have g3' := s2 _ _ (sm _ _ g3)
        simp only [ap_seq, ap_next, ap_asg, ap_gName, ap_ret, ap_retN, ap_drop, ap_ifS, ap_break, ap_cont, ap_par, ap_aug, ap_ip, ap_gSub, ap_gTup, ap_gNil, ap_gCons, ap_var, ap_c, ap_op, ap_un, ap_if, ap_test, ap_B, ap_and, ap_or, ap_not, ap_andV, ap_orV, ap_notV, ap_nil, ap_cons, ap_tup, ap_lst, ap_cb, ap_bm, ap_call, ap_chain, ap_rI, ap_rI0, ap_rU, ap_rEq, ap_rNe, ap_revT, ap_sl, ap_part, ap_noPart, ap_ixLI, ap_ixTI, ap_ixLV, ap_ixTV, ap_len, ap_setLI, ap_setLV, ap_appI, ap_appV, ap_tupL, ap_listS, ap_sumLI, ap_sumTI, ap_repLI, ap_intI, ap_intB, ap_eqTI, ap_neTI, ap_eqLI, ap_neLI, ap_isi, ap_for, ap_rng1, ap_rng2, ap_iList, ap_iTup, ap_lc, ap_yes, ap_cut, ap_gTupH, ap_fmt, ap_jsn, ap_jsc, ap_gcd, ap_isqrt, ap_ixL, tyV_l, wipe_nil, wipe_cons, upd_same, ap_iEnT, ap_iEnL, ap_iZipA, ap_all, ap_tupT, ap_attF, ap_makeL, ap_att, ap_prop, ap_isO, ap_bin, ap_ne, ap_meth, ap_make, ins_inj, FE_inj, ap_slI, ap_catI, ap_perm, ap_lenO, ap_strO, ap_listO, ap_reprB, ap_iterT, ap_neT, ap_negO, ap_binI, ap_catL, ap_tM1, ap_repTI, ap_popN, ap_par3, ap_catTT, ap_repTA, ap_countT, ap_notInT, ap_repL1, ap_cm, ap_shl, ap_shr, ap_mask, ap_comb, ap_bits, ap_rng3, List.set_cons_zero, List.set_cons_succ, List.getElem?_cons_zero, List.getElem?_cons_succ, List.cons_append, List.nil_append, List.append_nil, Option.some.injEq, V.int.injEq, V.ref.injEq, V.bl.injEq, V.str.injEq, V.ty.injEq, Bool.not_true, Bool.not_false, HO.lst.injEq, HO.tup.injEq, reduceCtorEq, Int.reduceToNat, Int.reduceLT, Int.reduceLE, Nat.reduceAdd, Int.cast_ofNat_Int, gi_c0, gi_c1, gi_c2, gi_c3, Int.natCast_inj, map_int_inj, map_nil_iff, List.cons.injEq, exists_eq_left, exists_eq_left', exists_eq, exists_eq', exists_and_left, exists_and_right, exists_const, and_assoc, and_true, true_and, and_false, false_and, or_false, false_or, or_true, true_or, ite_true, ite_false, if_true, if_false, Bool.false_eq_true, own_cons, own_nil, le1, le2, le3, le4, me_cons, me_nil, List.length_map, List.length_cons, List.length_nil, ne_eq, not_false_eq_true, not_true_eq_false, decide_eq_true_eq, g1', CMu]
        have c1 : -(10 ^ 20) ≤ [x, y].getD k 0 ∧ [x, y].getD k 0 ≤ 10 ^ 20 := by
          match k, hk with
          | 0, _ => exact tb2.a
          | 1, _ => exact tb2.b
        have c2 : -(10 ^ 20) ≤ [z, u].getD k 0 ∧ [z, u].getD k 0 ≤ 10 ^ 20 := by
          match k, hk with
          | 0, _ => exact tb2.c
          | 1, _ => exact tb2.d
        have gk1 : gi [x, y] (k : Nat) = [x, y].getD k 0 := gi_nat [x, y] k
        have gk2 : gi [z, u] (k : Nat) = [z, u].getD k 0 := gi_nat [z, u] k
        have ek : (0 : Int) + (k : Nat) = (k : Nat) := by omega
        rw [ek]
        refine ⟨_, rfl, q1, rfl, _, g2', by omega, by show ((k : Nat) : Int) < 2; omega, (wb bm).1, (wb bm).2, by rw [gk1]; exact (wb c1).1, by rw [gk1]; exact (wb c1).2, _, rfl, q2, rfl, _, g3', by omega, by show ((k : Nat) : Int) < 2; omega, (wb bn).1, (wb bn).2, by rw [gk2]; exact (wb c2).1, by rw [gk2]; exact (wb c2).2, ?_⟩
        rw [gk1, gk2]
        exact k' H2 (Same.refl H2)
      · have er2 : LI (List.map (fun k => m * [x, y].getD k 0 + n * [z, u].getD k 0) (List.range 2)) = LI [m * x + n * z, m * y + n * u] := rfl
        rw [er2] at eA
        refine ⟨A1, rfl, _, eA, fun t nt => ?_⟩
        have st := same_upd (o := HO.tup ([m * x + n * z, m * y + n * u].map V.int)) nt
        have et : upd H2 t (HO.tup ([m * x + n * z, m * y + n * u].map V.int)) t = some (TI [m * x + n * z, m * y + n * u]) := upd_same
        have el3 := st _ _ (s2 _ _ el)
        have S3 := (sm.trans s2).trans st
        have ntl : t ≠ l := fun e => by
          subst e
          rw [s2 _ _ el] at nt
          cases nt
        have rw2 := rw1.exc (Exc.same (d := l) (s2.trans st))
        generalize upd H2 t (HO.tup ([m * x + n * z, m * y + n * u].map V.int)) = H3 at et el3 S3 rw2 ⊢
        refine ⟨_, el3, by rw [List.length_map, rw1.1, List.length_take]; have : i < 2 := hi; omega, same_mut S3 nl, rs ++ [t], (List.map_append (f := V.ref) (l₁ := rs) (l₂ := [t])).symm, ?_⟩
        · rw [List.take_succ, eN]
          exact (rw2.snoc et ntl).exc Exc.upd
    · obtain ⟨rs, y3, y4, y5, e0, sm, el, rw1⟩ := hP
      subst e0
      simp only [ap_seq, ap_next, ap_asg, ap_gName, ap_ret, ap_retN, ap_drop, ap_ifS, ap_break, ap_cont, ap_par, ap_aug, ap_ip, ap_gSub, ap_gTup, ap_gNil, ap_gCons, ap_var, ap_c, ap_op, ap_un, ap_if, ap_test, ap_B, ap_and, ap_or, ap_not, ap_andV, ap_orV, ap_notV, ap_nil, ap_cons, ap_tup, ap_lst, ap_cb, ap_bm, ap_call, ap_chain, ap_rI, ap_rI0, ap_rU, ap_rEq, ap_rNe, ap_revT, ap_sl, ap_part, ap_noPart, ap_ixLI, ap_ixTI, ap_ixLV, ap_ixTV, ap_len, ap_setLI, ap_setLV, ap_appI, ap_appV, ap_tupL, ap_listS, ap_sumLI, ap_sumTI, ap_repLI, ap_intI, ap_intB, ap_eqTI, ap_neTI, ap_eqLI, ap_neLI, ap_isi, ap_for, ap_rng1, ap_rng2, ap_iList, ap_iTup, ap_lc, ap_yes, ap_cut, ap_gTupH, ap_fmt, ap_jsn, ap_jsc, ap_gcd, ap_isqrt, ap_ixL, tyV_l, wipe_nil, wipe_cons, upd_same, ap_iEnT, ap_iEnL, ap_iZipA, ap_all, ap_tupT, ap_attF, ap_makeL, ap_att, ap_prop, ap_isO, ap_bin, ap_ne, ap_meth, ap_make, ins_inj, FE_inj, ap_slI, ap_catI, ap_perm, ap_lenO, ap_strO, ap_listO, ap_reprB, ap_iterT, ap_neT, ap_negO, ap_binI, ap_catL, ap_tM1, ap_repTI, ap_popN, ap_par3, ap_catTT, ap_repTA, ap_countT, ap_notInT, ap_repL1, ap_cm, ap_shl, ap_shr, ap_mask, ap_comb, ap_bits, ap_rng3, List.set_cons_zero, List.set_cons_succ, List.getElem?_cons_zero, List.getElem?_cons_succ, List.cons_append, List.nil_append, List.append_nil, Option.some.injEq, V.int.injEq, V.ref.injEq, V.bl.injEq, V.str.injEq, V.ty.injEq, Bool.not_true, Bool.not_false, HO.lst.injEq, HO.tup.injEq, reduceCtorEq, Int.reduceToNat, Int.reduceLT, Int.reduceLE, Nat.reduceAdd, Int.cast_ofNat_Int, gi_c0, gi_c1, gi_c2, gi_c3, Int.natCast_inj, map_int_inj, map_nil_iff, List.cons.injEq, exists_eq_left, exists_eq_left', exists_eq, exists_eq', exists_and_left, exists_and_right, exists_const, and_assoc, and_true, true_and, and_false, false_and, or_false, false_or, or_true, true_or, ite_true, ite_false, if_true, if_false, Bool.false_eq_true, own_cons, own_nil, le1, le2, le3, le4, me_cons, me_nil, List.length_map, List.length_cons, List.length_nil, ne_eq, not_false_eq_true, not_true_eq_false, decide_eq_true_eq]
      refine ⟨_, el, fun t nt => ?_⟩
      obtain ⟨rl, rr⟩ := rw1
      match rs, rl, rr, el, nt with
      | [t1, t2], _, rr, el, nt =>
        have e1 := (rr 0 t1 _ rfl rfl).1
        have e2 := (rr 1 t2 _ rfl rfl).1
        have st := same_upd (o := HO.tup ([t1, t2].map V.ref)) nt
        exact k _ t (sm.trans st) ⟨t1, t2, upd_same, st _ _ e1, st _ _ e2⟩
end
end My
namespace My
open PySem PySem.Spec PyProof.Rows L2 Pr
theorem drawn_abs {n : Nat} {f : List Int} (d : Drawn n f) : ∀ x ∈ f, x.natAbs ≤ 10 ^ 13 := fun x hx => by have := d.2 x hx; omega
theorem PFAt.exc {C d a : Addr} {H H' : Hp} {p : Int} {es : List Int} (D : Dc H d) (ex : Exc d H H') (h : PFAt C H a p es) : PFAt C H' a p es := by
  obtain ⟨dx, t, h1, h2⟩ := h
  exact ⟨dx, t, exI D ex h1, exT D ex h2⟩
theorem pr_b20 {a x : Int} (h1 : -(10 ^ 20) ≤ a ∧ a ≤ 10 ^ 20) (h2 : -(10 ^ 20) ≤ x ∧ x ≤ 10 ^ 20) : -(10 ^ 40) ≤ a * x ∧ a * x ≤ 10 ^ 40 := by
  have h := Int.natAbs_mul a x
  have h3 : a.natAbs * x.natAbs ≤ 10 ^ 20 * 10 ^ 20 := Nat.mul_le_mul (by omega) (by omega)
  rw [← h] at h3
  generalize a * x = y at h3
  omega
theorem tn_j {a x b z : Int} (h1 : -(10 ^ 20) ≤ a ∧ a ≤ 10 ^ 20) (h2 : -(10 ^ 20) ≤ x ∧ x ≤ 10 ^ 20) (h3 : -(10 ^ 20) ≤ b ∧ b ≤ 10 ^ 20) (h4 : -(10 ^ 20) ≤ z ∧ z ≤ 10 ^ 20) : Tn (a * x + b * z) := by
  have := pr_b20 h1 h2
  have := pr_b20 h3 h4
  unfold Tn
  omega
theorem Tb.join {a b c e x y z u : Int} (h : Tb (10 ^ 20) a b c e) (g : Tb (10 ^ 20) x y z u) : T4 (a * x + b * z) (a * y + b * u) (c * x + e * z) (c * y + e * u) :=
  ⟨tn_j h.a g.a h.b g.c, tn_j h.a g.b h.b g.d, tn_j h.c g.a h.d g.c, tn_j h.c g.b h.d g.d⟩
theorem l1_chT {F S : List Int} {A L : Nat} (hF : l1 F ≤ L) (hS : l1 S ≤ L) : ∀ (cs : List Int) (k : Nat) (st : List Int × List Int), l1 st.1 ≤ (k + 1) * A * L ^ k → l1 st.2 ≤ L ^ k → (∀ c ∈ cs, c.natAbs ≤ A) → l1 (chT F S cs st).1 ≤ (k + cs.length + 1) * A * L ^ (k + cs.length)
  | [], k, st, h1, _, _ => h1
  | c :: cs, k, st, h1, h2, hc => by
    obtain ⟨p1, p2⟩ := l1_step hF hS h1 h2 (hc c (List.mem_cons_self ..))
    have := l1_chT hF hS cs (k + 1) (List.zipWith (· + ·) (mulP st.1 F) ((mulP st.2 S).map (· * c)), mulP st.2 S) p2 p1 fun x hx => hc x (List.mem_cons_of_mem _ hx)
    have e : k + 1 + cs.length = k + (c :: cs).length := by simp only [List.length_cons]; omega
    rw [e] at this
    exact this
theorem l1_chP {F S es : List Int} {A L : Nat} (hF : l1 F ≤ L) (hS : l1 S ≤ L) (h : 0 < es.length) (bd : ∀ n ∈ es, n.natAbs ≤ A) : l1 (chP F S es) ≤ es.length * A * L ^ (es.length - 1) := by
  unfold chP
  match es, h with
  | e :: es, _ =>
    have := l1_chT hF hS (A := A) es 0 ([e], [1]) (by have := bd e (List.mem_cons_self ..); show e.natAbs + 0 ≤ (0 + 1) * A * 1; omega) (Nat.le_refl 1) fun c hc => bd c (List.mem_cons_of_mem _ hc)
    have e1 : (e :: es).length - 1 = 0 + es.length := by simp
    have e2 : (e :: es).length = 0 + es.length + 1 := by simp
    rw [e1, e2]
    exact this
section
variable {P : Program} {w : World} {K : PySem.W.Frag} {mg : Str → Option Value} {base : Heap}
def sp_law_right : Sp := fun vs H Q _ => ∃ (d : Addr), vs = [.ref d] ∧ Dc H d ∧ ∀ H', Exc d H H' → Dc H' d → Q (.bl true) H'
theorem ok_law_right (T : Tx K mg) : FnOk P w K mg base CX0 24 T.f_law_right T.d_law_right p_law_right sp_law_right := by
  refine T.F_law_right.ok sc_law_right (fun vs H Q E h => ?_) (fun cdv A outer s H vs Q E hr h => ?_)
  · obtain ⟨d, rfl, _⟩ := h
    rfl
  · obtain ⟨d, rfl, hD, kk⟩ := h
    refine ⟨_, (pss_cons (ps_set (i := 1) sc_law_right.nd rfl (Or.inl rfl) (pe_call (ok_law_some_prime T) (hr.mono (by decide)) (by rfl) T.m_law_some_prime T.F_law_some_prime.kp T.b_law_some_prime .nil pass0 (pa_cons (pv 0) pa_nil)))
      (pss_cons (ps_par (i := 2) (j := 3) (by rfl) sc_law_right.nd rfl rfl (by decide) rfl rfl (pa_cons (pe_call (ok_law_form T) (hr.mono (by decide)) (by rfl) T.m_law_form T.F_law_form.kp T.b_law_form .nil pass0 (pa_cons (pv 0) (pa_cons (pe_call (ok_law_roll T) (hr.mono (by decide)) (by rfl) T.m_law_roll T.F_law_roll.kp T.b_law_roll .nil pass0 (pa_cons (pv 0) (pa_cons pe_int pa_nil))) pa_nil))) (pa_cons (pe_call (ok_law_form T) (hr.mono (by decide)) (by rfl) T.m_law_form T.F_law_form.kp T.b_law_form .nil pass0 (pa_cons (pv 0) (pa_cons (pe_call (ok_law_roll T) (hr.mono (by decide)) (by rfl) T.m_law_roll T.F_law_roll.kp T.b_law_roll .nil pass0 (pa_cons (pv 0) (pa_cons pe_int pa_nil))) pa_nil))) pa_nil)) (by rfl))
      (pss_cons (ps_par (i := 4) (j := 5) (by rfl) sc_law_right.nd rfl rfl (by decide) rfl rfl (pa_cons (pe_make T.mk_PrimeForm (ok_PrimeForm___init__ T) (hr.mono (by decide)) (by rfl) T.mg_PrimeForm T.b_PrimeForm___init__ .nil pass0 (pa_cons (pv 1) (pa_cons (pv 2) pa_nil))) (pa_cons (ClX.pe_cmeth (pe_glob (v := .ref T.C_PrimeForm) (by rfl) T.mg_PrimeForm rfl) T.cr_PrimeForm T.cm_PrimeForm_of_form ((ok_PrimeForm_of_form T).rawN T.b_PrimeForm_of_form) (hr.mono (by decide)) pass0 (pa_cons (pe_make T.mk_Form (ok_Form___init__ T) (hr.mono (by decide)) (by rfl) T.mg_Form T.b_Form___init__ .nil pass0 (pa_cons (pv 3) pa_nil)) (pa_cons (pv 1) pa_nil))) pa_nil)) (by rfl))
      (pss_cons (ps_if (PW.pt (pw_or (pt_not (pt_val (pe_call (ok_law_is_told T) (hr.mono (by decide)) (by rfl) T.m_law_is_told T.F_law_is_told.kp T.b_law_is_told .nil pass0 (pa_cons (pv 4) (pa_cons (pv 1) (pa_cons (pv 2) pa_nil)))))) (pw_or (pt_not (pt_val (pe_call (ok_law_is_told T) (hr.mono (by decide)) (by rfl) T.m_law_is_told T.F_law_is_told.kp T.b_law_is_told .nil pass0 (pa_cons (pv 5) (pa_cons (pv 1) (pa_cons (pv 3) pa_nil)))))) (pw_or1 (pt_cmpR (op_neOwn T.nf_PrimeForm T.px_obj T.px_ne T.me_PrimeForm___eq__.at_ T.me_PrimeForm___eq__.fn (ok_PrimeForm___eq__ T) (hr.mono (by decide)) T.b_PrimeForm___eq__ pass0) (ClX.pe_cmeth (pe_glob (v := .ref T.C_PrimeForm) (by rfl) T.mg_PrimeForm rfl) T.cr_PrimeForm T.cm_PrimeForm_of_form ((ok_PrimeForm_of_form T).rawN T.b_PrimeForm_of_form) (hr.mono (by decide)) pass0 (pa_cons (pe_make T.mk_Form (ok_Form___init__ T) (hr.mono (by decide)) (by rfl) T.mg_Form T.b_Form___init__ .nil pass0 (pa_cons (pv 2) pa_nil)) (pa_cons (pv 1) pa_nil))) (pv 4) (nomark _)))))) (pss_one (ps_ret pe_bl)) pss_nil)
      (pss_cons (ps_set (i := 6) sc_law_right.nd rfl (Or.inl rfl) (pe_op (op_bin T.sf_PrimeForm T.me_PrimeForm___mul__.at_ T.me_PrimeForm___mul__.fn (ok_PrimeForm___mul__ T) (hr.mono (by decide)) T.b_PrimeForm___mul__ pass0) (pv 4) (pv 5)))
      (pss_cons (ps_if (PW.pt (pw_or (pt_not (pt_val (pe_call (ok_law_is_told T) (hr.mono (by decide)) (by rfl) T.m_law_is_told T.F_law_is_told.kp T.b_law_is_told .nil pass0 (pa_cons (pv 6) (pa_cons (pv 1) (pa_cons (pe_call (ok_law_product T) (hr.mono (by decide)) (by rfl) T.m_law_product T.F_law_product.kp T.b_law_product .nil pass0 (pa_cons (pv 2) (pa_cons (pv 3) pa_nil))) pa_nil)))))) (pw_or1 (pt_cmpR (op_neOwn T.nf_PrimeForm T.px_obj T.px_ne T.me_PrimeForm___eq__.at_ T.me_PrimeForm___eq__.fn (ok_PrimeForm___eq__ T) (hr.mono (by decide)) T.b_PrimeForm___eq__ pass0) (pe_op (op_bin T.sf_PrimeForm T.me_PrimeForm___mul__.at_ T.me_PrimeForm___mul__.fn (ok_PrimeForm___mul__ T) (hr.mono (by decide)) T.b_PrimeForm___mul__ pass0) (pv 5) (pv 4)) (pv 6) (nomark _))))) (pss_one (ps_ret pe_bl)) pss_nil)
      (pss_cons (ps_par (i := 7) (j := 8) (by rfl) sc_law_right.nd rfl rfl (by decide) rfl rfl (pa_cons (pe_call (ok_law_near T) (hr.mono (by decide)) (by rfl) T.m_law_near T.F_law_near.kp T.b_law_near .nil pass0 (pa_cons (pv 0) (pa_cons (pe_op op_pow pe_int pe_int) pa_nil))) (pa_cons (pe_call (ok_law_near T) (hr.mono (by decide)) (by rfl) T.m_law_near T.F_law_near.kp T.b_law_near .nil pass0 (pa_cons (pv 0) (pa_cons (pe_op op_pow pe_int pe_int) pa_nil))) pa_nil)) (by rfl))
      (pss_cons (ps_par (i := 9) (j := 10) (by rfl) sc_law_right.nd rfl rfl (by decide) rfl rfl (pa_cons (pe_meth (pv 4) T.cl_PrimeForm T.me_PrimeForm_value (ok_PrimeForm_value T) (hr.mono (by decide)) T.b_PrimeForm_value .nil pass0 (pa_cons (pv 7) (pa_cons (pv 8) pa_nil))) (pa_cons (pe_meth (pv 5) T.cl_PrimeForm T.me_PrimeForm_value (ok_PrimeForm_value T) (hr.mono (by decide)) T.b_PrimeForm_value .nil pass0 (pa_cons (pv 7) (pa_cons (pv 8) pa_nil))) pa_nil)) (by rfl))
      (pss_cons (ps_if (PW.pt (pw_or (pt_cmpR op_ne (pv 9) (pe_op op_mod (pe_callTy cr_intI (by rfl) T.z_int (by decide +kernel) (pa_cons (pe_call (ok_law_value T) (hr.mono (by decide)) (by rfl) T.m_law_value T.F_law_value.kp T.b_law_value .nil pass0 (pa_cons (pv 2) (pa_cons (pv 7) (pa_cons (pv 8) pa_nil)))) pa_nil)) (pv 1)) (nomark _)) (pw_or1 (pt_cmpR op_ne (pe_meth (pv 6) T.cl_PrimeForm T.me_PrimeForm_value (ok_PrimeForm_value T) (hr.mono (by decide)) T.b_PrimeForm_value .nil pass0 (pa_cons (pv 7) (pa_cons (pv 8) pa_nil))) (pe_op op_mod (pe_callTy cr_intI (by rfl) T.z_int (by decide +kernel) (pa_cons (pe_op op_mulB (pv 9) (pv 10)) pa_nil)) (pv 1)) (nomark _))))) (pss_one (ps_ret pe_bl)) pss_nil)
      (pss_cons (ps_par (i := 11) (j := 12) (by rfl) sc_law_right.nd rfl rfl (by decide) rfl rfl (pa_cons (pe_call (ok_law_prime_table T) (hr.mono (by decide)) (by rfl) T.m_law_prime_table T.F_law_prime_table.kp T.b_law_prime_table .nil pass0 (pa_cons (pv 0) (pa_cons (pv 1) pa_nil))) (pa_cons (pe_call (ok_law_prime_table T) (hr.mono (by decide)) (by rfl) T.m_law_prime_table T.F_law_prime_table.kp T.b_law_prime_table .nil pass0 (pa_cons (pv 0) (pa_cons (pv 1) pa_nil))) pa_nil)) (by rfl))
      (pss_cons (ps_set (i := 13) sc_law_right.nd rfl (Or.inl rfl) (pe_meth (pv 4) T.cl_PrimeForm T.me_PrimeForm_changed (ok_PrimeForm_changed T) (hr.mono (by decide)) T.b_PrimeForm_changed .nil pass0 (pa_cons (pv 11) pa_nil)))
      (pss_cons (ps_if (PW.pt (pw_or (pt_not (pt_val (pe_call (ok_law_is_told T) (hr.mono (by decide)) (by rfl) T.m_law_is_told T.F_law_is_told.kp T.b_law_is_told .nil pass0 (pa_cons (pv 13) (pa_cons (pv 1) (pa_cons (pe_call (ok_law_changed T) (hr.mono (by decide)) (by rfl) T.m_law_changed T.F_law_changed.kp T.b_law_changed .nil pass0 (pa_cons (pv 2) (pa_cons (pv 11) pa_nil))) pa_nil)))))) (pw_or1 (pt_cmpR (op_neOwn T.nf_PrimeForm T.px_obj T.px_ne T.me_PrimeForm___eq__.at_ T.me_PrimeForm___eq__.fn (ok_PrimeForm___eq__ T) (hr.mono (by decide)) T.b_PrimeForm___eq__ pass0) (pe_meth (pv 13) T.cl_PrimeForm T.me_PrimeForm_changed (ok_PrimeForm_changed T) (hr.mono (by decide)) T.b_PrimeForm_changed .nil pass0 (pa_cons (pv 12) pa_nil)) (pe_meth (pv 4) T.cl_PrimeForm T.me_PrimeForm_changed (ok_PrimeForm_changed T) (hr.mono (by decide)) T.b_PrimeForm_changed .nil pass0 (pa_cons (pe_call (ok_law_joined T) (hr.mono (by decide)) (by rfl) T.m_law_joined T.F_law_joined.kp T.b_law_joined .nil pass0 (pa_cons (pv 11) (pa_cons (pv 12) pa_nil))) pa_nil)) (nomark _))))) (pss_one (ps_ret pe_bl)) pss_nil)
      (pss_one (ps_ret (pe_cmpR (op_eqOwn (fun _ _ => rfl) T.nf_PrimeForm T.me_PrimeForm___eq__.at_ T.me_PrimeForm___eq__.fn (ok_PrimeForm___eq__ T) (hr.mono (by decide)) T.b_PrimeForm___eq__ pass0) (pe_meth (pv 6) T.cl_PrimeForm T.me_PrimeForm_changed (ok_PrimeForm_changed T) (hr.mono (by decide)) T.b_PrimeForm_changed .nil pass0 (pa_cons (pv 11) pa_nil)) (pe_op (op_bin T.sf_PrimeForm T.me_PrimeForm___mul__.at_ T.me_PrimeForm___mul__.fn (ok_PrimeForm___mul__ T) (hr.mono (by decide)) T.b_PrimeForm___mul__ pass0) (pv 13) (pe_meth (pv 5) T.cl_PrimeForm T.me_PrimeForm_changed (ok_PrimeForm_changed T) (hr.mono (by decide)) T.b_PrimeForm_changed .nil pass0 (pa_cons (pv 11) pa_nil))) (nomark _)))))))))))))))), ?_⟩
    rw [st_law_right]
    simp only [ap_seq, ap_next, ap_asg, ap_gName, ap_ret, ap_retN, ap_drop, ap_ifS, ap_break, ap_cont, ap_par, ap_aug, ap_ip, ap_gSub, ap_gTup, ap_gNil, ap_gCons, ap_var, ap_c, ap_op, ap_un, ap_if, ap_test, ap_B, ap_and, ap_or, ap_not, ap_andV, ap_orV, ap_notV, ap_nil, ap_cons, ap_tup, ap_lst, ap_cb, ap_bm, ap_call, ap_chain, ap_rI, ap_rI0, ap_rU, ap_rEq, ap_rNe, ap_revT, ap_sl, ap_part, ap_noPart, ap_ixLI, ap_ixTI, ap_ixLV, ap_ixTV, ap_len, ap_setLI, ap_setLV, ap_appI, ap_appV, ap_tupL, ap_listS, ap_sumLI, ap_sumTI, ap_repLI, ap_intI, ap_intB, ap_eqTI, ap_neTI, ap_eqLI, ap_neLI, ap_isi, ap_for, ap_rng1, ap_rng2, ap_iList, ap_iTup, ap_lc, ap_yes, ap_cut, ap_gTupH, ap_fmt, ap_jsn, ap_jsc, ap_gcd, ap_isqrt, ap_ixL, tyV_l, wipe_nil, wipe_cons, upd_same, ap_iEnT, ap_iEnL, ap_iZipA, ap_all, ap_tupT, ap_attF, ap_makeL, ap_att, ap_prop, ap_isO, ap_bin, ap_ne, ap_meth, ap_make, ins_inj, FE_inj, ap_slI, ap_catI, ap_perm, ap_lenO, ap_strO, ap_listO, ap_reprB, ap_iterT, ap_neT, ap_negO, ap_binI, ap_catL, ap_tM1, ap_repTI, ap_popN, ap_par3, ap_catTT, ap_repTA, ap_countT, ap_notInT, ap_repL1, ap_cm, ap_shl, ap_shr, ap_mask, ap_comb, ap_bits, ap_rng3, List.set_cons_zero, List.set_cons_succ, List.getElem?_cons_zero, List.getElem?_cons_succ, List.cons_append, List.nil_append, List.append_nil, Option.some.injEq, V.int.injEq, V.ref.injEq, V.bl.injEq, V.str.injEq, V.ty.injEq, Bool.not_true, Bool.not_false, HO.lst.injEq, HO.tup.injEq, reduceCtorEq, Int.reduceToNat, Int.reduceLT, Int.reduceLE, Nat.reduceAdd, Int.cast_ofNat_Int, gi_c0, gi_c1, gi_c2, gi_c3, Int.natCast_inj, map_int_inj, map_nil_iff, List.cons.injEq, exists_eq_left, exists_eq_left', exists_eq, exists_eq', exists_and_left, exists_and_right, exists_const, and_assoc, and_true, true_and, and_false, false_and, or_false, false_or, or_true, true_or, ite_true, ite_false, if_true, if_false, Bool.false_eq_true, own_cons, own_nil, le1, le2, le3, le4, me_cons, me_nil, List.length_map, List.length_cons, List.length_nil, ne_eq, not_false_eq_true, not_true_eq_false, decide_eq_true_eq]
    refine ⟨d, rfl, hD, fun H1 p ex1 D1 pp => ?_⟩
    have pb := primes_bd pp
    simp only [ap_seq, ap_next, ap_asg, ap_gName, ap_ret, ap_retN, ap_drop, ap_ifS, ap_break, ap_cont, ap_par, ap_aug, ap_ip, ap_gSub, ap_gTup, ap_gNil, ap_gCons, ap_var, ap_c, ap_op, ap_un, ap_if, ap_test, ap_B, ap_and, ap_or, ap_not, ap_andV, ap_orV, ap_notV, ap_nil, ap_cons, ap_tup, ap_lst, ap_cb, ap_bm, ap_call, ap_chain, ap_rI, ap_rI0, ap_rU, ap_rEq, ap_rNe, ap_revT, ap_sl, ap_part, ap_noPart, ap_ixLI, ap_ixTI, ap_ixLV, ap_ixTV, ap_len, ap_setLI, ap_setLV, ap_appI, ap_appV, ap_tupL, ap_listS, ap_sumLI, ap_sumTI, ap_repLI, ap_intI, ap_intB, ap_eqTI, ap_neTI, ap_eqLI, ap_neLI, ap_isi, ap_for, ap_rng1, ap_rng2, ap_iList, ap_iTup, ap_lc, ap_yes, ap_cut, ap_gTupH, ap_fmt, ap_jsn, ap_jsc, ap_gcd, ap_isqrt, ap_ixL, tyV_l, wipe_nil, wipe_cons, upd_same, ap_iEnT, ap_iEnL, ap_iZipA, ap_all, ap_tupT, ap_attF, ap_makeL, ap_att, ap_prop, ap_isO, ap_bin, ap_ne, ap_meth, ap_make, ins_inj, FE_inj, ap_slI, ap_catI, ap_perm, ap_lenO, ap_strO, ap_listO, ap_reprB, ap_iterT, ap_neT, ap_negO, ap_binI, ap_catL, ap_tM1, ap_repTI, ap_popN, ap_par3, ap_catTT, ap_repTA, ap_countT, ap_notInT, ap_repL1, ap_cm, ap_shl, ap_shr, ap_mask, ap_comb, ap_bits, ap_rng3, List.set_cons_zero, List.set_cons_succ, List.getElem?_cons_zero, List.getElem?_cons_succ, List.cons_append, List.nil_append, List.append_nil, Option.some.injEq, V.int.injEq, V.ref.injEq, V.bl.injEq, V.str.injEq, V.ty.injEq, Bool.not_true, Bool.not_false, HO.lst.injEq, HO.tup.injEq, reduceCtorEq, Int.reduceToNat, Int.reduceLT, Int.reduceLE, Nat.reduceAdd, Int.cast_ofNat_Int, gi_c0, gi_c1, gi_c2, gi_c3, Int.natCast_inj, map_int_inj, map_nil_iff, List.cons.injEq, exists_eq_left, exists_eq_left', exists_eq, exists_eq', exists_and_left, exists_and_right, exists_const, and_assoc, and_true, true_and, and_false, false_and, or_false, false_or, or_true, true_or, ite_true, ite_false, if_true, if_false, Bool.false_eq_true, own_cons, own_nil, le1, le2, le3, le4, me_cons, me_nil, List.length_map, List.length_cons, List.length_nil, ne_eq, not_false_eq_true, not_true_eq_false, decide_eq_true_eq]
    refine ⟨d, 9, rfl, D1, by omega, by omega, fun H2 n0 ex2 D2 a0 a1 => ?_⟩
    obtain ⟨n, rfl⟩ := Int.eq_ofNat_of_zero_le a0
    refine ⟨d, n, rfl, D2, by omega, fun H3 o one ex3 D3 no do1 ho => ?_⟩
    refine ⟨d, 5, rfl, D3, by omega, by omega, fun H4 m0 ex4 D4 b0 b1 => ?_⟩
    obtain ⟨m, rfl⟩ := Int.eq_ofNat_of_zero_le b0
    refine ⟨d, m, rfl, D4, by omega, fun H5 q oth ex5 D5 nq do2 hq => ?_⟩
    have ho5 := exT D3 (ex4.trans ex5) ho
    have l1 := do1.1
    have l2 := do2.1
    have B1 := drawn_abs do1
    have B2 := drawn_abs do2
    have smA : ∀ {ns : List Int} {A : Nat}, A < 10 ^ 60 → (∀ n ∈ ns, n.natAbs ≤ A) → ∀ n ∈ ns, Sm n := fun hA hb n hn => by have := hb n hn; unfold Sm; omega
    have wdA : ∀ {ns : List Int} {A : Nat}, A < 10 ^ 60 → (∀ n ∈ ns, n.natAbs ≤ A) → ∀ n ∈ ns, Wd n := fun hA hb n hn => (smA hA hb n hn).wd
    have EX5 := (((ex1.trans ex2).trans ex3).trans ex4).trans ex5
    refine newP_ok ho5 pp ⟨by omega, by omega, smA (by decide) B1⟩ fun F H6 s6 nF hF => ?_
    have hq6 := s6 _ _ hq
    refine new_ok hq6 ⟨by omega, by omega, smA (by decide) B2⟩ fun G dG H7 s7 nG hG => ?_
    refine ⟨G, dG, q, p, oth, rfl, hG, s7 _ _ hq6, pp, by omega, by omega, wdA (by decide) B2, fun H8 S s8 nS hS => ?_⟩
    have hF8 := hF.same (s7.trans s8)
    have ho8 := s8 _ _ (s7 _ _ (s6 _ _ ho5))
    have hq8 := s8 _ _ (s7 _ _ hq6)
    refine ⟨F, o, p, one, rfl, hF8, ho8, pp, by omega, by omega, wdA (by decide) B1, fun H9 s9 => ⟨true, rfl, ?_⟩⟩
    rw [if_neg (by simp)]
    refine ⟨S, q, p, oth, rfl, hS.same s9, s9 _ _ hq8, pp, by omega, by omega, wdA (by decide) B2, fun H10 s10 => ⟨true, rfl, ?_⟩⟩
    rw [if_neg (by simp)]
    have S10 := s9.trans s10
    have ho10 := S10 _ _ ho8
    have hq10 := S10 _ _ hq8
    refine new_ok ho10 ⟨by omega, by omega, smA (by decide) B1⟩ fun J dJ H11 s11 nJ hJ => ?_
    refine ⟨J, dJ, o, p, one, rfl, hJ, s11 _ _ ho10, pp, by omega, by omega, wdA (by decide) B1, fun H12 R s12 nR hR => ?_⟩
    have S12 := (S10.trans s11).trans s12
    have hF12 := hF8.same S12
    have hS12 := hS.same S12
    obtain ⟨dr, tr, hra, hrt⟩ := id hR
    obtain ⟨df, tf, hfa, hft⟩ := id hF12
    have lm1 := md_len p one
    have lm2 := md_len p oth
    refine ⟨R, rfl, dr, _, F, rfl, hra, ⟨_, _, hfa⟩, R, F, p, p, _, _, rfl, hR, hF12, by omega, by omega, true, by rw [decide_eq_true ⟨rfl, rfl⟩], ?_⟩
    rw [if_neg (by simp)]
    obtain ⟨dS, tS, hSa, hSt⟩ := id hS12
    have lmu := mulP_len one oth
    have emul : md p (mulP (md p one) (md p oth)) = md p (mulP one oth) := md_mulP (md_md p one) (md_md p oth)
    have emul2 : md p (mulP (md p oth) (md p one)) = md p (mulP one oth) := by
      rw [md_mulP (md_md p oth) (md_md p one)]
      refine congrArg (md p) (eq_of_val (by rw [mulP_len, mulP_len]; omega) fun x _ => ?_)
      rw [val_mulP (by omega) (by omega), val_mulP (by omega) (by omega), Int.mul_comm]
    refine ⟨F, rfl, df, _, S, rfl, hfa, ⟨_, _, hSa⟩, F, S, p, _, _, rfl, hF12, hS12, pp, by omega, by omega, by omega, md_md p one, md_md p oth, fun H13 B s13 nB hB => ?_⟩
    rw [emul] at hB
    have lmm := md_len p (mulP one oth)
    refine ⟨o, q, one, oth, rfl, s13 _ _ (S12 _ _ ho8), s13 _ _ (S12 _ _ hq8), by omega, by omega, by omega, by omega, wdA (by decide) B1, wdA (by decide) B2, fun H14 u s14 nu hu => ?_⟩
    have bmu : ∀ n ∈ mulP one oth, n.natAbs ≤ 10 ^ 30 := fun n hn => Nat.le_trans (l1_mem hn) (Nat.le_trans (l1_mulP one oth) (Nat.le_trans (Nat.mul_le_mul (Nat.le_trans (l1_Bd (m := 10 ^ 13) do1.2) (Nat.mul_le_mul_right _ (show one.length ≤ 9 by omega))) (Nat.le_trans (l1_Bd (m := 10 ^ 13) do2.2) (Nat.mul_le_mul_right _ (show oth.length ≤ 5 by omega)))) (by decide)))
    refine ⟨B, u, p, mulP one oth, rfl, hB.same s14, hu, pp, by omega, by omega, wdA (by decide) bmu, fun H15 s15 => ⟨true, rfl, ?_⟩⟩
    rw [if_neg (by simp)]
    have S15 := (s13.trans s14).trans s15
    have hF15 := hF12.same S15
    have hS15 := hS12.same S15
    obtain ⟨d1, t1, k1a, k1t⟩ := id hF15
    obtain ⟨d2, t2, k2a, k2t⟩ := id hS15
    refine ⟨S, rfl, d2, _, F, rfl, k2a, ⟨_, _, k1a⟩, S, F, p, _, _, rfl, hS15, hF15, pp, by omega, by omega, by omega, md_md p oth, md_md p one, fun H16 B2' s16 nB2 hB2 => ?_⟩
    rw [emul2] at hB2
    have hB16 := hB.same ((s14.trans s15).trans s16)
    obtain ⟨d3, t3, k3a, k3t⟩ := id hB16
    obtain ⟨d4, t4, k4a, k4t⟩ := id hB2
    refine ⟨B2', rfl, d4, _, B, rfl, k4a, ⟨_, _, k3a⟩, B2', B, p, p, _, _, rfl, hB2, hB16, by omega, by omega, true, by rw [decide_eq_true ⟨rfl, rfl⟩], ?_⟩
    rw [if_neg (by simp)]
    have S516 := ((s6.trans s7).trans s8).trans (S12.trans (S15.trans s16))
    have D16 := D5.same S516
    refine ⟨⟨by decide, by decide, by decide⟩, d, 10 ^ 6, rfl, D16, by decide, by decide, fun H17 X ex17 D17 X0 X1 => ?_⟩
    refine ⟨⟨by decide, by decide, by decide⟩, d, 10 ^ 30, rfl, D17, by decide, by decide, fun H18 Y ex18 D18 Y0 Y1 => ?_⟩
    have ex1718 := ex17.trans ex18
    have hF18 := (hF15.same s16).exc D16 ex1718
    have hS18 := (hS15.same s16).exc D16 ex1718
    have hB18 := hB16.exc D16 ex1718
    have ho18 := exT D16 ex1718 (s16 _ _ (S15 _ _ (S12 _ _ ho8)))
    have hq18 := exT D16 ex1718 (s16 _ _ (S15 _ _ (S12 _ _ hq8)))
    have fv : ∀ {m : Str} {t : Addr}, m = Str.ofString "value" → (PFe p t).lookup m = none := fun {m t} e => PF_no (by rw [e]; decide +kernel) (by rw [e]; decide +kernel)
    have rgm : ∀ l : List Int, ∀ n ∈ md p l, 0 ≤ n ∧ n < p := fun l => md_rg (by omega) l
    have sX : Sm X := by unfold Sm; omega
    have sY : Sm Y := by unfold Sm; omega
    obtain ⟨v1, w1, y1, z1⟩ := id hF18
    refine ⟨F, rfl, v1, _, y1, fv rfl, F, p, X, Y, _, rfl, hF18, by omega, by omega, rgm _, sX, sY, fun H19 s19 => ?_⟩
    have hS19 := hS18.same s19
    obtain ⟨v2, w2, y2, z2⟩ := id hS19
    refine ⟨S, rfl, v2, _, y2, fv rfl, S, p, X, Y, _, rfl, hS19, by omega, by omega, rgm _, sX, sY, fun H20 s20 => ?_⟩
    have S20 := s19.trans s20
    refine ⟨o, one, X, Y, 10 ^ 13, 10 ^ 30, rfl, S20 _ _ ho18, by omega, B1, by decide, by decide, by omega, by omega, by decide, fun H21 s21 => ?_⟩
    have S21 := S20.trans s21
    refine ⟨_, rfl, by omega, rfl, ?_⟩
    have ev1 : val (md p one) X Y % p = val one X Y % p := md_val (md_md p one)
    rw [ev1, decide_eq_true rfl, if_neg (by simp)]
    have hB21 := hB18.same S21
    obtain ⟨v3, w3, y3, z3⟩ := id hB21
    have r1 := Int.emod_nonneg (val one X Y) (show p ≠ 0 by omega)
    have r2 := Int.emod_lt_of_pos (val one X Y) (show 0 < p by omega)
    have r3 := Int.emod_nonneg (val (md p oth) X Y) (show p ≠ 0 by omega)
    have r4 := Int.emod_lt_of_pos (val (md p oth) X Y) (show 0 < p by omega)
    refine ⟨B, rfl, v3, _, y3, fv rfl, B, p, X, Y, _, rfl, hB21, by omega, by omega, rgm _, sX, sY, fun H22 s22 => ?_⟩
    have S22 := S21.trans s22
    refine ⟨_, rfl, _, rfl, ?_⟩
    have em1 : val one X Y % p % p = val one X Y % p := Int.emod_emod_of_dvd _ (Int.dvd_refl p)
    have evb : val (md p (mulP one oth)) X Y % p = val one X Y % p * (val (md p oth) X Y % p) % p := by
      have e1 : val (md p (mulP one oth)) X Y % p = val (mulP one oth) X Y % p := md_val (md_md p _)
      have e2 : val (md p oth) X Y % p = val oth X Y % p := md_val (md_md p oth)
      rw [e1, e2, val_mulP (by omega) (by omega), Int.mul_emod]
    have b250 : (1000 : Int) < (2 ^ 250) ^ 16 := by decide +kernel
    refine ⟨⟨⟨by omega, by omega⟩, by omega, by omega⟩, by omega, rfl, ?_⟩
    rw [evb, decide_eq_true rfl, if_neg (by simp)]
    have D22 := D18.same S22
    refine ⟨d, p, rfl, D22, pp, fun H23 t1 a b c e ex23 D23 ht1 bd1 hd1 => ?_⟩
    refine ⟨d, p, rfl, D23, pp, fun H24 t2 x y z u ex24 D24 ht2 bd2 hd2 => ?_⟩
    have TB : ∀ {a b c e : Int}, (∀ n ∈ [a, b, c, e], -(10 ^ 20) ≤ n ∧ n ≤ 10 ^ 20) → Tb (10 ^ 20) a b c e := fun h => ⟨h _ (by simp), h _ (by simp), h _ (by simp), h _ (by simp)⟩
    have tb1 := TB bd1
    have tb2 := TB bd2
    have t4o : ∀ {a b c e : Int}, Tb (10 ^ 20) a b c e → T4 a b c e := fun h => by
      obtain ⟨h1, h2, h3, h4⟩ := h
      exact ⟨by unfold Tn; omega, by unfold Tn; omega, by unfold Tn; omega, by unfold Tn; omega⟩
    have ht1' := ht1.exc D23 ex24
    have exA := ex23.trans ex24
    have hF24 := (hF18.same S22).exc D22 exA
    have hS24 := (hS18.same S22).exc D22 exA
    have hB24 := (hB18.same S22).exc D22 exA
    have ho24 := exT D22 exA (S22 _ _ ho18)
    obtain ⟨v4, w4, y4, z4⟩ := id hF24
    refine ⟨F, rfl, v4, _, y4, PF_no (by decide +kernel) (by decide +kernel), F, t1, _, a, b, c, e, p, rfl, hF24, ht1', t4o tb1, hd1, pp, by omega, by omega, md_md p one, fun H25 T1 s25 nT1 hT1 => ?_⟩
    have emc : ∀ {a b c e : Int} (l : List Int), md p (chP [a, b] [c, e] (md p l)) = md p (chP [a, b] [c, e] l) := fun l => md_chP rfl rfl (md_md p l)
    rw [emc] at hT1
    have lch : ∀ {a b c e : Int} (l : List Int), 0 < l.length → (chP [a, b] [c, e] l).length = l.length := fun l h => chP_len rfl rfl h
    have lc1 := lch (a := a) (b := b) (c := c) (e := e) one (by omega)
    have cg : Chg one [a, b] [c, e] (10 ^ 13) (2 * 10 ^ 20) := tb1.chg (N := 9) (by omega) (by omega) (by decide) B1 (by decide +kernel) (by decide) (by decide +kernel)
    refine ⟨o, t1, one, a, b, c, e, 10 ^ 13, 2 * 10 ^ 20, rfl, s25 _ _ ho24, ht1'.same s25, cg, fun H26 w s26 hw => ?_⟩
    have wch : ∀ n ∈ chP [a, b] [c, e] one, Wd n := fun n hn => wd_of (Nat.lt_of_le_of_lt (Nat.le_trans (l1_mem hn) (Nat.le_trans (l1_chP cg.f1 cg.s1 (by omega) B1) (Nat.mul_le_mul (Nat.mul_le_mul_right _ (show one.length ≤ 9 by omega)) (Nat.pow_le_pow_right (by decide) (show one.length - 1 ≤ 8 by omega))))) (by decide +kernel))
    refine ⟨T1, w, p, _, rfl, hT1.same s26, hw, pp, by omega, by omega, wch, fun H27 s27 => ⟨true, rfl, ?_⟩⟩
    rw [if_neg (by simp)]
    have S27 := (s25.trans s26).trans s27
    have hT27 := hT1.same (s26.trans s27)
    have lm3 := md_len p (chP [a, b] [c, e] one)
    obtain ⟨v5, w5, y5, z5⟩ := id hT27
    refine ⟨T1, rfl, v5, _, y5, PF_no (by decide +kernel) (by decide +kernel), T1, t2, _, x, y, z, u, p, rfl, hT27, ht2.same S27, t4o tb2, hd2, pp, by omega, by omega, md_md p _, fun H28 T2 s28 nT2 hT2 => ?_⟩
    rw [emc, ch_ch (by omega)] at hT2
    have S28 := S27.trans s28
    have hF28 := hF24.same S28
    obtain ⟨v6, w6, y6, z6⟩ := id hF28
    refine ⟨F, rfl, v6, _, y6, PF_no (by decide +kernel) (by decide +kernel), t1, t2, a, b, c, e, x, y, z, u, rfl, ht1'.same S28, ht2.same S28, tb1, tb2, fun H29 tj s29 htj => ?_⟩
    have S29 := S28.trans s29
    refine ⟨F, tj, _, a * x + b * z, a * y + b * u, c * x + e * z, c * y + e * u, p, rfl, hF24.same S29, htj, tb1.join tb2, det_joined pp hd1 hd2, pp, by omega, by omega, md_md p one, fun H30 T3 s30 nT3 hT3 => ?_⟩
    rw [emc] at hT3
    have hT230 := hT2.same (s29.trans s30)
    obtain ⟨v7, w7, y7, z7⟩ := id hT3
    obtain ⟨v8, w8, y8, z8⟩ := id hT230
    have lcj := lch (a := a * x + b * z) (b := a * y + b * u) (c := c * x + e * z) (e := c * y + e * u) one (by omega)
    have lm4 := md_len p (chP [a * x + b * z, a * y + b * u] [c * x + e * z, c * y + e * u] one)
    refine ⟨T2, rfl, v8, _, T3, rfl, y8, ⟨_, _, y7⟩, T2, T3, p, p, _, _, rfl, hT230, hT3, by omega, by omega, true, by rw [decide_eq_true ⟨rfl, rfl⟩], ?_⟩
    rw [if_neg (by simp)]
    have S30 := S29.trans s30
    have hB30 := hB24.same S30
    obtain ⟨v9, w9, y9, z9⟩ := id hB30
    refine ⟨B, rfl, v9, _, y9, PF_no (by decide +kernel) (by decide +kernel), B, t1, _, a, b, c, e, p, rfl, hB30, ht1'.same S30, t4o tb1, hd1, pp, by omega, by omega, md_md p _, fun H31 B3 s31 nB3 hB3 => ?_⟩
    rw [emc, ch_mul (by omega) (by omega)] at hB3
    have S31 := S30.trans s31
    have hS31 := hS24.same S31
    obtain ⟨v10, w10, y10, z10⟩ := id hS31
    refine ⟨S, rfl, v10, _, y10, PF_no (by decide +kernel) (by decide +kernel), S, t1, _, a, b, c, e, p, rfl, hS31, ht1'.same S31, t4o tb1, hd1, pp, by omega, by omega, md_md p _, fun H32 S3 s32 nS3 hS3 => ?_⟩
    rw [emc] at hS3
    have S32 := S31.trans s32
    have hT32 := hT1.same ((((s26.trans s27).trans s28).trans s29).trans (s30.trans (s31.trans s32)))
    have lc2 := lch (a := a) (b := b) (c := c) (e := e) oth (by omega)
    have lm5 := md_len p (chP [a, b] [c, e] oth)
    obtain ⟨v11, w11, y11, z11⟩ := id hT32
    obtain ⟨v12, w12, y12, z12⟩ := id hS3
    refine ⟨T1, rfl, v11, _, S3, rfl, y11, ⟨_, _, y12⟩, T1, S3, p, _, _, rfl, hT32, hS3, pp, by omega, by omega, by omega, md_md p _, md_md p _, fun H33 M3 s33 nM3 hM3 => ?_⟩
    rw [md_mulP (md_md p (chP [a, b] [c, e] one)) (md_md p (chP [a, b] [c, e] oth))] at hM3
    have lmu2 := mulP_len (chP [a, b] [c, e] one) (chP [a, b] [c, e] oth)
    have lm6 := md_len p (mulP (chP [a, b] [c, e] one) (chP [a, b] [c, e] oth))
    have hB33 := hB3.same (s32.trans s33)
    obtain ⟨v13, w13, y13, z13⟩ := id hB33
    obtain ⟨v14, w14, y14, z14⟩ := id hM3
    refine ⟨B3, rfl, v13, _, M3, rfl, y13, ⟨_, _, y14⟩, B3, M3, p, p, _, _, rfl, hB33, hM3, by omega, by omega, ?_⟩
    rw [decide_eq_true ⟨rfl, rfl⟩]
    have SE := S32.trans s33
    exact kk H33 (((((EX5.trans (.same S516)).trans ex1718).trans (.same S22)).trans exA).trans (.same SE)) (D24.same SE)
end
end My
namespace My
open PySem PySem.Spec PyProof.Rows L2 Pr
theorem sm_small {es : List Int} (h : es.all (fun n => decide (-100 ≤ n ∧ n ≤ 100)) = true) : ∀ n ∈ es, Sm n := fun n hn => by
  have := of_decide_eq_true (List.all_eq_true.mp h n hn)
  unfold Sm
  omega
section
variable {P : Program} {w : World} {K : PySem.W.Frag} {mg : Str → Option Value} {base : Heap}
def sp_law (K : PySem.W.Frag) : Sp := fun vs H Q _ => ∃ (a : Addr) (ns : List Int), vs = [.ref a] ∧ SqL K H a (ns.map V.int) ∧ ns.length ≤ 63 ∧ ∀ H', Q (.bl true) H'
theorem ok_law (T : Tx K mg) : FnOk P w K mg base CX0 28 T.f_law T.d_law p_law (sp_law K) := by
  refine T.F_law.ok sc_law (fun vs H Q E h => ?_) (fun cdv A outer s H vs Q E hr h => ?_)
  · obtain ⟨a, ns, rfl, _⟩ := h
    rfl
  · obtain ⟨a, ns, rfl, hS, hl, q⟩ := h
    refine ⟨_, (pss_cons (ps_for PassesOwn.never rfl (pi_range1 (by rfl) T.z_range (pa_cons (pe_callB (call_max2 rfl) (by rfl) T.z_max (by decide +kernel) (pa_cons pe_int (pa_cons (pe_callB (call_min2 rfl) (by rfl) T.z_min (by decide +kernel) (pa_cons pe_int (pa_cons (pe_callB call_len_seq (by rfl) T.z_len PySem.boot_len (pa_cons (pv 0) pa_nil)) pa_nil))) pa_nil))) pa_nil)) (pg_name (i := 1) sc_law.nd rfl (by first | exact .inl rfl | exact .inr rfl))
      (pss_one (ps_if (pt_not (pt_val (pe_call (ok_law_right T) (hr.mono (by decide)) (by rfl) T.m_law_right T.F_law_right.kp T.b_law_right .nil pass0 (pa_cons (pe_call (ok_law_dice T) (hr.mono (by decide)) (by rfl) T.m_law_dice T.F_law_dice.kp T.b_law_dice .nil pass0 (pa_cons (pv 0) (pa_cons (pv 1) pa_nil))) pa_nil)))) (pss_one (ps_ret pe_bl)) pss_nil)))
      (pss_cons (ps_set (i := 2) sc_law.nd rfl (Or.inl rfl) (ClX.pe_cmeth (pe_glob (v := .ref T.C_PrimeForm) (by rfl) T.mg_PrimeForm rfl) T.cr_PrimeForm T.cm_PrimeForm_of_form ((ok_PrimeForm_of_form T).rawN T.b_PrimeForm_of_form) (hr.mono (by decide)) pass0 (pa_cons (pe_make T.mk_Form (ok_Form___init__ T) (hr.mono (by decide)) (by rfl) T.mg_Form T.b_Form___init__ .nil pass0 (pa_cons (pe_tup (pa_cons pe_int (pa_cons pe_int (pa_cons (pe_un un_neg pe_int) (pa_cons pe_int pa_nil))))) pa_nil)) (pa_cons pe_int pa_nil))))
      (pss_cons (ps_set (i := 3) sc_law.nd rfl (Or.inl rfl) (ClX.pe_cmeth (pe_glob (v := .ref T.C_PrimeForm) (by rfl) T.mg_PrimeForm rfl) T.cr_PrimeForm T.cm_PrimeForm_of_form ((ok_PrimeForm_of_form T).rawN T.b_PrimeForm_of_form) (hr.mono (by decide)) pass0 (pa_cons (pe_make T.mk_Form (ok_Form___init__ T) (hr.mono (by decide)) (by rfl) T.mg_Form T.b_Form___init__ .nil pass0 (pa_cons (pe_tup (pa_cons pe_int (pa_cons pe_int (pa_cons (pe_un un_neg pe_int) (pa_cons pe_int pa_nil))))) pa_nil)) (pa_cons pe_int pa_nil))))
      (pss_cons (ps_set (i := 4) sc_law.nd rfl (Or.inl rfl) (pe_lst (pa_cons (pe_prop (pv 2) T.cl_PrimeForm T.pr_PrimeForm_entries (ok_PrimeForm_entries T) (hr.mono (by decide)) T.b_PrimeForm_entries .nil pass0 (by rfl)) (pa_cons (pe_callTy (cr_strO T.me_PrimeForm___str__.at_ T.me_PrimeForm___str__.fn (ok_PrimeForm___str__ T) (hr.mono (by decide)) T.b_PrimeForm___str__ pass0) (by rfl) T.z_str (by decide +kernel) (pa_cons (pv 2) pa_nil)) (pa_cons (pe_prop (pe_meth (pv 3) T.cl_PrimeForm T.me_PrimeForm_changed (ok_PrimeForm_changed T) (hr.mono (by decide)) T.b_PrimeForm_changed .nil pass0 (pa_cons (pe_tup (pa_cons (pe_tup (pa_cons pe_int (pa_cons pe_int pa_nil))) (pa_cons (pe_tup (pa_cons pe_int (pa_cons pe_int pa_nil))) pa_nil))) pa_nil)) T.cl_PrimeForm T.pr_PrimeForm_entries (ok_PrimeForm_entries T) (hr.mono (by decide)) T.b_PrimeForm_entries .nil pass0 (by rfl)) (pa_cons (pe_prop (pe_prop (pe_make T.mk_PrimeForm (ok_PrimeForm___init__ T) (hr.mono (by decide)) (by rfl) T.mg_PrimeForm T.b_PrimeForm___init__ .nil pass0 (pa_cons pe_int (pa_cons (pe_tup (pa_cons pe_int (pa_cons pe_int (pa_cons pe_int pa_nil)))) pa_nil))) T.cl_PrimeForm T.pr_PrimeForm_plain (ok_PrimeForm_plain T) (hr.mono (by decide)) T.b_PrimeForm_plain .nil pass0 (by rfl)) T.cl_PrimeForm T.pr_PrimeForm_entries (ok_PrimeForm_entries T) (hr.mono (by decide)) T.b_PrimeForm_entries .nil pass0 (by rfl)) pa_nil))))))
      (pss_cons (ps_if (pt_cmpR (op_neD hr.units) (pv 4) (pe_lst (pa_cons (pe_tup (pa_cons pe_int (pa_cons pe_int (pa_cons pe_int (pa_cons pe_int pa_nil))))) (pa_cons pe_str (pa_cons (pe_tup (pa_cons pe_int (pa_cons pe_int (pa_cons pe_int (pa_cons pe_int pa_nil))))) (pa_cons (pe_tup (pa_cons pe_int (pa_cons pe_int (pa_cons pe_int pa_nil)))) pa_nil))))) (nomark _)) (pss_one (ps_ret pe_bl)) pss_nil)
      (pss_one (ps_ret (pe_and (pe_prop (pe_make T.mk_PrimeForm (ok_PrimeForm___init__ T) (hr.mono (by decide)) (by rfl) T.mg_PrimeForm T.b_PrimeForm___init__ .nil pass0 (pa_cons pe_int (pa_cons (pe_op op_repTA (pe_tup (pa_cons pe_int pa_nil)) pe_int) pa_nil))) T.cl_PrimeForm T.pr_PrimeForm_is_zero (ok_PrimeForm_is_zero T) (hr.mono (by decide)) T.b_PrimeForm_is_zero .nil pass0 (by rfl)) (pe_one (pe_cmpR (op_eqOwn (fun _ _ => rfl) T.nf_PrimeForm T.me_PrimeForm___eq__.at_ T.me_PrimeForm___eq__.fn (ok_PrimeForm___eq__ T) (hr.mono (by decide)) T.b_PrimeForm___eq__ pass0) (pe_prop (pe_make T.mk_PrimeForm (ok_PrimeForm___init__ T) (hr.mono (by decide)) (by rfl) T.mg_PrimeForm T.b_PrimeForm___init__ .nil pass0 (pa_cons pe_int (pa_cons (pe_tup (pa_cons pe_int (pa_cons pe_int pa_nil))) pa_nil))) T.cl_PrimeForm T.pr_PrimeForm_plain (ok_PrimeForm_plain T) (hr.mono (by decide)) T.b_PrimeForm_plain .nil pass0 (by rfl)) (pe_make T.mk_PrimeForm (ok_PrimeForm___init__ T) (hr.mono (by decide)) (by rfl) T.mg_PrimeForm T.b_PrimeForm___init__ .nil pass0 (pa_cons pe_int (pa_cons (pe_tup (pa_cons pe_int (pa_cons (pe_un un_neg pe_int) pa_nil))) pa_nil))) (nomark _))))))))))), ?_⟩
    rw [st_law]
    simp only [ap_seq, ap_next, ap_asg, ap_gName, ap_ret, ap_retN, ap_drop, ap_ifS, ap_break, ap_cont, ap_par, ap_aug, ap_ip, ap_gSub, ap_gTup, ap_gNil, ap_gCons, ap_var, ap_c, ap_op, ap_un, ap_if, ap_test, ap_B, ap_and, ap_or, ap_not, ap_andV, ap_orV, ap_notV, ap_nil, ap_cons, ap_tup, ap_lst, ap_cb, ap_bm, ap_call, ap_chain, ap_rI, ap_rI0, ap_rU, ap_rEq, ap_rNe, ap_revT, ap_sl, ap_part, ap_noPart, ap_ixLI, ap_ixTI, ap_ixLV, ap_ixTV, ap_len, ap_setLI, ap_setLV, ap_appI, ap_appV, ap_tupL, ap_listS, ap_sumLI, ap_sumTI, ap_repLI, ap_intI, ap_intB, ap_eqTI, ap_neTI, ap_eqLI, ap_neLI, ap_isi, ap_for, ap_rng1, ap_rng2, ap_iList, ap_iTup, ap_lc, ap_yes, ap_cut, ap_gTupH, ap_fmt, ap_jsn, ap_jsc, ap_gcd, ap_isqrt, ap_ixL, tyV_l, wipe_nil, wipe_cons, upd_same, ap_iEnT, ap_iEnL, ap_iZipA, ap_all, ap_tupT, ap_attF, ap_makeL, ap_att, ap_prop, ap_isO, ap_bin, ap_ne, ap_meth, ap_make, ins_inj, FE_inj, ap_slI, ap_catI, ap_perm, ap_lenO, ap_strO, ap_listO, ap_reprB, ap_iterT, ap_neT, ap_negO, ap_binI, ap_catL, ap_tM1, ap_repTI, ap_popN, ap_par3, ap_catTT, ap_repTA, ap_countT, ap_notInT, ap_repL1, ap_cm, ap_shl, ap_shr, ap_mask, ap_comb, ap_bits, ap_rng3, List.set_cons_zero, List.set_cons_succ, List.getElem?_cons_zero, List.getElem?_cons_succ, List.cons_append, List.nil_append, List.append_nil, Option.some.injEq, V.int.injEq, V.ref.injEq, V.bl.injEq, V.str.injEq, V.ty.injEq, Bool.not_true, Bool.not_false, HO.lst.injEq, HO.tup.injEq, reduceCtorEq, Int.reduceToNat, Int.reduceLT, Int.reduceLE, Nat.reduceAdd, Int.cast_ofNat_Int, gi_c0, gi_c1, gi_c2, gi_c3, Int.natCast_inj, map_int_inj, map_nil_iff, List.cons.injEq, exists_eq_left, exists_eq_left', exists_eq, exists_eq', exists_and_left, exists_and_right, exists_const, and_assoc, and_true, true_and, and_false, false_and, or_false, false_or, or_true, true_or, ite_true, ite_false, if_true, if_false, Bool.false_eq_true, own_cons, own_nil, le1, le2, le3, le4, me_cons, me_nil, List.length_map, List.length_cons, List.length_nil, ne_eq, not_false_eq_true, not_true_eq_false, decide_eq_true_eq]
    refine ⟨_, .inl hS, ?_⟩
    have ln : (ns.map V.int).length = ns.length := List.length_map ..
    rw [ln]
    obtain ⟨n, hn, n1, n4⟩ : ∃ n : Int, (if (if (ns.length : Int) < 4 then (ns.length : Int) else 4) > 1 then if (ns.length : Int) < 4 then (ns.length : Int) else 4 else 1) = n ∧ 1 ≤ n ∧ n ≤ 4 :=
      ⟨_, rfl, by split <;> split <;> omega, by split <;> split <;> omega⟩
    simp only [hn]
    refine ⟨by omega, by omega, ?_⟩
    refine loop_range (fun i σ' H' => Same H H' ∧ ∃ y1, σ' = [some (.ref a), y1, none, none, none]) ⟨Same.refl H, _, rfl⟩ (fun i σ' H1 hi hP => ?_) (fun σ' H1 hP => ?_)
    · obtain ⟨sm, y1, e⟩ := hP
      subst e
      simp only [ap_seq, ap_next, ap_asg, ap_gName, ap_ret, ap_retN, ap_drop, ap_ifS, ap_break, ap_cont, ap_par, ap_aug, ap_ip, ap_gSub, ap_gTup, ap_gNil, ap_gCons, ap_var, ap_c, ap_op, ap_un, ap_if, ap_test, ap_B, ap_and, ap_or, ap_not, ap_andV, ap_orV, ap_notV, ap_nil, ap_cons, ap_tup, ap_lst, ap_cb, ap_bm, ap_call, ap_chain, ap_rI, ap_rI0, ap_rU, ap_rEq, ap_rNe, ap_revT, ap_sl, ap_part, ap_noPart, ap_ixLI, ap_ixTI, ap_ixLV, ap_ixTV, ap_len, ap_setLI, ap_setLV, ap_appI, ap_appV, ap_tupL, ap_listS, ap_sumLI, ap_sumTI, ap_repLI, ap_intI, ap_intB, ap_eqTI, ap_neTI, ap_eqLI, ap_neLI, ap_isi, ap_for, ap_rng1, ap_rng2, ap_iList, ap_iTup, ap_lc, ap_yes, ap_cut, ap_gTupH, ap_fmt, ap_jsn, ap_jsc, ap_gcd, ap_isqrt, ap_ixL, tyV_l, wipe_nil, wipe_cons, upd_same, ap_iEnT, ap_iEnL, ap_iZipA, ap_all, ap_tupT, ap_attF, ap_makeL, ap_att, ap_prop, ap_isO, ap_bin, ap_ne, ap_meth, ap_make, ins_inj, FE_inj, ap_slI, ap_catI, ap_perm, ap_lenO, ap_strO, ap_listO, ap_reprB, ap_iterT, ap_neT, ap_negO, ap_binI, ap_catL, ap_tM1, ap_repTI, ap_popN, ap_par3, ap_catTT, ap_repTA, ap_countT, ap_notInT, ap_repL1, ap_cm, ap_shl, ap_shr, ap_mask, ap_comb, ap_bits, ap_rng3, List.set_cons_zero, List.set_cons_succ, List.getElem?_cons_zero, List.getElem?_cons_succ, List.cons_append, List.nil_append, List.append_nil, Option.some.injEq, V.int.injEq, V.ref.injEq, V.bl.injEq, V.str.injEq, V.ty.injEq, Bool.not_true, Bool.not_false, HO.lst.injEq, HO.tup.injEq, reduceCtorEq, Int.reduceToNat, Int.reduceLT, Int.reduceLE, Nat.reduceAdd, Int.cast_ofNat_Int, gi_c0, gi_c1, gi_c2, gi_c3, Int.natCast_inj, map_int_inj, map_nil_iff, List.cons.injEq, exists_eq_left, exists_eq_left', exists_eq, exists_eq', exists_and_left, exists_and_right, exists_const, and_assoc, and_true, true_and, and_false, false_and, or_false, false_or, or_true, true_or, ite_true, ite_false, if_true, if_false, Bool.false_eq_true, own_cons, own_nil, le1, le2, le3, le4, me_cons, me_nil, List.length_map, List.length_cons, List.length_nil, ne_eq, not_false_eq_true, not_true_eq_false, decide_eq_true_eq]
      refine ⟨a, ns, i, by rw [Int.zero_add], sm.seq hS, by omega, fun H2 p s2 np D2 => ?_⟩
      refine ⟨p, rfl, D2, fun H3 x3 D3 => ?_⟩
      simp only [ap_seq, ap_next, ap_asg, ap_gName, ap_ret, ap_retN, ap_drop, ap_ifS, ap_break, ap_cont, ap_par, ap_aug, ap_ip, ap_gSub, ap_gTup, ap_gNil, ap_gCons, ap_var, ap_c, ap_op, ap_un, ap_if, ap_test, ap_B, ap_and, ap_or, ap_not, ap_andV, ap_orV, ap_notV, ap_nil, ap_cons, ap_tup, ap_lst, ap_cb, ap_bm, ap_call, ap_chain, ap_rI, ap_rI0, ap_rU, ap_rEq, ap_rNe, ap_revT, ap_sl, ap_part, ap_noPart, ap_ixLI, ap_ixTI, ap_ixLV, ap_ixTV, ap_len, ap_setLI, ap_setLV, ap_appI, ap_appV, ap_tupL, ap_listS, ap_sumLI, ap_sumTI, ap_repLI, ap_intI, ap_intB, ap_eqTI, ap_neTI, ap_eqLI, ap_neLI, ap_isi, ap_for, ap_rng1, ap_rng2, ap_iList, ap_iTup, ap_lc, ap_yes, ap_cut, ap_gTupH, ap_fmt, ap_jsn, ap_jsc, ap_gcd, ap_isqrt, ap_ixL, tyV_l, wipe_nil, wipe_cons, upd_same, ap_iEnT, ap_iEnL, ap_iZipA, ap_all, ap_tupT, ap_attF, ap_makeL, ap_att, ap_prop, ap_isO, ap_bin, ap_ne, ap_meth, ap_make, ins_inj, FE_inj, ap_slI, ap_catI, ap_perm, ap_lenO, ap_strO, ap_listO, ap_reprB, ap_iterT, ap_neT, ap_negO, ap_binI, ap_catL, ap_tM1, ap_repTI, ap_popN, ap_par3, ap_catTT, ap_repTA, ap_countT, ap_notInT, ap_repL1, ap_cm, ap_shl, ap_shr, ap_mask, ap_comb, ap_bits, ap_rng3, List.set_cons_zero, List.set_cons_succ, List.getElem?_cons_zero, List.getElem?_cons_succ, List.cons_append, List.nil_append, List.append_nil, Option.some.injEq, V.int.injEq, V.ref.injEq, V.bl.injEq, V.str.injEq, V.ty.injEq, Bool.not_true, Bool.not_false, HO.lst.injEq, HO.tup.injEq, reduceCtorEq, Int.reduceToNat, Int.reduceLT, Int.reduceLE, Nat.reduceAdd, Int.cast_ofNat_Int, gi_c0, gi_c1, gi_c2, gi_c3, Int.natCast_inj, map_int_inj, map_nil_iff, List.cons.injEq, exists_eq_left, exists_eq_left', exists_eq, exists_eq', exists_and_left, exists_and_right, exists_const, and_assoc, and_true, true_and, and_false, false_and, or_false, false_or, or_true, true_or, ite_true, ite_false, if_true, if_false, Bool.false_eq_true, own_cons, own_nil, le1, le2, le3, le4, me_cons, me_nil, List.length_map, List.length_cons, List.length_nil, ne_eq, not_false_eq_true, not_true_eq_false, decide_eq_true_eq]
      exact fun b o hb => x3 b o (ne_of_none hb (sm.free np)) (s2 _ _ (sm _ _ hb))
    · obtain ⟨sm, y1, e⟩ := hP
      subst e
      simp only [ap_seq, ap_next, ap_asg, ap_gName, ap_ret, ap_retN, ap_drop, ap_ifS, ap_break, ap_cont, ap_par, ap_aug, ap_ip, ap_gSub, ap_gTup, ap_gNil, ap_gCons, ap_var, ap_c, ap_op, ap_un, ap_if, ap_test, ap_B, ap_and, ap_or, ap_not, ap_andV, ap_orV, ap_notV, ap_nil, ap_cons, ap_tup, ap_lst, ap_cb, ap_bm, ap_call, ap_chain, ap_rI, ap_rI0, ap_rU, ap_rEq, ap_rNe, ap_revT, ap_sl, ap_part, ap_noPart, ap_ixLI, ap_ixTI, ap_ixLV, ap_ixTV, ap_len, ap_setLI, ap_setLV, ap_appI, ap_appV, ap_tupL, ap_listS, ap_sumLI, ap_sumTI, ap_repLI, ap_intI, ap_intB, ap_eqTI, ap_neTI, ap_eqLI, ap_neLI, ap_isi, ap_for, ap_rng1, ap_rng2, ap_iList, ap_iTup, ap_lc, ap_yes, ap_cut, ap_gTupH, ap_fmt, ap_jsn, ap_jsc, ap_gcd, ap_isqrt, ap_ixL, tyV_l, wipe_nil, wipe_cons, upd_same, ap_iEnT, ap_iEnL, ap_iZipA, ap_all, ap_tupT, ap_attF, ap_makeL, ap_att, ap_prop, ap_isO, ap_bin, ap_ne, ap_meth, ap_make, ins_inj, FE_inj, ap_slI, ap_catI, ap_perm, ap_lenO, ap_strO, ap_listO, ap_reprB, ap_iterT, ap_neT, ap_negO, ap_binI, ap_catL, ap_tM1, ap_repTI, ap_popN, ap_par3, ap_catTT, ap_repTA, ap_countT, ap_notInT, ap_repL1, ap_cm, ap_shl, ap_shr, ap_mask, ap_comb, ap_bits, ap_rng3, List.set_cons_zero, List.set_cons_succ, List.getElem?_cons_zero, List.getElem?_cons_succ, List.cons_append, List.nil_append, List.append_nil, Option.some.injEq, V.int.injEq, V.ref.injEq, V.bl.injEq, V.str.injEq, V.ty.injEq, Bool.not_true, Bool.not_false, HO.lst.injEq, HO.tup.injEq, reduceCtorEq, Int.reduceToNat, Int.reduceLT, Int.reduceLE, Nat.reduceAdd, Int.cast_ofNat_Int, gi_c0, gi_c1, gi_c2, gi_c3, Int.natCast_inj, map_int_inj, map_nil_iff, List.cons.injEq, exists_eq_left, exists_eq_left', exists_eq, exists_eq', exists_and_left, exists_and_right, exists_const, and_assoc, and_true, true_and, and_false, false_and, or_false, false_or, or_true, true_or, ite_true, ite_false, if_true, if_false, Bool.false_eq_true, own_cons, own_nil, le1, le2, le3, le4, me_cons, me_nil, List.length_map, List.length_cons, List.length_nil, ne_eq, not_false_eq_true, not_true_eq_false, decide_eq_true_eq]
      have sm1 : ∀ n ∈ ([1, 0, -3, 1] : List Int), Sm n := sm_small (by decide)
      refine ⟨by decide, fun u1 nu1 => new_ok (es := [1, 0, -3, 1]) upd_same ⟨by decide, by decide, sm1⟩ fun a1 d1 G1 s1 na1 ha1 => ?_⟩
      have t1 := s1 _ _ (upd_same (o := TI [1, 0, -3, 1]) (H := H1) (a := u1))
      refine ⟨a1, d1, u1, 13, [1, 0, -3, 1], rfl, ha1, t1, by decide, by decide, by decide, fun n hn => (sm1 n hn).wd, fun G2 F s2 nF hF => ?_⟩
      refine ⟨by decide, fun u2 nu2 => new_ok (es := [1, 0, -3, 1]) upd_same ⟨by decide, by decide, sm1⟩ fun a2 d2 G3 s3 na2 ha2 => ?_⟩
      have t2 := s3 _ _ (upd_same (o := TI [1, 0, -3, 1]) (H := G2) (a := u2))
      refine ⟨a2, d2, u2, 17, [1, 0, -3, 1], rfl, ha2, t2, by decide, by decide, by decide, fun n hn => (sm1 n hn).wd, fun G4 S s4 nS hS => ?_⟩
      have hF4 := hF.same (((same_upd nu2).trans s3).trans s4)
      have e1 : md 13 [1, 0, -3, 1] = [1, 0, 10, 1] := by decide +kernel
      have e2 : md 17 [1, 0, -3, 1] = [1, 0, 14, 1] := by decide +kernel
      rw [e1] at hF4
      rw [e2] at hS
      obtain ⟨fd, ft, fa, fe⟩ := id hF4
      refine ⟨F, rfl, ⟨_, _, fa⟩, F, fd, ft, 13, rfl, fa, F, rfl, ⟨_, _, fa⟩, F, 13, [1, 0, 10, 1], rfl, hF4, by decide, sm_small (by decide), by unfold Sm; omega, fun G5 s5 => ⟨_, rfl, ?_⟩⟩
      have hS5 := hS.same s5
      obtain ⟨sd, st, sa, se⟩ := id hS5
      refine ⟨S, rfl, sd, _, sa, PF_no (by decide +kernel) (by decide +kernel), by decide, fun w1 nw1 => ⟨by decide, fun w2 nw2 => ⟨by decide, fun w3 nw3 => ?_⟩⟩⟩
      have z1 := same_upd (o := TI [1, 2]) nw1
      have z2 := same_upd (o := TI [3, 5]) nw2
      have z3 := same_upd (o := HO.tup [V.ref w1, V.ref w2]) nw3
      have Z3 := (z1.trans z2).trans z3
      refine ⟨S, w3, [1, 0, 14, 1], 1, 2, 3, 5, 17, rfl, hS5.same Z3, ⟨w1, w2, upd_same, z3 _ _ (z2 _ _ upd_same), z3 _ _ upd_same⟩, ⟨by unfold Tn; omega, by unfold Tn; omega, by unfold Tn; omega, by unfold Tn; omega⟩, by decide, by decide, by decide, by decide, by decide +kernel, fun G6 R s6 nR hR => ?_⟩
      have e3 : md 17 (chP [1, 2] [3, 5] [1, 0, 14, 1]) = [1, 14, 16, 0] := by decide +kernel
      rw [e3] at hR
      obtain ⟨rd, rt, ra, re⟩ := id hR
      refine ⟨R, rfl, ⟨_, _, ra⟩, R, rd, rt, 17, rfl, ra, by decide, fun w4 nw4 => ?_⟩
      refine newP_ok (es := [0, 26, 5]) upd_same (by decide) ⟨by decide, by decide, sm_small (by decide)⟩ fun B G7 s7 nB hB => ?_
      have tP : primeT 13 [1, 0, 10, 1] = Str.ofString "form 1 0 10 1 over 13" := by decide +kernel
      rw [tP]
      have e4 : md 13 [0, 26, 5] = [0, 0, 5] := by decide +kernel
      rw [e4] at hB
      obtain ⟨bd, bt, ba, be⟩ := id hB
      refine ⟨B, rfl, ⟨_, _, ba⟩, B, 13, _, rfl, hB, by decide, by decide, by decide, by decide +kernel, fun G8 L s8 nL hL => ?_⟩
      have e5 : plR 13 [0, 0, 5] = [0, 0, 1] := by decide +kernel
      rw [e5] at hL
      obtain ⟨ld, lt, la, le⟩ := id hL
      refine ⟨L, rfl, ⟨_, _, la⟩, L, ld, lt, 13, rfl, la, ?_⟩
      refine ⟨by decide, fun y0 ny0 => ⟨by decide, fun y1 ny1 => ⟨by decide, fun y2 ny2 => ⟨by decide, fun y3 ny3 => ⟨by decide, fun y4 ny4 => ?_⟩⟩⟩⟩⟩
      have fe8 := s8 _ _ (((same_upd (o := TI [0, 26, 5]) nw4).trans s7) _ _ (s6 _ _ (Z3 _ _ (s5 _ _ fe))))
      have re8 := s8 _ _ (((same_upd (o := TI [0, 26, 5]) nw4).trans s7) _ _ re)
      have x0 := same_upd (o := HO.lst [V.ref ft, V.str (Str.ofString "form 1 0 10 1 over 13"), V.ref rt, V.ref lt]) ny0
      have x1 := same_upd (o := TI [1, 0, 10, 1]) ny1
      have x2 := same_upd (o := TI [1, 14, 16, 0]) ny2
      have x3 := same_upd (o := TI [0, 0, 1]) ny3
      have x4 := same_upd (o := HO.lst [V.ref y1, V.str (Str.ofString "form 1 0 10 1 over 13"), V.ref y2, V.ref y3]) ny4
      have X := ((x1.trans x2).trans x3).trans x4
      have g0 := X _ _ (upd_same (o := HO.lst [V.ref ft, V.str (Str.ofString "form 1 0 10 1 over 13"), V.ref rt, V.ref lt]) (H := G8) (a := y0))
      have XX := x0.trans X
      have p1 := XX _ _ fe8
      have p2 := XX _ _ re8
      have p3 := XX _ _ le
      have q1 := ((x2.trans x3).trans x4) _ _ (upd_same (o := TI [1, 0, 10, 1]) (a := y1))
      have q2 := (x3.trans x4) _ _ (upd_same (o := TI [1, 14, 16, 0]) (a := y2))
      have q3 := x4 _ _ (upd_same (o := TI [0, 0, 1]) (a := y3))
      have dsh : SeqAt.shaped (.list [.tuple ([1, 0, 10, 1].map .int), .str (Str.ofString "form 1 0 10 1 over 13"), .tuple ([1, 14, 16, 0].map .int), .tuple ([0, 0, 1].map .int)]) = true := by decide +kernel
      refine ⟨.list [.tuple ([1, 0, 10, 1].map .int), .str (Str.ofString "form 1 0 10 1 over 13"), .tuple ([1, 14, 16, 0].map .int), .tuple ([0, 0, 1].map .int)], _, .lst (sqL_of g0) (.cons (.tup (sqT_of (xs := [1, 0, 10, 1].map V.int) p1) (dpAll_ints _ _ [1, 0, 10, 1])) (.cons (.str _) (.cons (.tup (sqT_of (xs := [1, 14, 16, 0].map V.int) p2) (dpAll_ints _ _ [1, 14, 16, 0])) (.cons (.tup (sqT_of (xs := [0, 0, 1].map V.int) p3) (dpAll_ints _ _ [0, 0, 1])) .nil)))), .lst (sqL_of (upd_same (a := y4))) (.cons (.tup (sqT_of (xs := [1, 0, 10, 1].map V.int) q1) (dpAll_ints _ _ [1, 0, 10, 1])) (.cons (.str _) (.cons (.tup (sqT_of (xs := [1, 14, 16, 0].map V.int) q2) (dpAll_ints _ _ [1, 14, 16, 0])) (.cons (.tup (sqT_of (xs := [0, 0, 1].map V.int) q3) (dpAll_ints _ _ [0, 0, 1])) .nil)))), dsh, dsh, ?_⟩
      rw [SeqAt.eqv_refl _ (SeqAt.canLay_of_shaped dsh)]
      refine ⟨false, rfl, ?_⟩
      rw [if_neg (by simp)]
      have sm13 : ∀ n ∈ (List.replicate 13 0 : List Int), Sm n := sm_small (by decide)
      refine ⟨by decide, fun k0 nk0 k1 K1 sK1 hk1 => newP_ok (es := List.replicate 13 0) hk1 (by decide) ⟨by decide, by decide, sm13⟩ fun c1 K2 sK2 nc1 hc1 => ?_⟩
      obtain ⟨d3, t3, a3, b3⟩ := id hc1
      refine ⟨c1, rfl, ⟨_, _, a3⟩, c1, 101, _, rfl, hc1, fun K3 sK3 => ⟨_, rfl, ?_⟩⟩
      have lz : leadV (md 101 (List.replicate 13 0)) = .non := by decide +kernel
      rw [lz, decide_eq_true rfl, if_pos rfl]
      refine ⟨by decide, fun m1 nm1 => newP_ok (es := [0, 0]) upd_same (by decide) ⟨by decide, by decide, sm_small (by decide)⟩ fun c2 K4 sK4 nc2 hc2 => ?_⟩
      obtain ⟨d4, t4, a4, b4⟩ := id hc2
      refine ⟨c2, rfl, ⟨_, _, a4⟩, c2, 13, _, rfl, hc2, by decide, by decide, by decide, by decide +kernel, fun K5 c3 sK5 nc3 hc3 => ?_⟩
      refine ⟨by decide, fun m2 nm2 => newP_ok (es := [13, -13]) upd_same (by decide) ⟨by decide, by decide, sm_small (by decide)⟩ fun c4 K6 sK6 nc4 hc4 => ?_⟩
      have hc36 := hc3.same ((same_upd (o := TI [13, -13]) nm2).trans sK6)
      obtain ⟨d5, t5, a5, b5⟩ := id hc36
      obtain ⟨d6, t6, a6, b6⟩ := id hc4
      refine ⟨c3, rfl, d5, _, c4, rfl, a5, ⟨_, _, a6⟩, c3, c4, 13, 13, _, _, rfl, hc36, hc4, by decide +kernel, by decide +kernel, ?_⟩
      rw [decide_eq_true (by decide +kernel)]
      exact q _
end
end My
namespace My
open PySem PySem.Spec PyProof.Rows L2 Pr
theorem us1 {α : Type} {us : List α} (hl : us.length = 1) : ∃ a0, us = [a0] := by
  match us, hl with
  | [a0], _ => exact ⟨a0, rfl⟩
theorem us2 {α : Type} {us : List α} (hl : us.length = 2) : ∃ a0 a1, us = [a0, a1] := by
  match us, hl with
  | [a0, a1], _ => exact ⟨a0, a1, rfl⟩
theorem us3 {α : Type} {us : List α} (hl : us.length = 3) : ∃ a0 a1 a2, us = [a0, a1, a2] := by
  match us, hl with
  | [a0, a1, a2], _ => exact ⟨a0, a1, a2, rfl⟩
theorem us4 {α : Type} {us : List α} (hl : us.length = 4) : ∃ a0 a1 a2 a3, us = [a0, a1, a2, a3] := by
  match us, hl with
  | [a0, a1, a2, a3], _ => exact ⟨a0, a1, a2, a3, rfl⟩
theorem all_mk {l : PySem.W.OpenLaw} {w : World} {K : PySem.W.Frag} {h : Heap} {mg : Str → Option Value} {fa : Addr} (X : K.In h) (G : h.Ns mainGlobals mg) (hfa : mg "law" = some (.ref fa))
    {C_Form : Addr}
    {C_PrimeForm : Addr}
    {f0 : Addr} {od0 an0 : Option Addr} {sl0 : Array (Option Value)} {oc0 kV0 dc0 pm0 cd0 ct0 : Value}
    (a0 : PySem.W.nsIn K mainGlobals "_wall" = some (some (.ref f0)))
    (l0 : K.lookup f0 = some ⟨oc0, od0, .func (PySem.W.fnOf "_wall" "_wall" (defArgs s_wall) (defBody s_wall) (defScope s_wall) .none kV0 dc0 pm0 an0 cd0 ct0), sl0⟩) (c0 : PySem.W.codeIn K cd0 "_wall" = true) (k0 : PySem.W.keepIn K (.ref f0) = true)
    {f1 : Addr} {od1 an1 : Option Addr} {sl1 : Array (Option Value)} {oc1 kV1 dc1 pm1 cd1 ct1 : Value}
    (a1 : PySem.W.nsIn K mainGlobals "is_integer" = some (some (.ref f1)))
    (l1 : K.lookup f1 = some ⟨oc1, od1, .func (PySem.W.fnOf "is_integer" "is_integer" (defArgs s_is_integer) (defBody s_is_integer) (defScope s_is_integer) .none kV1 dc1 pm1 an1 cd1 ct1), sl1⟩) (c1 : PySem.W.codeIn K cd1 "is_integer" = true) (k1 : PySem.W.keepIn K (.ref f1) = true)
    {f2 : Addr} {od2 an2 : Option Addr} {sl2 : Array (Option Value)} {oc2 kV2 dc2 pm2 cd2 ct2 : Value}
    (a2 : PySem.W.nsIn K mainGlobals "is_within" = some (some (.ref f2)))
    (l2 : K.lookup f2 = some ⟨oc2, od2, .func (PySem.W.fnOf "is_within" "is_within" (defArgs s_is_within) (defBody s_is_within) (defScope s_is_within) .none kV2 dc2 pm2 an2 cd2 ct2), sl2⟩) (c2 : PySem.W.codeIn K cd2 "is_within" = true) (k2 : PySem.W.keepIn K (.ref f2) = true)
    {f3 : Addr} {od3 an3 : Option Addr} {sl3 : Array (Option Value)} {oc3 kV3 dc3 pm3 cd3 ct3 : Value}
    (a3 : PySem.W.nsIn K mainGlobals "need_number" = some (some (.ref f3)))
    (l3 : K.lookup f3 = some ⟨oc3, od3, .func (PySem.W.fnOf "need_number" "need_number" (defArgs s_need_number) (defBody s_need_number) (defScope s_need_number) .none kV3 dc3 pm3 an3 cd3 ct3), sl3⟩) (c3 : PySem.W.codeIn K cd3 "need_number" = true) (k3 : PySem.W.keepIn K (.ref f3) = true)
    {f4 : Addr} {od4 an4 : Option Addr} {sl4 : Array (Option Value)} {oc4 kV4 dc4 pm4 cd4 ct4 : Value}
    (a4 : PySem.W.nsIn K mainGlobals "is_row" = some (some (.ref f4)))
    (l4 : K.lookup f4 = some ⟨oc4, od4, .func (PySem.W.fnOf "is_row" "is_row" (defArgs s_is_row) (defBody s_is_row) (defScope s_is_row) .none kV4 dc4 pm4 an4 cd4 ct4), sl4⟩) (c4 : PySem.W.codeIn K cd4 "is_row" = true) (k4 : PySem.W.keepIn K (.ref f4) = true)
    {f5 : Addr} {od5 an5 : Option Addr} {sl5 : Array (Option Value)} {oc5 kV5 dc5 pm5 cd5 ct5 : Value}
    (a5 : PySem.W.nsIn K mainGlobals "is_pair" = some (some (.ref f5)))
    (l5 : K.lookup f5 = some ⟨oc5, od5, .func (PySem.W.fnOf "is_pair" "is_pair" (defArgs s_is_pair) (defBody s_is_pair) (defScope s_is_pair) .none kV5 dc5 pm5 an5 cd5 ct5), sl5⟩) (c5 : PySem.W.codeIn K cd5 "is_pair" = true) (k5 : PySem.W.keepIn K (.ref f5) = true)
    {f6 : Addr} {od6 an6 : Option Addr} {sl6 : Array (Option Value)} {oc6 kV6 dc6 pm6 cd6 ct6 : Value}
    (a6 : PySem.W.nsIn K mainGlobals "is_change" = some (some (.ref f6)))
    (l6 : K.lookup f6 = some ⟨oc6, od6, .func (PySem.W.fnOf "is_change" "is_change" (defArgs s_is_change) (defBody s_is_change) (defScope s_is_change) .none kV6 dc6 pm6 an6 cd6 ct6), sl6⟩) (c6 : PySem.W.codeIn K cd6 "is_change" = true) (k6 : PySem.W.keepIn K (.ref f6) = true)
    {f7 : Addr} {od7 an7 : Option Addr} {sl7 : Array (Option Value)} {oc7 kV7 dc7 pm7 cd7 ct7 : Value}
    (a7 : PySem.W.nsIn K mainGlobals "lead_of" = some (some (.ref f7)))
    (l7 : K.lookup f7 = some ⟨oc7, od7, .func (PySem.W.fnOf "lead_of" "lead_of" (defArgs s_lead_of) (defBody s_lead_of) (defScope s_lead_of) .none kV7 dc7 pm7 an7 cd7 ct7), sl7⟩) (c7 : PySem.W.codeIn K cd7 "lead_of" = true) (k7 : PySem.W.keepIn K (.ref f7) = true)
    {f8 : Addr} {od8 an8 : Option Addr} {sl8 : Array (Option Value)} {oc8 kV8 dc8 pm8 cd8 ct8 : Value}
    (a8 : PySem.W.nsIn K mainGlobals "powers_of" = some (some (.ref f8)))
    (l8 : K.lookup f8 = some ⟨oc8, od8, .func (PySem.W.fnOf "powers_of" "powers_of" (defArgs s_powers_of) (defBody s_powers_of) (defScope s_powers_of) .none kV8 dc8 pm8 an8 cd8 ct8), sl8⟩) (c8 : PySem.W.codeIn K cd8 "powers_of" = true) (k8 : PySem.W.keepIn K (.ref f8) = true)
    {f9 : Addr} {od9 an9 : Option Addr} {sl9 : Array (Option Value)} {oc9 kV9 dc9 pm9 cd9 ct9 : Value}
    (a9 : PySem.W.nsIn K mainGlobals "need_form" = some (some (.ref f9)))
    (l9 : K.lookup f9 = some ⟨oc9, od9, .func (PySem.W.fnOf "need_form" "need_form" (defArgs s_need_form) (defBody s_need_form) (defScope s_need_form) .none kV9 dc9 pm9 an9 cd9 ct9), sl9⟩) (c9 : PySem.W.codeIn K cd9 "need_form" = true) (k9 : PySem.W.keepIn K (.ref f9) = true)
    {f10 : Addr} {od10 an10 : Option Addr} {sl10 : Array (Option Value)} {oc10 kV10 dc10 pm10 cd10 ct10 : Value}
    (a10 : PySem.W.nsIn K mainGlobals "product_row" = some (some (.ref f10)))
    (l10 : K.lookup f10 = some ⟨oc10, od10, .func (PySem.W.fnOf "product_row" "product_row" (defArgs s_product_row) (defBody s_product_row) (defScope s_product_row) .none kV10 dc10 pm10 an10 cd10 ct10), sl10⟩) (c10 : PySem.W.codeIn K cd10 "product_row" = true) (k10 : PySem.W.keepIn K (.ref f10) = true)
    {f11 : Addr} {od11 an11 : Option Addr} {sl11 : Array (Option Value)} {oc11 kV11 dc11 pm11 cd11 ct11 : Value}
    (a11 : PySem.W.nsIn K mainGlobals "sum_row" = some (some (.ref f11)))
    (l11 : K.lookup f11 = some ⟨oc11, od11, .func (PySem.W.fnOf "sum_row" "sum_row" (defArgs s_sum_row) (defBody s_sum_row) (defScope s_sum_row) .none kV11 dc11 pm11 an11 cd11 ct11), sl11⟩) (c11 : PySem.W.codeIn K cd11 "sum_row" = true) (k11 : PySem.W.keepIn K (.ref f11) = true)
    {f12 : Addr} {od12 an12 : Option Addr} {sl12 : Array (Option Value)} {oc12 kV12 dc12 pm12 cd12 ct12 : Value}
    (a12 : PySem.W.nsIn K mainGlobals "multiple_row" = some (some (.ref f12)))
    (l12 : K.lookup f12 = some ⟨oc12, od12, .func (PySem.W.fnOf "multiple_row" "multiple_row" (defArgs s_multiple_row) (defBody s_multiple_row) (defScope s_multiple_row) .none kV12 dc12 pm12 an12 cd12 ct12), sl12⟩) (c12 : PySem.W.codeIn K cd12 "multiple_row" = true) (k12 : PySem.W.keepIn K (.ref f12) = true)
    {f13 : Addr} {od13 an13 : Option Addr} {sl13 : Array (Option Value)} {oc13 kV13 dc13 pm13 cd13 ct13 : Value}
    (a13 : PySem.W.nsIn K mainGlobals "changed_row" = some (some (.ref f13)))
    (l13 : K.lookup f13 = some ⟨oc13, od13, .func (PySem.W.fnOf "changed_row" "changed_row" (defArgs s_changed_row) (defBody s_changed_row) (defScope s_changed_row) .none kV13 dc13 pm13 an13 cd13 ct13), sl13⟩) (c13 : PySem.W.codeIn K cd13 "changed_row" = true) (k13 : PySem.W.keepIn K (.ref f13) = true)
    {f14 : Addr} {od14 an14 : Option Addr} {sl14 : Array (Option Value)} {oc14 kV14 dc14 pm14 cd14 ct14 : Value}
    (a14 : PySem.W.nsIn K mainGlobals "power_row" = some (some (.ref f14)))
    (l14 : K.lookup f14 = some ⟨oc14, od14, .func (PySem.W.fnOf "power_row" "power_row" (defArgs s_power_row) (defBody s_power_row) (defScope s_power_row) .none kV14 dc14 pm14 an14 cd14 ct14), sl14⟩) (c14 : PySem.W.codeIn K cd14 "power_row" = true) (k14 : PySem.W.keepIn K (.ref f14) = true)
    {f15 : Addr} {od15 an15 : Option Addr} {sl15 : Array (Option Value)} {oc15 kV15 dc15 pm15 cd15 ct15 : Value}
    (a15 : PySem.W.nsIn K mainGlobals "row_value" = some (some (.ref f15)))
    (l15 : K.lookup f15 = some ⟨oc15, od15, .func (PySem.W.fnOf "row_value" "row_value" (defArgs s_row_value) (defBody s_row_value) (defScope s_row_value) .none kV15 dc15 pm15 an15 cd15 ct15), sl15⟩) (c15 : PySem.W.codeIn K cd15 "row_value" = true) (k15 : PySem.W.keepIn K (.ref f15) = true)
    {f16 : Addr} {od16 an16 : Option Addr} {sl16 : Array (Option Value)} {oc16 kV16 dc16 pm16 cd16 ct16 : Value}
    (a16 : PySem.W.nsIn K mainGlobals "made_form" = some (some (.ref f16)))
    (l16 : K.lookup f16 = some ⟨oc16, od16, .func (PySem.W.fnOf "made_form" "made_form" (defArgs s_made_form) (defBody s_made_form) (defScope s_made_form) .none kV16 dc16 pm16 an16 cd16 ct16), sl16⟩) (c16 : PySem.W.codeIn K cd16 "made_form" = true) (k16 : PySem.W.keepIn K (.ref f16) = true)
    {f17 : Addr} {od17 an17 : Option Addr} {sl17 : Array (Option Value)} {oc17 kV17 dc17 pm17 cd17 ct17 : Value}
    (a17 : PySem.W.nsIn K mainGlobals "need_one_degree" = some (some (.ref f17)))
    (l17 : K.lookup f17 = some ⟨oc17, od17, .func (PySem.W.fnOf "need_one_degree" "need_one_degree" (defArgs s_need_one_degree) (defBody s_need_one_degree) (defScope s_need_one_degree) .none kV17 dc17 pm17 an17 cd17 ct17), sl17⟩) (c17 : PySem.W.codeIn K cd17 "need_one_degree" = true) (k17 : PySem.W.keepIn K (.ref f17) = true)
    {f18 : Addr} {od18 an18 : Option Addr} {sl18 : Array (Option Value)} {oc18 kV18 dc18 pm18 cd18 ct18 : Value}
    (a18 : PySem.W.nsIn K mainGlobals "modulo" = some (some (.ref f18)))
    (l18 : K.lookup f18 = some ⟨oc18, od18, .func (PySem.W.fnOf "modulo" "modulo" (defArgs s_modulo) (defBody s_modulo) (defScope s_modulo) .none kV18 dc18 pm18 an18 cd18 ct18), sl18⟩) (c18 : PySem.W.codeIn K cd18 "modulo" = true) (k18 : PySem.W.keepIn K (.ref f18) = true)
    {f19 : Addr} {od19 an19 : Option Addr} {sl19 : Array (Option Value)} {oc19 kV19 dc19 pm19 cd19 ct19 : Value}
    (a19 : PySem.W.nsIn K mainGlobals "power_of" = some (some (.ref f19)))
    (l19 : K.lookup f19 = some ⟨oc19, od19, .func (PySem.W.fnOf "power_of" "power_of" (defArgs s_power_of) (defBody s_power_of) (defScope s_power_of) .none kV19 dc19 pm19 an19 cd19 ct19), sl19⟩) (c19 : PySem.W.codeIn K cd19 "power_of" = true) (k19 : PySem.W.keepIn K (.ref f19) = true)
    {f20 : Addr} {od20 an20 : Option Addr} {sl20 : Array (Option Value)} {oc20 kV20 dc20 pm20 cd20 ct20 : Value}
    (a20 : PySem.W.nsIn K mainGlobals "inverse_of" = some (some (.ref f20)))
    (l20 : K.lookup f20 = some ⟨oc20, od20, .func (PySem.W.fnOf "inverse_of" "inverse_of" (defArgs s_inverse_of) (defBody s_inverse_of) (defScope s_inverse_of) .none kV20 dc20 pm20 an20 cd20 ct20), sl20⟩) (c20 : PySem.W.codeIn K cd20 "inverse_of" = true) (k20 : PySem.W.keepIn K (.ref f20) = true)
    {f21 : Addr} {od21 an21 : Option Addr} {sl21 : Array (Option Value)} {oc21 kV21 dc21 pm21 cd21 ct21 : Value}
    (a21 : PySem.W.nsIn K mainGlobals "plain_row" = some (some (.ref f21)))
    (l21 : K.lookup f21 = some ⟨oc21, od21, .func (PySem.W.fnOf "plain_row" "plain_row" (defArgs s_plain_row) (defBody s_plain_row) (defScope s_plain_row) .none kV21 dc21 pm21 an21 cd21 ct21), sl21⟩) (c21 : PySem.W.codeIn K cd21 "plain_row" = true) (k21 : PySem.W.keepIn K (.ref f21) = true)
    {f22 : Addr} {od22 an22 : Option Addr} {sl22 : Array (Option Value)} {oc22 kV22 dc22 pm22 cd22 ct22 : Value}
    (a22 : PySem.W.nsIn K mainGlobals "need_prime" = some (some (.ref f22)))
    (l22 : K.lookup f22 = some ⟨oc22, od22, .func (PySem.W.fnOf "need_prime" "need_prime" (defArgs s_need_prime) (defBody s_need_prime) (defScope s_need_prime) .none kV22 dc22 pm22 an22 cd22 ct22), sl22⟩) (c22 : PySem.W.codeIn K cd22 "need_prime" = true) (k22 : PySem.W.keepIn K (.ref f22) = true)
    {f23 : Addr} {od23 an23 : Option Addr} {sl23 : Array (Option Value)} {oc23 kV23 dc23 pm23 cd23 ct23 : Value}
    (a23 : PySem.W.nsIn K mainGlobals "determinant_of" = some (some (.ref f23)))
    (l23 : K.lookup f23 = some ⟨oc23, od23, .func (PySem.W.fnOf "determinant_of" "determinant_of" (defArgs s_determinant_of) (defBody s_determinant_of) (defScope s_determinant_of) .none kV23 dc23 pm23 an23 cd23 ct23), sl23⟩) (c23 : PySem.W.codeIn K cd23 "determinant_of" = true) (k23 : PySem.W.keepIn K (.ref f23) = true)
    {f24 : Addr} {od24 an24 : Option Addr} {sl24 : Array (Option Value)} {oc24 kV24 dc24 pm24 cd24 ct24 : Value}
    (a24 : PySem.W.nsIn K mainGlobals "need_prime_table" = some (some (.ref f24)))
    (l24 : K.lookup f24 = some ⟨oc24, od24, .func (PySem.W.fnOf "need_prime_table" "need_prime_table" (defArgs s_need_prime_table) (defBody s_need_prime_table) (defScope s_need_prime_table) .none kV24 dc24 pm24 an24 cd24 ct24), sl24⟩) (c24 : PySem.W.codeIn K cd24 "need_prime_table" = true) (k24 : PySem.W.keepIn K (.ref f24) = true)
    {f25 : Addr} {od25 an25 : Option Addr} {sl25 : Array (Option Value)} {oc25 kV25 dc25 pm25 cd25 ct25 : Value}
    (a25 : PySem.W.nsIn K mainGlobals "value_at" = some (some (.ref f25)))
    (l25 : K.lookup f25 = some ⟨oc25, od25, .func (PySem.W.fnOf "value_at" "value_at" (defArgs s_value_at) (defBody s_value_at) (defScope s_value_at) .none kV25 dc25 pm25 an25 cd25 ct25), sl25⟩) (c25 : PySem.W.codeIn K cd25 "value_at" = true) (k25 : PySem.W.keepIn K (.ref f25) = true)
    {f26 : Addr} {od26 an26 : Option Addr} {sl26 : Array (Option Value)} {oc26 kV26 dc26 pm26 cd26 ct26 : Value}
    (a26 : PySem.W.nsIn K mainGlobals "changed_modulo" = some (some (.ref f26)))
    (l26 : K.lookup f26 = some ⟨oc26, od26, .func (PySem.W.fnOf "changed_modulo" "changed_modulo" (defArgs s_changed_modulo) (defBody s_changed_modulo) (defScope s_changed_modulo) .none kV26 dc26 pm26 an26 cd26 ct26), sl26⟩) (c26 : PySem.W.codeIn K cd26 "changed_modulo" = true) (k26 : PySem.W.keepIn K (.ref f26) = true)
    {f27 : Addr} {od27 an27 : Option Addr} {sl27 : Array (Option Value)} {oc27 kV27 dc27 pm27 cd27 ct27 : Value}
    (a27 : PySem.W.nsIn K mainGlobals "need_like" = some (some (.ref f27)))
    (l27 : K.lookup f27 = some ⟨oc27, od27, .func (PySem.W.fnOf "need_like" "need_like" (defArgs s_need_like) (defBody s_need_like) (defScope s_need_like) .none kV27 dc27 pm27 an27 cd27 ct27), sl27⟩) (c27 : PySem.W.codeIn K cd27 "need_like" = true) (k27 : PySem.W.keepIn K (.ref f27) = true)
    {f28 : Addr} {od28 an28 : Option Addr} {sl28 : Array (Option Value)} {oc28 kV28 dc28 pm28 cd28 ct28 : Value}
    (a28 : PySem.W.nsIn K mainGlobals "_law_dice" = some (some (.ref f28)))
    (l28 : K.lookup f28 = some ⟨oc28, od28, .func (PySem.W.fnOf "_law_dice" "_law_dice" (defArgs s_law_dice) (defBody s_law_dice) (defScope s_law_dice) .none kV28 dc28 pm28 an28 cd28 ct28), sl28⟩) (c28 : PySem.W.codeIn K cd28 "_law_dice" = true) (k28 : PySem.W.keepIn K (.ref f28) = true)
    {f29 : Addr} {od29 an29 : Option Addr} {sl29 : Array (Option Value)} {oc29 kV29 dc29 pm29 cd29 ct29 : Value}
    (a29 : PySem.W.nsIn K mainGlobals "_law_roll" = some (some (.ref f29)))
    (l29 : K.lookup f29 = some ⟨oc29, od29, .func (PySem.W.fnOf "_law_roll" "_law_roll" (defArgs s_law_roll) (defBody s_law_roll) (defScope s_law_roll) .none kV29 dc29 pm29 an29 cd29 ct29), sl29⟩) (c29 : PySem.W.codeIn K cd29 "_law_roll" = true) (k29 : PySem.W.keepIn K (.ref f29) = true)
    {f30 : Addr} {od30 an30 : Option Addr} {sl30 : Array (Option Value)} {oc30 kV30 dc30 pm30 cd30 ct30 : Value}
    (a30 : PySem.W.nsIn K mainGlobals "_law_pick" = some (some (.ref f30)))
    (l30 : K.lookup f30 = some ⟨oc30, od30, .func (PySem.W.fnOf "_law_pick" "_law_pick" (defArgs s_law_pick) (defBody s_law_pick) (defScope s_law_pick) .none kV30 dc30 pm30 an30 cd30 ct30), sl30⟩) (c30 : PySem.W.codeIn K cd30 "_law_pick" = true) (k30 : PySem.W.keepIn K (.ref f30) = true)
    {f31 : Addr} {od31 an31 : Option Addr} {sl31 : Array (Option Value)} {oc31 kV31 dc31 pm31 cd31 ct31 : Value}
    (a31 : PySem.W.nsIn K mainGlobals "_law_near" = some (some (.ref f31)))
    (l31 : K.lookup f31 = some ⟨oc31, od31, .func (PySem.W.fnOf "_law_near" "_law_near" (defArgs s_law_near) (defBody s_law_near) (defScope s_law_near) .none kV31 dc31 pm31 an31 cd31 ct31), sl31⟩) (c31 : PySem.W.codeIn K cd31 "_law_near" = true) (k31 : PySem.W.keepIn K (.ref f31) = true)
    {f32 : Addr} {od32 an32 : Option Addr} {sl32 : Array (Option Value)} {oc32 kV32 dc32 pm32 cd32 ct32 : Value}
    (a32 : PySem.W.nsIn K mainGlobals "_law_gcd" = some (some (.ref f32)))
    (l32 : K.lookup f32 = some ⟨oc32, od32, .func (PySem.W.fnOf "_law_gcd" "_law_gcd" (defArgs s_law_gcd) (defBody s_law_gcd) (defScope s_law_gcd) .none kV32 dc32 pm32 an32 cd32 ct32), sl32⟩) (c32 : PySem.W.codeIn K cd32 "_law_gcd" = true) (k32 : PySem.W.keepIn K (.ref f32) = true)
    {f33 : Addr} {od33 an33 : Option Addr} {sl33 : Array (Option Value)} {oc33 kV33 dc33 pm33 cd33 ct33 : Value}
    (a33 : PySem.W.nsIn K mainGlobals "_law_shared" = some (some (.ref f33)))
    (l33 : K.lookup f33 = some ⟨oc33, od33, .func (PySem.W.fnOf "_law_shared" "_law_shared" (defArgs s_law_shared) (defBody s_law_shared) (defScope s_law_shared) .none kV33 dc33 pm33 an33 cd33 ct33), sl33⟩) (c33 : PySem.W.codeIn K cd33 "_law_shared" = true) (k33 : PySem.W.keepIn K (.ref f33) = true)
    {f34 : Addr} {od34 an34 : Option Addr} {sl34 : Array (Option Value)} {oc34 kV34 dc34 pm34 cd34 ct34 : Value}
    (a34 : PySem.W.nsIn K mainGlobals "_law_plus" = some (some (.ref f34)))
    (l34 : K.lookup f34 = some ⟨oc34, od34, .func (PySem.W.fnOf "_law_plus" "_law_plus" (defArgs s_law_plus) (defBody s_law_plus) (defScope s_law_plus) .none kV34 dc34 pm34 an34 cd34 ct34), sl34⟩) (c34 : PySem.W.codeIn K cd34 "_law_plus" = true) (k34 : PySem.W.keepIn K (.ref f34) = true)
    {f35 : Addr} {od35 an35 : Option Addr} {sl35 : Array (Option Value)} {oc35 kV35 dc35 pm35 cd35 ct35 : Value}
    (a35 : PySem.W.nsIn K mainGlobals "_law_scaled" = some (some (.ref f35)))
    (l35 : K.lookup f35 = some ⟨oc35, od35, .func (PySem.W.fnOf "_law_scaled" "_law_scaled" (defArgs s_law_scaled) (defBody s_law_scaled) (defScope s_law_scaled) .none kV35 dc35 pm35 an35 cd35 ct35), sl35⟩) (c35 : PySem.W.codeIn K cd35 "_law_scaled" = true) (k35 : PySem.W.keepIn K (.ref f35) = true)
    {f36 : Addr} {od36 an36 : Option Addr} {sl36 : Array (Option Value)} {oc36 kV36 dc36 pm36 cd36 ct36 : Value}
    (a36 : PySem.W.nsIn K mainGlobals "_law_product" = some (some (.ref f36)))
    (l36 : K.lookup f36 = some ⟨oc36, od36, .func (PySem.W.fnOf "_law_product" "_law_product" (defArgs s_law_product) (defBody s_law_product) (defScope s_law_product) .none kV36 dc36 pm36 an36 cd36 ct36), sl36⟩) (c36 : PySem.W.codeIn K cd36 "_law_product" = true) (k36 : PySem.W.keepIn K (.ref f36) = true)
    {f37 : Addr} {od37 an37 : Option Addr} {sl37 : Array (Option Value)} {oc37 kV37 dc37 pm37 cd37 ct37 : Value}
    (a37 : PySem.W.nsIn K mainGlobals "_law_all_product" = some (some (.ref f37)))
    (l37 : K.lookup f37 = some ⟨oc37, od37, .func (PySem.W.fnOf "_law_all_product" "_law_all_product" (defArgs s_law_all_product) (defBody s_law_all_product) (defScope s_law_all_product) .none kV37 dc37 pm37 an37 cd37 ct37), sl37⟩) (c37 : PySem.W.codeIn K cd37 "_law_all_product" = true) (k37 : PySem.W.keepIn K (.ref f37) = true)
    {f38 : Addr} {od38 an38 : Option Addr} {sl38 : Array (Option Value)} {oc38 kV38 dc38 pm38 cd38 ct38 : Value}
    (a38 : PySem.W.nsIn K mainGlobals "_law_power" = some (some (.ref f38)))
    (l38 : K.lookup f38 = some ⟨oc38, od38, .func (PySem.W.fnOf "_law_power" "_law_power" (defArgs s_law_power) (defBody s_law_power) (defScope s_law_power) .none kV38 dc38 pm38 an38 cd38 ct38), sl38⟩) (c38 : PySem.W.codeIn K cd38 "_law_power" = true) (k38 : PySem.W.keepIn K (.ref f38) = true)
    {f39 : Addr} {od39 an39 : Option Addr} {sl39 : Array (Option Value)} {oc39 kV39 dc39 pm39 cd39 ct39 : Value}
    (a39 : PySem.W.nsIn K mainGlobals "_law_changed" = some (some (.ref f39)))
    (l39 : K.lookup f39 = some ⟨oc39, od39, .func (PySem.W.fnOf "_law_changed" "_law_changed" (defArgs s_law_changed) (defBody s_law_changed) (defScope s_law_changed) .none kV39 dc39 pm39 an39 cd39 ct39), sl39⟩) (c39 : PySem.W.codeIn K cd39 "_law_changed" = true) (k39 : PySem.W.keepIn K (.ref f39) = true)
    {f40 : Addr} {od40 an40 : Option Addr} {sl40 : Array (Option Value)} {oc40 kV40 dc40 pm40 cd40 ct40 : Value}
    (a40 : PySem.W.nsIn K mainGlobals "_law_value" = some (some (.ref f40)))
    (l40 : K.lookup f40 = some ⟨oc40, od40, .func (PySem.W.fnOf "_law_value" "_law_value" (defArgs s_law_value) (defBody s_law_value) (defScope s_law_value) .none kV40 dc40 pm40 an40 cd40 ct40), sl40⟩) (c40 : PySem.W.codeIn K cd40 "_law_value" = true) (k40 : PySem.W.keepIn K (.ref f40) = true)
    {f41 : Addr} {od41 an41 : Option Addr} {sl41 : Array (Option Value)} {oc41 kV41 dc41 pm41 cd41 ct41 : Value}
    (a41 : PySem.W.nsIn K mainGlobals "_law_plain" = some (some (.ref f41)))
    (l41 : K.lookup f41 = some ⟨oc41, od41, .func (PySem.W.fnOf "_law_plain" "_law_plain" (defArgs s_law_plain) (defBody s_law_plain) (defScope s_law_plain) .none kV41 dc41 pm41 an41 cd41 ct41), sl41⟩) (c41 : PySem.W.codeIn K cd41 "_law_plain" = true) (k41 : PySem.W.keepIn K (.ref f41) = true)
    {f42 : Addr} {od42 an42 : Option Addr} {sl42 : Array (Option Value)} {oc42 kV42 dc42 pm42 cd42 ct42 : Value}
    (a42 : PySem.W.nsIn K mainGlobals "_law_line" = some (some (.ref f42)))
    (l42 : K.lookup f42 = some ⟨oc42, od42, .func (PySem.W.fnOf "_law_line" "_law_line" (defArgs s_law_line) (defBody s_law_line) (defScope s_law_line) .none kV42 dc42 pm42 an42 cd42 ct42), sl42⟩) (c42 : PySem.W.codeIn K cd42 "_law_line" = true) (k42 : PySem.W.keepIn K (.ref f42) = true)
    {f43 : Addr} {od43 an43 : Option Addr} {sl43 : Array (Option Value)} {oc43 kV43 dc43 pm43 cd43 ct43 : Value}
    (a43 : PySem.W.nsIn K mainGlobals "_law_point" = some (some (.ref f43)))
    (l43 : K.lookup f43 = some ⟨oc43, od43, .func (PySem.W.fnOf "_law_point" "_law_point" (defArgs s_law_point) (defBody s_law_point) (defScope s_law_point) .none kV43 dc43 pm43 an43 cd43 ct43), sl43⟩) (c43 : PySem.W.codeIn K cd43 "_law_point" = true) (k43 : PySem.W.keepIn K (.ref f43) = true)
    {f44 : Addr} {od44 an44 : Option Addr} {sl44 : Array (Option Value)} {oc44 kV44 dc44 pm44 cd44 ct44 : Value}
    (a44 : PySem.W.nsIn K mainGlobals "_law_small_form" = some (some (.ref f44)))
    (l44 : K.lookup f44 = some ⟨oc44, od44, .func (PySem.W.fnOf "_law_small_form" "_law_small_form" (defArgs s_law_small_form) (defBody s_law_small_form) (defScope s_law_small_form) .none kV44 dc44 pm44 an44 cd44 ct44), sl44⟩) (c44 : PySem.W.codeIn K cd44 "_law_small_form" = true) (k44 : PySem.W.keepIn K (.ref f44) = true)
    {f45 : Addr} {od45 an45 : Option Addr} {sl45 : Array (Option Value)} {oc45 kV45 dc45 pm45 cd45 ct45 : Value}
    (a45 : PySem.W.nsIn K mainGlobals "_law_form" = some (some (.ref f45)))
    (l45 : K.lookup f45 = some ⟨oc45, od45, .func (PySem.W.fnOf "_law_form" "_law_form" (defArgs s_law_form) (defBody s_law_form) (defScope s_law_form) .none kV45 dc45 pm45 an45 cd45 ct45), sl45⟩) (c45 : PySem.W.codeIn K cd45 "_law_form" = true) (k45 : PySem.W.keepIn K (.ref f45) = true)
    {f46 : Addr} {od46 an46 : Option Addr} {sl46 : Array (Option Value)} {oc46 kV46 dc46 pm46 cd46 ct46 : Value}
    (a46 : PySem.W.nsIn K mainGlobals "_law_joined" = some (some (.ref f46)))
    (l46 : K.lookup f46 = some ⟨oc46, od46, .func (PySem.W.fnOf "_law_joined" "_law_joined" (defArgs s_law_joined) (defBody s_law_joined) (defScope s_law_joined) .none kV46 dc46 pm46 an46 cd46 ct46), sl46⟩) (c46 : PySem.W.codeIn K cd46 "_law_joined" = true) (k46 : PySem.W.keepIn K (.ref f46) = true)
    {f47 : Addr} {od47 an47 : Option Addr} {sl47 : Array (Option Value)} {oc47 kV47 dc47 pm47 cd47 ct47 : Value}
    (a47 : PySem.W.nsIn K mainGlobals "_law_det" = some (some (.ref f47)))
    (l47 : K.lookup f47 = some ⟨oc47, od47, .func (PySem.W.fnOf "_law_det" "_law_det" (defArgs s_law_det) (defBody s_law_det) (defScope s_law_det) .none kV47 dc47 pm47 an47 cd47 ct47), sl47⟩) (c47 : PySem.W.codeIn K cd47 "_law_det" = true) (k47 : PySem.W.keepIn K (.ref f47) = true)
    {f48 : Addr} {od48 an48 : Option Addr} {sl48 : Array (Option Value)} {oc48 kV48 dc48 pm48 cd48 ct48 : Value}
    (a48 : PySem.W.nsIn K mainGlobals "_law_left_by" = some (some (.ref f48)))
    (l48 : K.lookup f48 = some ⟨oc48, od48, .func (PySem.W.fnOf "_law_left_by" "_law_left_by" (defArgs s_law_left_by) (defBody s_law_left_by) (defScope s_law_left_by) .none kV48 dc48 pm48 an48 cd48 ct48), sl48⟩) (c48 : PySem.W.codeIn K cd48 "_law_left_by" = true) (k48 : PySem.W.keepIn K (.ref f48) = true)
    {f49 : Addr} {od49 an49 : Option Addr} {sl49 : Array (Option Value)} {oc49 kV49 dc49 pm49 cd49 ct49 : Value}
    (a49 : PySem.W.nsIn K mainGlobals "_law_undo_by" = some (some (.ref f49)))
    (l49 : K.lookup f49 = some ⟨oc49, od49, .func (PySem.W.fnOf "_law_undo_by" "_law_undo_by" (defArgs s_law_undo_by) (defBody s_law_undo_by) (defScope s_law_undo_by) .none kV49 dc49 pm49 an49 cd49 ct49), sl49⟩) (c49 : PySem.W.codeIn K cd49 "_law_undo_by" = true) (k49 : PySem.W.keepIn K (.ref f49) = true)
    {f50 : Addr} {od50 an50 : Option Addr} {sl50 : Array (Option Value)} {oc50 kV50 dc50 pm50 cd50 ct50 : Value}
    (a50 : PySem.W.nsIn K mainGlobals "_law_first_one" = some (some (.ref f50)))
    (l50 : K.lookup f50 = some ⟨oc50, od50, .func (PySem.W.fnOf "_law_first_one" "_law_first_one" (defArgs s_law_first_one) (defBody s_law_first_one) (defScope s_law_first_one) .none kV50 dc50 pm50 an50 cd50 ct50), sl50⟩) (c50 : PySem.W.codeIn K cd50 "_law_first_one" = true) (k50 : PySem.W.keepIn K (.ref f50) = true)
    {f51 : Addr} {od51 an51 : Option Addr} {sl51 : Array (Option Value)} {oc51 kV51 dc51 pm51 cd51 ct51 : Value}
    (a51 : PySem.W.nsIn K mainGlobals "_law_some_prime" = some (some (.ref f51)))
    (l51 : K.lookup f51 = some ⟨oc51, od51, .func (PySem.W.fnOf "_law_some_prime" "_law_some_prime" (defArgs s_law_some_prime) (defBody s_law_some_prime) (defScope s_law_some_prime) .none kV51 dc51 pm51 an51 cd51 ct51), sl51⟩) (c51 : PySem.W.codeIn K cd51 "_law_some_prime" = true) (k51 : PySem.W.keepIn K (.ref f51) = true)
    {f52 : Addr} {od52 an52 : Option Addr} {sl52 : Array (Option Value)} {oc52 kV52 dc52 pm52 cd52 ct52 : Value}
    (a52 : PySem.W.nsIn K mainGlobals "_law_prime_table" = some (some (.ref f52)))
    (l52 : K.lookup f52 = some ⟨oc52, od52, .func (PySem.W.fnOf "_law_prime_table" "_law_prime_table" (defArgs s_law_prime_table) (defBody s_law_prime_table) (defScope s_law_prime_table) .none kV52 dc52 pm52 an52 cd52 ct52), sl52⟩) (c52 : PySem.W.codeIn K cd52 "_law_prime_table" = true) (k52 : PySem.W.keepIn K (.ref f52) = true)
    {f53 : Addr} {od53 an53 : Option Addr} {sl53 : Array (Option Value)} {oc53 kV53 dc53 pm53 cd53 ct53 : Value}
    (a53 : PySem.W.nsIn K mainGlobals "_law_is_told" = some (some (.ref f53)))
    (l53 : K.lookup f53 = some ⟨oc53, od53, .func (PySem.W.fnOf "_law_is_told" "_law_is_told" (defArgs s_law_is_told) (defBody s_law_is_told) (defScope s_law_is_told) .none kV53 dc53 pm53 an53 cd53 ct53), sl53⟩) (c53 : PySem.W.codeIn K cd53 "_law_is_told" = true) (k53 : PySem.W.keepIn K (.ref f53) = true)
    {f54 : Addr} {od54 an54 : Option Addr} {sl54 : Array (Option Value)} {oc54 kV54 dc54 pm54 cd54 ct54 : Value}
    (a54 : PySem.W.nsIn K mainGlobals "_law_right" = some (some (.ref f54)))
    (l54 : K.lookup f54 = some ⟨oc54, od54, .func (PySem.W.fnOf "_law_right" "_law_right" (defArgs s_law_right) (defBody s_law_right) (defScope s_law_right) .none kV54 dc54 pm54 an54 cd54 ct54), sl54⟩) (c54 : PySem.W.codeIn K cd54 "_law_right" = true) (k54 : PySem.W.keepIn K (.ref f54) = true)
    {f55 : Addr} {od55 an55 : Option Addr} {sl55 : Array (Option Value)} {oc55 kV55 dc55 pm55 cd55 ct55 : Value}
    (a55 : PySem.W.nsIn K mainGlobals "law" = some (some (.ref f55)))
    (l55 : K.lookup f55 = some ⟨oc55, od55, .func (PySem.W.fnOf "law" "law" (defArgs s_law) (defBody s_law) (defScope s_law) .none kV55 dc55 pm55 an55 cd55 ct55), sl55⟩) (c55 : PySem.W.codeIn K cd55 "law" = true) (k55 : PySem.W.keepIn K (.ref f55) = true)
    {f56 : Addr} {od56 an56 : Option Addr} {sl56 : Array (Option Value)} {oc56 kV56 dc56 pm56 cd56 ct56 : Value}
    (a56 : PySem.W.findIn K (.ref C_Form) "__init__" = some (some (.ref f56))) (j56 : PySem.W.isFn K (.ref f56) = true)
    (l56 : K.lookup f56 = some ⟨oc56, od56, .func (PySem.W.fnOf "__init__" "Form.__init__" (defArgs s_Form___init__) (defBody s_Form___init__) (defScope s_Form___init__) .none kV56 dc56 pm56 an56 cd56 ct56), sl56⟩) (c56 : PySem.W.codeIn K cd56 "Form.__init__" = true) (k56 : PySem.W.keepIn K (.ref f56) = true)
    {pa57 : Addr} {rest57 : List Value}
    {f57 : Addr} {od57 an57 : Option Addr} {sl57 : Array (Option Value)} {oc57 kV57 dc57 pm57 cd57 ct57 : Value}
    (a57 : PySem.W.findIn K (.ref C_Form) "entries" = some (some (.ref pa57))) (g57 : PySem.W.specialIn K (.ref pa57) "__get__" = some (some (.builtin "property.__get__"))) (t57 : PySem.W.takesIn K (.ref pa57) = some true) (r57 : PySem.W.recIn K pa57 "property" = some (.ref f57 :: rest57))
    (l57 : K.lookup f57 = some ⟨oc57, od57, .func (PySem.W.fnOf "entries" "Form.entries" (defArgs s_Form_entries) (defBody s_Form_entries) (defScope s_Form_entries) .none kV57 dc57 pm57 an57 cd57 ct57), sl57⟩) (c57 : PySem.W.codeIn K cd57 "Form.entries" = true) (k57 : PySem.W.keepIn K (.ref f57) = true)
    {pa58 : Addr} {rest58 : List Value}
    {f58 : Addr} {od58 an58 : Option Addr} {sl58 : Array (Option Value)} {oc58 kV58 dc58 pm58 cd58 ct58 : Value}
    (a58 : PySem.W.findIn K (.ref C_Form) "degree" = some (some (.ref pa58))) (g58 : PySem.W.specialIn K (.ref pa58) "__get__" = some (some (.builtin "property.__get__"))) (t58 : PySem.W.takesIn K (.ref pa58) = some true) (r58 : PySem.W.recIn K pa58 "property" = some (.ref f58 :: rest58))
    (l58 : K.lookup f58 = some ⟨oc58, od58, .func (PySem.W.fnOf "degree" "Form.degree" (defArgs s_Form_degree) (defBody s_Form_degree) (defScope s_Form_degree) .none kV58 dc58 pm58 an58 cd58 ct58), sl58⟩) (c58 : PySem.W.codeIn K cd58 "Form.degree" = true) (k58 : PySem.W.keepIn K (.ref f58) = true)
    {f59 : Addr} {od59 an59 : Option Addr} {sl59 : Array (Option Value)} {oc59 kV59 dc59 pm59 cd59 ct59 : Value}
    (a59 : PySem.W.findIn K (.ref C_PrimeForm) "__init__" = some (some (.ref f59))) (j59 : PySem.W.isFn K (.ref f59) = true)
    (l59 : K.lookup f59 = some ⟨oc59, od59, .func (PySem.W.fnOf "__init__" "PrimeForm.__init__" (defArgs s_PrimeForm___init__) (defBody s_PrimeForm___init__) (defScope s_PrimeForm___init__) .none kV59 dc59 pm59 an59 cd59 ct59), sl59⟩) (c59 : PySem.W.codeIn K cd59 "PrimeForm.__init__" = true) (k59 : PySem.W.keepIn K (.ref f59) = true)
    {pa60 : Addr} {rest60 : List Value}
    {f60 : Addr} {od60 an60 : Option Addr} {sl60 : Array (Option Value)} {oc60 kV60 dc60 pm60 cd60 ct60 : Value}
    (a60 : PySem.W.findCls K (.ref C_PrimeForm) (.type "type") "of_form" = some (.get (.builtin "classmethod.__get__") (.ref pa60) .none (.ref C_PrimeForm))) (r60 : PySem.W.recIn K pa60 "classmethod" = some (.ref f60 :: rest60)) (j60 : PySem.W.fnIn K f60 = true)
    (l60 : K.lookup f60 = some ⟨oc60, od60, .func (PySem.W.fnOf "of_form" "PrimeForm.of_form" (defArgs s_PrimeForm_of_form) (defBody s_PrimeForm_of_form) (defScope s_PrimeForm_of_form) .none kV60 dc60 pm60 an60 cd60 ct60), sl60⟩) (c60 : PySem.W.codeIn K cd60 "PrimeForm.of_form" = true) (k60 : PySem.W.keepIn K (.ref f60) = true)
    {pa61 : Addr} {rest61 : List Value}
    {f61 : Addr} {od61 an61 : Option Addr} {sl61 : Array (Option Value)} {oc61 kV61 dc61 pm61 cd61 ct61 : Value}
    (a61 : PySem.W.findIn K (.ref C_PrimeForm) "prime" = some (some (.ref pa61))) (g61 : PySem.W.specialIn K (.ref pa61) "__get__" = some (some (.builtin "property.__get__"))) (t61 : PySem.W.takesIn K (.ref pa61) = some true) (r61 : PySem.W.recIn K pa61 "property" = some (.ref f61 :: rest61))
    (l61 : K.lookup f61 = some ⟨oc61, od61, .func (PySem.W.fnOf "prime" "PrimeForm.prime" (defArgs s_PrimeForm_prime) (defBody s_PrimeForm_prime) (defScope s_PrimeForm_prime) .none kV61 dc61 pm61 an61 cd61 ct61), sl61⟩) (c61 : PySem.W.codeIn K cd61 "PrimeForm.prime" = true) (k61 : PySem.W.keepIn K (.ref f61) = true)
    {pa62 : Addr} {rest62 : List Value}
    {f62 : Addr} {od62 an62 : Option Addr} {sl62 : Array (Option Value)} {oc62 kV62 dc62 pm62 cd62 ct62 : Value}
    (a62 : PySem.W.findIn K (.ref C_PrimeForm) "entries" = some (some (.ref pa62))) (g62 : PySem.W.specialIn K (.ref pa62) "__get__" = some (some (.builtin "property.__get__"))) (t62 : PySem.W.takesIn K (.ref pa62) = some true) (r62 : PySem.W.recIn K pa62 "property" = some (.ref f62 :: rest62))
    (l62 : K.lookup f62 = some ⟨oc62, od62, .func (PySem.W.fnOf "entries" "PrimeForm.entries" (defArgs s_PrimeForm_entries) (defBody s_PrimeForm_entries) (defScope s_PrimeForm_entries) .none kV62 dc62 pm62 an62 cd62 ct62), sl62⟩) (c62 : PySem.W.codeIn K cd62 "PrimeForm.entries" = true) (k62 : PySem.W.keepIn K (.ref f62) = true)
    {pa63 : Addr} {rest63 : List Value}
    {f63 : Addr} {od63 an63 : Option Addr} {sl63 : Array (Option Value)} {oc63 kV63 dc63 pm63 cd63 ct63 : Value}
    (a63 : PySem.W.findIn K (.ref C_PrimeForm) "degree" = some (some (.ref pa63))) (g63 : PySem.W.specialIn K (.ref pa63) "__get__" = some (some (.builtin "property.__get__"))) (t63 : PySem.W.takesIn K (.ref pa63) = some true) (r63 : PySem.W.recIn K pa63 "property" = some (.ref f63 :: rest63))
    (l63 : K.lookup f63 = some ⟨oc63, od63, .func (PySem.W.fnOf "degree" "PrimeForm.degree" (defArgs s_PrimeForm_degree) (defBody s_PrimeForm_degree) (defScope s_PrimeForm_degree) .none kV63 dc63 pm63 an63 cd63 ct63), sl63⟩) (c63 : PySem.W.codeIn K cd63 "PrimeForm.degree" = true) (k63 : PySem.W.keepIn K (.ref f63) = true)
    {pa64 : Addr} {rest64 : List Value}
    {f64 : Addr} {od64 an64 : Option Addr} {sl64 : Array (Option Value)} {oc64 kV64 dc64 pm64 cd64 ct64 : Value}
    (a64 : PySem.W.findIn K (.ref C_PrimeForm) "is_zero" = some (some (.ref pa64))) (g64 : PySem.W.specialIn K (.ref pa64) "__get__" = some (some (.builtin "property.__get__"))) (t64 : PySem.W.takesIn K (.ref pa64) = some true) (r64 : PySem.W.recIn K pa64 "property" = some (.ref f64 :: rest64))
    (l64 : K.lookup f64 = some ⟨oc64, od64, .func (PySem.W.fnOf "is_zero" "PrimeForm.is_zero" (defArgs s_PrimeForm_is_zero) (defBody s_PrimeForm_is_zero) (defScope s_PrimeForm_is_zero) .none kV64 dc64 pm64 an64 cd64 ct64), sl64⟩) (c64 : PySem.W.codeIn K cd64 "PrimeForm.is_zero" = true) (k64 : PySem.W.keepIn K (.ref f64) = true)
    {pa65 : Addr} {rest65 : List Value}
    {f65 : Addr} {od65 an65 : Option Addr} {sl65 : Array (Option Value)} {oc65 kV65 dc65 pm65 cd65 ct65 : Value}
    (a65 : PySem.W.findIn K (.ref C_PrimeForm) "plain" = some (some (.ref pa65))) (g65 : PySem.W.specialIn K (.ref pa65) "__get__" = some (some (.builtin "property.__get__"))) (t65 : PySem.W.takesIn K (.ref pa65) = some true) (r65 : PySem.W.recIn K pa65 "property" = some (.ref f65 :: rest65))
    (l65 : K.lookup f65 = some ⟨oc65, od65, .func (PySem.W.fnOf "plain" "PrimeForm.plain" (defArgs s_PrimeForm_plain) (defBody s_PrimeForm_plain) (defScope s_PrimeForm_plain) .none kV65 dc65 pm65 an65 cd65 ct65), sl65⟩) (c65 : PySem.W.codeIn K cd65 "PrimeForm.plain" = true) (k65 : PySem.W.keepIn K (.ref f65) = true)
    {f66 : Addr} {od66 an66 : Option Addr} {sl66 : Array (Option Value)} {oc66 kV66 dc66 pm66 cd66 ct66 : Value}
    (a66 : PySem.W.findIn K (.ref C_PrimeForm) "value" = some (some (.ref f66))) (j66 : PySem.W.isFn K (.ref f66) = true)
    (l66 : K.lookup f66 = some ⟨oc66, od66, .func (PySem.W.fnOf "value" "PrimeForm.value" (defArgs s_PrimeForm_value) (defBody s_PrimeForm_value) (defScope s_PrimeForm_value) .none kV66 dc66 pm66 an66 cd66 ct66), sl66⟩) (c66 : PySem.W.codeIn K cd66 "PrimeForm.value" = true) (k66 : PySem.W.keepIn K (.ref f66) = true)
    {f67 : Addr} {od67 an67 : Option Addr} {sl67 : Array (Option Value)} {oc67 kV67 dc67 pm67 cd67 ct67 : Value}
    (a67 : PySem.W.findIn K (.ref C_PrimeForm) "changed" = some (some (.ref f67))) (j67 : PySem.W.isFn K (.ref f67) = true)
    (l67 : K.lookup f67 = some ⟨oc67, od67, .func (PySem.W.fnOf "changed" "PrimeForm.changed" (defArgs s_PrimeForm_changed) (defBody s_PrimeForm_changed) (defScope s_PrimeForm_changed) .none kV67 dc67 pm67 an67 cd67 ct67), sl67⟩) (c67 : PySem.W.codeIn K cd67 "PrimeForm.changed" = true) (k67 : PySem.W.keepIn K (.ref f67) = true)
    {f68 : Addr} {od68 an68 : Option Addr} {sl68 : Array (Option Value)} {oc68 kV68 dc68 pm68 cd68 ct68 : Value}
    (a68 : PySem.W.findIn K (.ref C_PrimeForm) "__mul__" = some (some (.ref f68))) (j68 : PySem.W.isFn K (.ref f68) = true)
    (l68 : K.lookup f68 = some ⟨oc68, od68, .func (PySem.W.fnOf "__mul__" "PrimeForm.__mul__" (defArgs s_PrimeForm___mul__) (defBody s_PrimeForm___mul__) (defScope s_PrimeForm___mul__) .none kV68 dc68 pm68 an68 cd68 ct68), sl68⟩) (c68 : PySem.W.codeIn K cd68 "PrimeForm.__mul__" = true) (k68 : PySem.W.keepIn K (.ref f68) = true)
    {f69 : Addr} {od69 an69 : Option Addr} {sl69 : Array (Option Value)} {oc69 kV69 dc69 pm69 cd69 ct69 : Value}
    (a69 : PySem.W.findIn K (.ref C_PrimeForm) "__eq__" = some (some (.ref f69))) (j69 : PySem.W.isFn K (.ref f69) = true)
    (l69 : K.lookup f69 = some ⟨oc69, od69, .func (PySem.W.fnOf "__eq__" "PrimeForm.__eq__" (defArgs s_PrimeForm___eq__) (defBody s_PrimeForm___eq__) (defScope s_PrimeForm___eq__) .none kV69 dc69 pm69 an69 cd69 ct69), sl69⟩) (c69 : PySem.W.codeIn K cd69 "PrimeForm.__eq__" = true) (k69 : PySem.W.keepIn K (.ref f69) = true)
    {f70 : Addr} {od70 an70 : Option Addr} {sl70 : Array (Option Value)} {oc70 kV70 dc70 pm70 cd70 ct70 : Value}
    (a70 : PySem.W.findIn K (.ref C_PrimeForm) "__str__" = some (some (.ref f70))) (j70 : PySem.W.isFn K (.ref f70) = true)
    (l70 : K.lookup f70 = some ⟨oc70, od70, .func (PySem.W.fnOf "__str__" "PrimeForm.__str__" (defArgs s_PrimeForm___str__) (defBody s_PrimeForm___str__) (defScope s_PrimeForm___str__) .none kV70 dc70 pm70 an70 cd70 ct70), sl70⟩) (c70 : PySem.W.codeIn K cd70 "PrimeForm.__str__" = true) (k70 : PySem.W.keepIn K (.ref f70) = true)
    (aC_Form : PySem.W.nsIn K mainGlobals "Form" = some (some (.ref C_Form))) (pg_Form : PySem.W.plainGet K C_Form Str.empty = true) (hd_Form : PySem.W.hasDictIn K C_Form = true) (po_Form : PySem.W.plainOver K C_Form = true) (sa_Form : PySem.W.findIn K (.ref C_Form) "__setattr__" = some (some (.builtin "object.__setattr__")))
    (mk_Form : PySem.W.makesIn K C_Form = true) (kc_Form : PySem.W.keepIn K (.ref C_Form) = true) (sf_Form : PySem.W.selfFirst K C_Form = true) (nf_Form : PySem.W.notFirst K C_Form (.ref C_Form) = true)
    (no_Form_entries : PySem.W.findIn K (.ref C_Form) "_entries" = some none)
    (x_int : PySem.W.subIn K (.type "int") (.ref C_Form) = some false)
    (x_tup : PySem.W.subIn K (.type "tuple") (.ref C_Form) = some false)
    (x_ty : PySem.W.typeIn K (.ref C_Form) = some (.type "type"))
    (x_obj : PySem.W.mroIn K C_Form (.type "object") = some true)
    (x_cls : PySem.W.findIn K (.ref C_Form) "__class__" = some (some (.builtin "object.__class__")))
    (x_get : PySem.W.specialIn K (.builtin "object.__class__") "__get__" = some (some (.builtin "getset_descriptor.__get__")))
    (x_tak : PySem.W.takesIn K (.builtin "object.__class__") = some true)
    (x_rmul : PySem.W.findIn K (.ref C_Form) "__rmul__" = some none)
    (x_imul : PySem.W.findIn K (.type "int") "__mul__" = some (some (.builtin "int.__mul__")))
    (x_irmul : PySem.W.findIn K (.type "int") "__rmul__" = some (some (.builtin "int.__rmul__")))
    (x_ne : PySem.W.findIn K (.ref C_Form) "__ne__" = some (some (.builtin "object.__ne__")))
    (aC_PrimeForm : PySem.W.nsIn K mainGlobals "PrimeForm" = some (some (.ref C_PrimeForm))) (pg_PrimeForm : PySem.W.plainGet K C_PrimeForm Str.empty = true) (hd_PrimeForm : PySem.W.hasDictIn K C_PrimeForm = true) (po_PrimeForm : PySem.W.plainOver K C_PrimeForm = true) (sa_PrimeForm : PySem.W.findIn K (.ref C_PrimeForm) "__setattr__" = some (some (.builtin "object.__setattr__")))
    (mk_PrimeForm : PySem.W.makesIn K C_PrimeForm = true) (kc_PrimeForm : PySem.W.keepIn K (.ref C_PrimeForm) = true) (sf_PrimeForm : PySem.W.selfFirst K C_PrimeForm = true) (nf_PrimeForm : PySem.W.notFirst K C_PrimeForm (.ref C_PrimeForm) = true)
    (no_PrimeForm_prime : PySem.W.findIn K (.ref C_PrimeForm) "_prime" = some none)
    (no_PrimeForm_entries : PySem.W.findIn K (.ref C_PrimeForm) "_entries" = some none)
    (px_int : PySem.W.subIn K (.type "int") (.ref C_PrimeForm) = some false)
    (px_tup : PySem.W.subIn K (.type "tuple") (.ref C_PrimeForm) = some false)
    (px_ty : PySem.W.typeIn K (.ref C_PrimeForm) = some (.type "type"))
    (px_ne : PySem.W.findIn K (.ref C_PrimeForm) "__ne__" = some (some (.builtin "object.__ne__")))
    (px_obj : PySem.W.mroIn K C_PrimeForm (.type "object") = some true)
    (px_nft : PySem.W.notFirst K C_PrimeForm (.type "tuple") = true)
    (px_cls : PySem.W.findIn K (.ref C_PrimeForm) "__class__" = some (some (.builtin "object.__class__")))
    (px_get : PySem.W.specialIn K (.builtin "object.__class__") "__get__" = some (some (.builtin "getset_descriptor.__get__")))
    (px_tak : PySem.W.takesIn K (.builtin "object.__class__") = some true)
    (rd_PrimeForm : PySem.W.readsIn K C_PrimeForm (.type "type") = true) (ga_PrimeForm : PySem.W.specialIn K (.ref C_PrimeForm) "__getattribute__" = some (some (.builtin "type.__getattribute__")))
    (z0 : PySem.W.nsIn K mainGlobals "NotImplemented" = some none)
    (z1 : PySem.W.nsIn K mainGlobals "abs" = some none)
    (z2 : PySem.W.nsIn K mainGlobals "all" = some none)
    (z3 : PySem.W.nsIn K mainGlobals "bool" = some none)
    (z4 : PySem.W.nsIn K mainGlobals "classmethod" = some none)
    (z5 : PySem.W.nsIn K mainGlobals "enumerate" = some none)
    (z6 : PySem.W.nsIn K mainGlobals "int" = some none)
    (z7 : PySem.W.nsIn K mainGlobals "isinstance" = some none)
    (z8 : PySem.W.nsIn K mainGlobals "len" = some none)
    (z9 : PySem.W.nsIn K mainGlobals "max" = some none)
    (z10 : PySem.W.nsIn K mainGlobals "min" = some none)
    (z11 : PySem.W.nsIn K mainGlobals "property" = some none)
    (z12 : PySem.W.nsIn K mainGlobals "range" = some none)
    (z13 : PySem.W.nsIn K mainGlobals "repr" = some none)
    (z14 : PySem.W.nsIn K mainGlobals "str" = some none)
    (z15 : PySem.W.nsIn K mainGlobals "tuple" = some none)
    (z16 : PySem.W.nsIn K mainGlobals "zip" = some none)
    (i0 : PySem.W.nsIn K mainGlobals "comb" = some (some (.builtin "math.comb")))
    {t0 : Tok} (q0 : PySem.W.nsIn K mainGlobals "TOO_LONG" = some (some (.int 1000000000000000000000000000000000000000000000000000000000000 t0)))
    {t1 : Tok} (q1 : PySem.W.nsIn K mainGlobals "MAX_DEGREE" = some (some (.int 40 t1)))
    {t2 : Tok} (q2 : PySem.W.nsIn K mainGlobals "MOST_DEGREE" = some (some (.int 12 t2)))
    {oT0 : Addr} {dT0 : Option Addr} {iT0 : Array Value} {nT0 : Nat} {sT0 : Array (Option Value)} (y0 : PySem.W.nsIn K mainGlobals "PRIMES" = some (some (.ref oT0))) (x0 : K.lookup oT0 = some ⟨.type "tuple", dT0, .seq iT0 nT0, sT0⟩) (w0 : iT0.toList.map intOf = ([13, 17, 19, 23, 29, 31, 37, 41, 43, 47, 53, 59, 61, 67, 71, 73, 79, 83, 89, 97, 101] : List Int).map some)
    : ∃ fd : FuncData, (∀ (s : Shared) (v : Value), BindsTo s fd ⟨[v], []⟩ [("_law_script", v)]) ∧ ∀ base : Heap, K.In base → base.Ns mainGlobals mg → FnOk l.prog w K mg base CX0 28 fa fd ["_law_script"] (sp_law K) := by
  have e := hfa.symm.trans (PySem.W.mg_of X G a55)
  cases e
  have F0 := fun_mk (st := s_wall) l0 c0 k0
  have b0 := F0.binds (ps := p_wall) fun _ _ _ _ _ _ us hl => by obtain ⟨_, rfl⟩ := us1 hl; rfl
  have F1 := fun_mk (st := s_is_integer) l1 c1 k1
  have b1 := F1.binds (ps := p_is_integer) fun _ _ _ _ _ _ us hl => by obtain ⟨_, rfl⟩ := us1 hl; rfl
  have F2 := fun_mk (st := s_is_within) l2 c2 k2
  have b2 := F2.binds (ps := p_is_within) fun _ _ _ _ _ _ us hl => by obtain ⟨_, _, _, rfl⟩ := us3 hl; rfl
  have F3 := fun_mk (st := s_need_number) l3 c3 k3
  have b3 := F3.binds (ps := p_need_number) fun _ _ _ _ _ _ us hl => by obtain ⟨_, _, _, rfl⟩ := us3 hl; rfl
  have F4 := fun_mk (st := s_is_row) l4 c4 k4
  have b4 := F4.binds (ps := p_is_row) fun _ _ _ _ _ _ us hl => by obtain ⟨_, rfl⟩ := us1 hl; rfl
  have F5 := fun_mk (st := s_is_pair) l5 c5 k5
  have b5 := F5.binds (ps := p_is_pair) fun _ _ _ _ _ _ us hl => by obtain ⟨_, rfl⟩ := us1 hl; rfl
  have F6 := fun_mk (st := s_is_change) l6 c6 k6
  have b6 := F6.binds (ps := p_is_change) fun _ _ _ _ _ _ us hl => by obtain ⟨_, rfl⟩ := us1 hl; rfl
  have F7 := fun_mk (st := s_lead_of) l7 c7 k7
  have b7 := F7.binds (ps := p_lead_of) fun _ _ _ _ _ _ us hl => by obtain ⟨_, rfl⟩ := us1 hl; rfl
  have F8 := fun_mk (st := s_powers_of) l8 c8 k8
  have b8 := F8.binds (ps := p_powers_of) fun _ _ _ _ _ _ us hl => by obtain ⟨_, _, rfl⟩ := us2 hl; rfl
  have F9 := fun_mk (st := s_need_form) l9 c9 k9
  have b9 := F9.binds (ps := p_need_form) fun _ _ _ _ _ _ us hl => by obtain ⟨_, rfl⟩ := us1 hl; rfl
  have F10 := fun_mk (st := s_product_row) l10 c10 k10
  have b10 := F10.binds (ps := p_product_row) fun _ _ _ _ _ _ us hl => by obtain ⟨_, _, rfl⟩ := us2 hl; rfl
  have F11 := fun_mk (st := s_sum_row) l11 c11 k11
  have b11 := F11.binds (ps := p_sum_row) fun _ _ _ _ _ _ us hl => by obtain ⟨_, _, rfl⟩ := us2 hl; rfl
  have F12 := fun_mk (st := s_multiple_row) l12 c12 k12
  have b12 := F12.binds (ps := p_multiple_row) fun _ _ _ _ _ _ us hl => by obtain ⟨_, _, rfl⟩ := us2 hl; rfl
  have F13 := fun_mk (st := s_changed_row) l13 c13 k13
  have b13 := F13.binds (ps := p_changed_row) fun _ _ _ _ _ _ us hl => by obtain ⟨_, _, rfl⟩ := us2 hl; rfl
  have F14 := fun_mk (st := s_power_row) l14 c14 k14
  have b14 := F14.binds (ps := p_power_row) fun _ _ _ _ _ _ us hl => by obtain ⟨_, _, _, rfl⟩ := us3 hl; rfl
  have F15 := fun_mk (st := s_row_value) l15 c15 k15
  have b15 := F15.binds (ps := p_row_value) fun _ _ _ _ _ _ us hl => by obtain ⟨_, _, _, rfl⟩ := us3 hl; rfl
  have F16 := fun_mk (st := s_made_form) l16 c16 k16
  have b16 := F16.binds (ps := p_made_form) fun _ _ _ _ _ _ us hl => by obtain ⟨_, rfl⟩ := us1 hl; rfl
  have F17 := fun_mk (st := s_need_one_degree) l17 c17 k17
  have b17 := F17.binds (ps := p_need_one_degree) fun _ _ _ _ _ _ us hl => by obtain ⟨_, _, rfl⟩ := us2 hl; rfl
  have F18 := fun_mk (st := s_modulo) l18 c18 k18
  have b18 := F18.binds (ps := p_modulo) fun _ _ _ _ _ _ us hl => by obtain ⟨_, _, rfl⟩ := us2 hl; rfl
  have F19 := fun_mk (st := s_power_of) l19 c19 k19
  have b19 := F19.binds (ps := p_power_of) fun _ _ _ _ _ _ us hl => by obtain ⟨_, _, _, rfl⟩ := us3 hl; rfl
  have F20 := fun_mk (st := s_inverse_of) l20 c20 k20
  have b20 := F20.binds (ps := p_inverse_of) fun _ _ _ _ _ _ us hl => by obtain ⟨_, _, rfl⟩ := us2 hl; rfl
  have F21 := fun_mk (st := s_plain_row) l21 c21 k21
  have b21 := F21.binds (ps := p_plain_row) fun _ _ _ _ _ _ us hl => by obtain ⟨_, _, rfl⟩ := us2 hl; rfl
  have F22 := fun_mk (st := s_need_prime) l22 c22 k22
  have b22 := F22.binds (ps := p_need_prime) fun _ _ _ _ _ _ us hl => by obtain ⟨_, rfl⟩ := us1 hl; rfl
  have F23 := fun_mk (st := s_determinant_of) l23 c23 k23
  have b23 := F23.binds (ps := p_determinant_of) fun _ _ _ _ _ _ us hl => by obtain ⟨_, rfl⟩ := us1 hl; rfl
  have F24 := fun_mk (st := s_need_prime_table) l24 c24 k24
  have b24 := F24.binds (ps := p_need_prime_table) fun _ _ _ _ _ _ us hl => by obtain ⟨_, _, rfl⟩ := us2 hl; rfl
  have F25 := fun_mk (st := s_value_at) l25 c25 k25
  have b25 := F25.binds (ps := p_value_at) fun _ _ _ _ _ _ us hl => by obtain ⟨_, _, _, _, rfl⟩ := us4 hl; rfl
  have F26 := fun_mk (st := s_changed_modulo) l26 c26 k26
  have b26 := F26.binds (ps := p_changed_modulo) fun _ _ _ _ _ _ us hl => by obtain ⟨_, _, _, rfl⟩ := us3 hl; rfl
  have F27 := fun_mk (st := s_need_like) l27 c27 k27
  have b27 := F27.binds (ps := p_need_like) fun _ _ _ _ _ _ us hl => by obtain ⟨_, _, rfl⟩ := us2 hl; rfl
  have F28 := fun_mk (st := s_law_dice) l28 c28 k28
  have b28 := F28.binds (ps := p_law_dice) fun _ _ _ _ _ _ us hl => by obtain ⟨_, _, rfl⟩ := us2 hl; rfl
  have F29 := fun_mk (st := s_law_roll) l29 c29 k29
  have b29 := F29.binds (ps := p_law_roll) fun _ _ _ _ _ _ us hl => by obtain ⟨_, _, rfl⟩ := us2 hl; rfl
  have F30 := fun_mk (st := s_law_pick) l30 c30 k30
  have b30 := F30.binds (ps := p_law_pick) fun _ _ _ _ _ _ us hl => by obtain ⟨_, _, rfl⟩ := us2 hl; rfl
  have F31 := fun_mk (st := s_law_near) l31 c31 k31
  have b31 := F31.binds (ps := p_law_near) fun _ _ _ _ _ _ us hl => by obtain ⟨_, _, rfl⟩ := us2 hl; rfl
  have F32 := fun_mk (st := s_law_gcd) l32 c32 k32
  have b32 := F32.binds (ps := p_law_gcd) fun _ _ _ _ _ _ us hl => by obtain ⟨_, _, rfl⟩ := us2 hl; rfl
  have F33 := fun_mk (st := s_law_shared) l33 c33 k33
  have b33 := F33.binds (ps := p_law_shared) fun _ _ _ _ _ _ us hl => by obtain ⟨_, rfl⟩ := us1 hl; rfl
  have F34 := fun_mk (st := s_law_plus) l34 c34 k34
  have b34 := F34.binds (ps := p_law_plus) fun _ _ _ _ _ _ us hl => by obtain ⟨_, _, rfl⟩ := us2 hl; rfl
  have F35 := fun_mk (st := s_law_scaled) l35 c35 k35
  have b35 := F35.binds (ps := p_law_scaled) fun _ _ _ _ _ _ us hl => by obtain ⟨_, _, rfl⟩ := us2 hl; rfl
  have F36 := fun_mk (st := s_law_product) l36 c36 k36
  have b36 := F36.binds (ps := p_law_product) fun _ _ _ _ _ _ us hl => by obtain ⟨_, _, rfl⟩ := us2 hl; rfl
  have F37 := fun_mk (st := s_law_all_product) l37 c37 k37
  have b37 := F37.binds (ps := p_law_all_product) fun _ _ _ _ _ _ us hl => by obtain ⟨_, rfl⟩ := us1 hl; rfl
  have F38 := fun_mk (st := s_law_power) l38 c38 k38
  have b38 := F38.binds (ps := p_law_power) fun _ _ _ _ _ _ us hl => by obtain ⟨_, _, rfl⟩ := us2 hl; rfl
  have F39 := fun_mk (st := s_law_changed) l39 c39 k39
  have b39 := F39.binds (ps := p_law_changed) fun _ _ _ _ _ _ us hl => by obtain ⟨_, _, rfl⟩ := us2 hl; rfl
  have F40 := fun_mk (st := s_law_value) l40 c40 k40
  have b40 := F40.binds (ps := p_law_value) fun _ _ _ _ _ _ us hl => by obtain ⟨_, _, _, rfl⟩ := us3 hl; rfl
  have F41 := fun_mk (st := s_law_plain) l41 c41 k41
  have b41 := F41.binds (ps := p_law_plain) fun _ _ _ _ _ _ us hl => by obtain ⟨_, rfl⟩ := us1 hl; rfl
  have F42 := fun_mk (st := s_law_line) l42 c42 k42
  have b42 := F42.binds (ps := p_law_line) fun _ _ _ _ _ _ us hl => by obtain ⟨_, rfl⟩ := us1 hl; rfl
  have F43 := fun_mk (st := s_law_point) l43 c43 k43
  have b43 := F43.binds (ps := p_law_point) fun _ _ _ _ _ _ us hl => by obtain ⟨_, _, rfl⟩ := us2 hl; rfl
  have F44 := fun_mk (st := s_law_small_form) l44 c44 k44
  have b44 := F44.binds (ps := p_law_small_form) fun _ _ _ _ _ _ us hl => by obtain ⟨_, _, _, rfl⟩ := us3 hl; rfl
  have F45 := fun_mk (st := s_law_form) l45 c45 k45
  have b45 := F45.binds (ps := p_law_form) fun _ _ _ _ _ _ us hl => by obtain ⟨_, _, rfl⟩ := us2 hl; rfl
  have F46 := fun_mk (st := s_law_joined) l46 c46 k46
  have b46 := F46.binds (ps := p_law_joined) fun _ _ _ _ _ _ us hl => by obtain ⟨_, _, rfl⟩ := us2 hl; rfl
  have F47 := fun_mk (st := s_law_det) l47 c47 k47
  have b47 := F47.binds (ps := p_law_det) fun _ _ _ _ _ _ us hl => by obtain ⟨_, rfl⟩ := us1 hl; rfl
  have F48 := fun_mk (st := s_law_left_by) l48 c48 k48
  have b48 := F48.binds (ps := p_law_left_by) fun _ _ _ _ _ _ us hl => by obtain ⟨_, _, rfl⟩ := us2 hl; rfl
  have F49 := fun_mk (st := s_law_undo_by) l49 c49 k49
  have b49 := F49.binds (ps := p_law_undo_by) fun _ _ _ _ _ _ us hl => by obtain ⟨_, _, rfl⟩ := us2 hl; rfl
  have F50 := fun_mk (st := s_law_first_one) l50 c50 k50
  have b50 := F50.binds (ps := p_law_first_one) fun _ _ _ _ _ _ us hl => by obtain ⟨_, _, rfl⟩ := us2 hl; rfl
  have F51 := fun_mk (st := s_law_some_prime) l51 c51 k51
  have b51 := F51.binds (ps := p_law_some_prime) fun _ _ _ _ _ _ us hl => by obtain ⟨_, rfl⟩ := us1 hl; rfl
  have F52 := fun_mk (st := s_law_prime_table) l52 c52 k52
  have b52 := F52.binds (ps := p_law_prime_table) fun _ _ _ _ _ _ us hl => by obtain ⟨_, _, rfl⟩ := us2 hl; rfl
  have F53 := fun_mk (st := s_law_is_told) l53 c53 k53
  have b53 := F53.binds (ps := p_law_is_told) fun _ _ _ _ _ _ us hl => by obtain ⟨_, _, _, rfl⟩ := us3 hl; rfl
  have F54 := fun_mk (st := s_law_right) l54 c54 k54
  have b54 := F54.binds (ps := p_law_right) fun _ _ _ _ _ _ us hl => by obtain ⟨_, rfl⟩ := us1 hl; rfl
  have F55 := fun_mk (st := s_law) l55 c55 k55
  have b55 := F55.binds (ps := p_law) fun _ _ _ _ _ _ us hl => by obtain ⟨_, rfl⟩ := us1 hl; rfl
  have F56 := fun_mk (st := s_Form___init__) l56 c56 k56
  have b56 := F56.binds (ps := p_Form___init__) fun _ _ _ _ _ _ us hl => by obtain ⟨_, _, rfl⟩ := us2 hl; rfl
  have F57 := fun_mk (st := s_Form_entries) l57 c57 k57
  have b57 := F57.binds (ps := p_Form_entries) fun _ _ _ _ _ _ us hl => by obtain ⟨_, rfl⟩ := us1 hl; rfl
  have F58 := fun_mk (st := s_Form_degree) l58 c58 k58
  have b58 := F58.binds (ps := p_Form_degree) fun _ _ _ _ _ _ us hl => by obtain ⟨_, rfl⟩ := us1 hl; rfl
  have F59 := fun_mk (st := s_PrimeForm___init__) l59 c59 k59
  have b59 := F59.binds (ps := p_PrimeForm___init__) fun _ _ _ _ _ _ us hl => by obtain ⟨_, _, _, rfl⟩ := us3 hl; rfl
  have F60 := fun_mk (st := s_PrimeForm_of_form) l60 c60 k60
  have b60 := F60.binds (ps := p_PrimeForm_of_form) fun _ _ _ _ _ _ us hl => by obtain ⟨_, _, _, rfl⟩ := us3 hl; rfl
  have F61 := fun_mk (st := s_PrimeForm_prime) l61 c61 k61
  have b61 := F61.binds (ps := p_PrimeForm_prime) fun _ _ _ _ _ _ us hl => by obtain ⟨_, rfl⟩ := us1 hl; rfl
  have F62 := fun_mk (st := s_PrimeForm_entries) l62 c62 k62
  have b62 := F62.binds (ps := p_PrimeForm_entries) fun _ _ _ _ _ _ us hl => by obtain ⟨_, rfl⟩ := us1 hl; rfl
  have F63 := fun_mk (st := s_PrimeForm_degree) l63 c63 k63
  have b63 := F63.binds (ps := p_PrimeForm_degree) fun _ _ _ _ _ _ us hl => by obtain ⟨_, rfl⟩ := us1 hl; rfl
  have F64 := fun_mk (st := s_PrimeForm_is_zero) l64 c64 k64
  have b64 := F64.binds (ps := p_PrimeForm_is_zero) fun _ _ _ _ _ _ us hl => by obtain ⟨_, rfl⟩ := us1 hl; rfl
  have F65 := fun_mk (st := s_PrimeForm_plain) l65 c65 k65
  have b65 := F65.binds (ps := p_PrimeForm_plain) fun _ _ _ _ _ _ us hl => by obtain ⟨_, rfl⟩ := us1 hl; rfl
  have F66 := fun_mk (st := s_PrimeForm_value) l66 c66 k66
  have b66 := F66.binds (ps := p_PrimeForm_value) fun _ _ _ _ _ _ us hl => by obtain ⟨_, _, _, rfl⟩ := us3 hl; rfl
  have F67 := fun_mk (st := s_PrimeForm_changed) l67 c67 k67
  have b67 := F67.binds (ps := p_PrimeForm_changed) fun _ _ _ _ _ _ us hl => by obtain ⟨_, _, rfl⟩ := us2 hl; rfl
  have F68 := fun_mk (st := s_PrimeForm___mul__) l68 c68 k68
  have b68 := F68.binds (ps := p_PrimeForm___mul__) fun _ _ _ _ _ _ us hl => by obtain ⟨_, _, rfl⟩ := us2 hl; rfl
  have F69 := fun_mk (st := s_PrimeForm___eq__) l69 c69 k69
  have b69 := F69.binds (ps := p_PrimeForm___eq__) fun _ _ _ _ _ _ us hl => by obtain ⟨_, _, rfl⟩ := us2 hl; rfl
  have F70 := fun_mk (st := s_PrimeForm___str__) l70 c70 k70
  have b70 := F70.binds (ps := p_PrimeForm___str__) fun _ _ _ _ _ _ us hl => by obtain ⟨_, rfl⟩ := us1 hl; rfl
  let T : Tx K mg := ⟨_, _, F0, b0, PySem.W.mg_of X G a0, _, _, F1, b1, PySem.W.mg_of X G a1, _, _, F2, b2, PySem.W.mg_of X G a2, _, _, F3, b3, PySem.W.mg_of X G a3, _, _, F4, b4, PySem.W.mg_of X G a4, _, _, F5, b5, PySem.W.mg_of X G a5, _, _, F6, b6, PySem.W.mg_of X G a6, _, _, F7, b7, PySem.W.mg_of X G a7, _, _, F8, b8, PySem.W.mg_of X G a8, _, _, F9, b9, PySem.W.mg_of X G a9, _, _, F10, b10, PySem.W.mg_of X G a10, _, _, F11, b11, PySem.W.mg_of X G a11, _, _, F12, b12, PySem.W.mg_of X G a12, _, _, F13, b13, PySem.W.mg_of X G a13, _, _, F14, b14, PySem.W.mg_of X G a14, _, _, F15, b15, PySem.W.mg_of X G a15, _, _, F16, b16, PySem.W.mg_of X G a16, _, _, F17, b17, PySem.W.mg_of X G a17, _, _, F18, b18, PySem.W.mg_of X G a18, _, _, F19, b19, PySem.W.mg_of X G a19, _, _, F20, b20, PySem.W.mg_of X G a20, _, _, F21, b21, PySem.W.mg_of X G a21, _, _, F22, b22, PySem.W.mg_of X G a22, _, _, F23, b23, PySem.W.mg_of X G a23, _, _, F24, b24, PySem.W.mg_of X G a24, _, _, F25, b25, PySem.W.mg_of X G a25, _, _, F26, b26, PySem.W.mg_of X G a26, _, _, F27, b27, PySem.W.mg_of X G a27, _, _, F28, b28, PySem.W.mg_of X G a28, _, _, F29, b29, PySem.W.mg_of X G a29, _, _, F30, b30, PySem.W.mg_of X G a30, _, _, F31, b31, PySem.W.mg_of X G a31, _, _, F32, b32, PySem.W.mg_of X G a32, _, _, F33, b33, PySem.W.mg_of X G a33, _, _, F34, b34, PySem.W.mg_of X G a34, _, _, F35, b35, PySem.W.mg_of X G a35, _, _, F36, b36, PySem.W.mg_of X G a36, _, _, F37, b37, PySem.W.mg_of X G a37, _, _, F38, b38, PySem.W.mg_of X G a38, _, _, F39, b39, PySem.W.mg_of X G a39, _, _, F40, b40, PySem.W.mg_of X G a40, _, _, F41, b41, PySem.W.mg_of X G a41, _, _, F42, b42, PySem.W.mg_of X G a42, _, _, F43, b43, PySem.W.mg_of X G a43, _, _, F44, b44, PySem.W.mg_of X G a44, _, _, F45, b45, PySem.W.mg_of X G a45, _, _, F46, b46, PySem.W.mg_of X G a46, _, _, F47, b47, PySem.W.mg_of X G a47, _, _, F48, b48, PySem.W.mg_of X G a48, _, _, F49, b49, PySem.W.mg_of X G a49, _, _, F50, b50, PySem.W.mg_of X G a50, _, _, F51, b51, PySem.W.mg_of X G a51, _, _, F52, b52, PySem.W.mg_of X G a52, _, _, F53, b53, PySem.W.mg_of X G a53, _, _, F54, b54, PySem.W.mg_of X G a54, _, _, F55, b55, PySem.W.mg_of X G a55, _, _, F56, b56, _, _, F57, b57, _, _, F58, b58, _, _, F59, b59, _, _, F60, b60, _, _, F61, b61, _, _, F62, b62, _, _, F63, b63, _, _, F64, b64, _, _, F65, b65, _, _, F66, b66, _, _, F67, b67, _, _, F68, b68, _, _, F69, b69, _, _, F70, b70, _, PySem.W.mg_of X G aC_Form, ⟨pg_Form, hd_Form, po_Form, sa_Form⟩, ⟨mk_Form, a56, j56, kc_Form⟩, sf_Form, nf_Form, no_Form_entries, ⟨a56, j56, k56⟩, _, ⟨a57, g57, t57, _, r57⟩, _, ⟨a58, g58, t58, _, r58⟩, x_int, x_tup, x_ty, x_obj, x_cls, x_get, x_tak, x_rmul, x_imul, x_irmul, x_ne, _, PySem.W.mg_of X G aC_PrimeForm, ⟨pg_PrimeForm, hd_PrimeForm, po_PrimeForm, sa_PrimeForm⟩, ⟨mk_PrimeForm, a59, j59, kc_PrimeForm⟩, sf_PrimeForm, nf_PrimeForm, no_PrimeForm_prime, no_PrimeForm_entries, ⟨a59, j59, k59⟩, ⟨rd_PrimeForm, ga_PrimeForm⟩, _, ⟨a60, ⟨_, r60⟩, j60⟩, _, ⟨a61, g61, t61, _, r61⟩, _, ⟨a62, g62, t62, _, r62⟩, _, ⟨a63, g63, t63, _, r63⟩, _, ⟨a64, g64, t64, _, r64⟩, _, ⟨a65, g65, t65, _, r65⟩, ⟨a66, j66, k66⟩, ⟨a67, j67, k67⟩, ⟨a68, j68, k68⟩, ⟨a69, j69, k69⟩, ⟨a70, j70, k70⟩, px_int, px_tup, px_ty, px_ne, px_obj, px_nft, px_cls, px_get, px_tak, PySem.W.mg_none_of X G z0, PySem.W.mg_none_of X G z1, PySem.W.mg_none_of X G z2, PySem.W.mg_none_of X G z3, PySem.W.mg_none_of X G z4, PySem.W.mg_none_of X G z5, PySem.W.mg_none_of X G z6, PySem.W.mg_none_of X G z7, PySem.W.mg_none_of X G z8, PySem.W.mg_none_of X G z9, PySem.W.mg_none_of X G z10, PySem.W.mg_none_of X G z11, PySem.W.mg_none_of X G z12, PySem.W.mg_none_of X G z13, PySem.W.mg_none_of X G z14, PySem.W.mg_none_of X G z15, PySem.W.mg_none_of X G z16, PySem.W.mg_of X G i0, _, PySem.W.mg_of X G q0, _, PySem.W.mg_of X G q1, _, PySem.W.mg_of X G q2, _, PySem.W.mg_of X G y0, fun _ => sqT_const x0 w0 (by decide)⟩
  exact ⟨_, fun s v => .of_eq rfl, fun base _ _ => ok_law T⟩
end My
/-- keeps a helper of the head, that nothing uses, from being written (256 MiB) -/
def PySem.W.Fast.tw14753007835626962859 : Nat := 0
open PySem PySem.W PyProof.Rows
set_option maxHeartbeats 0 in
theorem PySem.Challenge.cw_sourceforms_k49_whole_forms_over_primes_holds : PySem.Challenge.rw_sourceforms_k49_whole_forms_over_primes.Holds := by
  w_on; o_law; k_head; (case hw => w_witness2)
  k_fill
  refine L2.walk_of (l := PySem.Challenge.rw_sourceforms_k49_whole_forms_over_primes) (n := 63) (k := 28) (x := "_law_script") (CX := fun _ => L2.CX0) (sp := fun w => My.sp_law _) rfl (by decide) rfl ⟨rfl, by decide, by decide⟩ (fun w h Y => PySem.W.kIn_of Y) ?F (fun _ _ a ns hl _ hS => ⟨a, ns, rfl, hS, hl, fun _ => rfl⟩) (fun _ _ _ _ _ h => h)
  case F =>
    intro w mg fa h KX G hmg
    refine' My.all_mk KX G hmg ?a0 ?l0 ?c0 ?k0 ?a1 ?l1 ?c1 ?k1 ?a2 ?l2 ?c2 ?k2 ?a3 ?l3 ?c3 ?k3 ?a4 ?l4 ?c4 ?k4 ?a5 ?l5 ?c5 ?k5 ?a6 ?l6 ?c6 ?k6 ?a7 ?l7 ?c7 ?k7 ?a8 ?l8 ?c8 ?k8 ?a9 ?l9 ?c9 ?k9 ?a10 ?l10 ?c10 ?k10 ?a11 ?l11 ?c11 ?k11 ?a12 ?l12 ?c12 ?k12 ?a13 ?l13 ?c13 ?k13 ?a14 ?l14 ?c14 ?k14 ?a15 ?l15 ?c15 ?k15 ?a16 ?l16 ?c16 ?k16 ?a17 ?l17 ?c17 ?k17 ?a18 ?l18 ?c18 ?k18 ?a19 ?l19 ?c19 ?k19 ?a20 ?l20 ?c20 ?k20 ?a21 ?l21 ?c21 ?k21 ?a22 ?l22 ?c22 ?k22 ?a23 ?l23 ?c23 ?k23 ?a24 ?l24 ?c24 ?k24 ?a25 ?l25 ?c25 ?k25 ?a26 ?l26 ?c26 ?k26 ?a27 ?l27 ?c27 ?k27 ?a28 ?l28 ?c28 ?k28 ?a29 ?l29 ?c29 ?k29 ?a30 ?l30 ?c30 ?k30 ?a31 ?l31 ?c31 ?k31 ?a32 ?l32 ?c32 ?k32 ?a33 ?l33 ?c33 ?k33 ?a34 ?l34 ?c34 ?k34 ?a35 ?l35 ?c35 ?k35 ?a36 ?l36 ?c36 ?k36 ?a37 ?l37 ?c37 ?k37 ?a38 ?l38 ?c38 ?k38 ?a39 ?l39 ?c39 ?k39 ?a40 ?l40 ?c40 ?k40 ?a41 ?l41 ?c41 ?k41 ?a42 ?l42 ?c42 ?k42 ?a43 ?l43 ?c43 ?k43 ?a44 ?l44 ?c44 ?k44 ?a45 ?l45 ?c45 ?k45 ?a46 ?l46 ?c46 ?k46 ?a47 ?l47 ?c47 ?k47 ?a48 ?l48 ?c48 ?k48 ?a49 ?l49 ?c49 ?k49 ?a50 ?l50 ?c50 ?k50 ?a51 ?l51 ?c51 ?k51 ?a52 ?l52 ?c52 ?k52 ?a53 ?l53 ?c53 ?k53 ?a54 ?l54 ?c54 ?k54 ?a55 ?l55 ?c55 ?k55 ?a56 ?j56 ?l56 ?c56 ?k56 ?a57 ?g57 ?t57 ?r57 ?l57 ?c57 ?k57 ?a58 ?g58 ?t58 ?r58 ?l58 ?c58 ?k58 ?a59 ?j59 ?l59 ?c59 ?k59 ?a60 ?r60 ?j60 ?l60 ?c60 ?k60 ?a61 ?g61 ?t61 ?r61 ?l61 ?c61 ?k61 ?a62 ?g62 ?t62 ?r62 ?l62 ?c62 ?k62 ?a63 ?g63 ?t63 ?r63 ?l63 ?c63 ?k63 ?a64 ?g64 ?t64 ?r64 ?l64 ?c64 ?k64 ?a65 ?g65 ?t65 ?r65 ?l65 ?c65 ?k65 ?a66 ?j66 ?l66 ?c66 ?k66 ?a67 ?j67 ?l67 ?c67 ?k67 ?a68 ?j68 ?l68 ?c68 ?k68 ?a69 ?j69 ?l69 ?c69 ?k69 ?a70 ?j70 ?l70 ?c70 ?k70 ?aC_Form ?pg_Form ?hd_Form ?po_Form ?sa_Form ?mk_Form ?kc_Form ?sf_Form ?nf_Form ?no_Form_entries ?x_int ?x_tup ?x_ty ?x_obj ?x_cls ?x_get ?x_tak ?x_rmul ?x_imul ?x_irmul ?x_ne ?aC_PrimeForm ?pg_PrimeForm ?hd_PrimeForm ?po_PrimeForm ?sa_PrimeForm ?mk_PrimeForm ?kc_PrimeForm ?sf_PrimeForm ?nf_PrimeForm ?no_PrimeForm_prime ?no_PrimeForm_entries ?px_int ?px_tup ?px_ty ?px_ne ?px_obj ?px_nft ?px_cls ?px_get ?px_tak ?rd_PrimeForm ?ga_PrimeForm ?z0 ?z1 ?z2 ?z3 ?z4 ?z5 ?z6 ?z7 ?z8 ?z9 ?z10 ?z11 ?z12 ?z13 ?z14 ?z15 ?z16 ?i0 ?q0 ?q1 ?q2 ?y0 ?x0 ?w0
    (case aC_Form => k_is)
    (case aC_PrimeForm => k_is)
    (case a0 => k_is)
    (case l0 => k_is)
    (case c0 => k_is)
    (case k0 => k_is)
    (case a1 => k_is)
    (case l1 => k_is)
    (case c1 => k_is)
    (case k1 => k_is)
    (case a2 => k_is)
    (case l2 => k_is)
    (case c2 => k_is)
    (case k2 => k_is)
    (case a3 => k_is)
    (case l3 => k_is)
    (case c3 => k_is)
    (case k3 => k_is)
    (case a4 => k_is)
    (case l4 => k_is)
    (case c4 => k_is)
    (case k4 => k_is)
    (case a5 => k_is)
    (case l5 => k_is)
    (case c5 => k_is)
    (case k5 => k_is)
    (case a6 => k_is)
    (case l6 => k_is)
    (case c6 => k_is)
    (case k6 => k_is)
    (case a7 => k_is)
    (case l7 => k_is)
    (case c7 => k_is)
    (case k7 => k_is)
    (case a8 => k_is)
    (case l8 => k_is)
    (case c8 => k_is)
    (case k8 => k_is)
    (case a9 => k_is)
    (case l9 => k_is)
    (case c9 => k_is)
    (case k9 => k_is)
    (case a10 => k_is)
    (case l10 => k_is)
    (case c10 => k_is)
    (case k10 => k_is)
    (case a11 => k_is)
    (case l11 => k_is)
    (case c11 => k_is)
    (case k11 => k_is)
    (case a12 => k_is)
    (case l12 => k_is)
    (case c12 => k_is)
    (case k12 => k_is)
    (case a13 => k_is)
    (case l13 => k_is)
    (case c13 => k_is)
    (case k13 => k_is)
    (case a14 => k_is)
    (case l14 => k_is)
    (case c14 => k_is)
    (case k14 => k_is)
    (case a15 => k_is)
    (case l15 => k_is)
    (case c15 => k_is)
    (case k15 => k_is)
    (case a16 => k_is)
    (case l16 => k_is)
    (case c16 => k_is)
    (case k16 => k_is)
    (case a17 => k_is)
    (case l17 => k_is)
    (case c17 => k_is)
    (case k17 => k_is)
    (case a18 => k_is)
    (case l18 => k_is)
    (case c18 => k_is)
    (case k18 => k_is)
    (case a19 => k_is)
    (case l19 => k_is)
    (case c19 => k_is)
    (case k19 => k_is)
    (case a20 => k_is)
    (case l20 => k_is)
    (case c20 => k_is)
    (case k20 => k_is)
    (case a21 => k_is)
    (case l21 => k_is)
    (case c21 => k_is)
    (case k21 => k_is)
    (case a22 => k_is)
    (case l22 => k_is)
    (case c22 => k_is)
    (case k22 => k_is)
    (case a23 => k_is)
    (case l23 => k_is)
    (case c23 => k_is)
    (case k23 => k_is)
    (case a24 => k_is)
    (case l24 => k_is)
    (case c24 => k_is)
    (case k24 => k_is)
    (case a25 => k_is)
    (case l25 => k_is)
    (case c25 => k_is)
    (case k25 => k_is)
    (case a26 => k_is)
    (case l26 => k_is)
    (case c26 => k_is)
    (case k26 => k_is)
    (case a27 => k_is)
    (case l27 => k_is)
    (case c27 => k_is)
    (case k27 => k_is)
    (case a28 => k_is)
    (case l28 => k_is)
    (case c28 => k_is)
    (case k28 => k_is)
    (case a29 => k_is)
    (case l29 => k_is)
    (case c29 => k_is)
    (case k29 => k_is)
    (case a30 => k_is)
    (case l30 => k_is)
    (case c30 => k_is)
    (case k30 => k_is)
    (case a31 => k_is)
    (case l31 => k_is)
    (case c31 => k_is)
    (case k31 => k_is)
    (case a32 => k_is)
    (case l32 => k_is)
    (case c32 => k_is)
    (case k32 => k_is)
    (case a33 => k_is)
    (case l33 => k_is)
    (case c33 => k_is)
    (case k33 => k_is)
    (case a34 => k_is)
    (case l34 => k_is)
    (case c34 => k_is)
    (case k34 => k_is)
    (case a35 => k_is)
    (case l35 => k_is)
    (case c35 => k_is)
    (case k35 => k_is)
    (case a36 => k_is)
    (case l36 => k_is)
    (case c36 => k_is)
    (case k36 => k_is)
    (case a37 => k_is)
    (case l37 => k_is)
    (case c37 => k_is)
    (case k37 => k_is)
    (case a38 => k_is)
    (case l38 => k_is)
    (case c38 => k_is)
    (case k38 => k_is)
    (case a39 => k_is)
    (case l39 => k_is)
    (case c39 => k_is)
    (case k39 => k_is)
    (case a40 => k_is)
    (case l40 => k_is)
    (case c40 => k_is)
    (case k40 => k_is)
    (case a41 => k_is)
    (case l41 => k_is)
    (case c41 => k_is)
    (case k41 => k_is)
    (case a42 => k_is)
    (case l42 => k_is)
    (case c42 => k_is)
    (case k42 => k_is)
    (case a43 => k_is)
    (case l43 => k_is)
    (case c43 => k_is)
    (case k43 => k_is)
    (case a44 => k_is)
    (case l44 => k_is)
    (case c44 => k_is)
    (case k44 => k_is)
    (case a45 => k_is)
    (case l45 => k_is)
    (case c45 => k_is)
    (case k45 => k_is)
    (case a46 => k_is)
    (case l46 => k_is)
    (case c46 => k_is)
    (case k46 => k_is)
    (case a47 => k_is)
    (case l47 => k_is)
    (case c47 => k_is)
    (case k47 => k_is)
    (case a48 => k_is)
    (case l48 => k_is)
    (case c48 => k_is)
    (case k48 => k_is)
    (case a49 => k_is)
    (case l49 => k_is)
    (case c49 => k_is)
    (case k49 => k_is)
    (case a50 => k_is)
    (case l50 => k_is)
    (case c50 => k_is)
    (case k50 => k_is)
    (case a51 => k_is)
    (case l51 => k_is)
    (case c51 => k_is)
    (case k51 => k_is)
    (case a52 => k_is)
    (case l52 => k_is)
    (case c52 => k_is)
    (case k52 => k_is)
    (case a53 => k_is)
    (case l53 => k_is)
    (case c53 => k_is)
    (case k53 => k_is)
    (case a54 => k_is)
    (case l54 => k_is)
    (case c54 => k_is)
    (case k54 => k_is)
    (case a55 => k_is)
    (case l55 => k_is)
    (case c55 => k_is)
    (case k55 => k_is)
    (case a56 => k_is)
    (case j56 => k_is)
    (case l56 => k_is)
    (case c56 => k_is)
    (case k56 => k_is)
    (case a57 => k_is)
    (case g57 => k_is)
    (case t57 => k_is)
    (case r57 => k_is)
    (case l57 => k_is)
    (case c57 => k_is)
    (case k57 => k_is)
    (case a58 => k_is)
    (case g58 => k_is)
    (case t58 => k_is)
    (case r58 => k_is)
    (case l58 => k_is)
    (case c58 => k_is)
    (case k58 => k_is)
    (case a59 => k_is)
    (case j59 => k_is)
    (case l59 => k_is)
    (case c59 => k_is)
    (case k59 => k_is)
    (case a60 => k_is)
    (case r60 => k_is)
    (case j60 => k_is)
    (case l60 => k_is)
    (case c60 => k_is)
    (case k60 => k_is)
    (case a61 => k_is)
    (case g61 => k_is)
    (case t61 => k_is)
    (case r61 => k_is)
    (case l61 => k_is)
    (case c61 => k_is)
    (case k61 => k_is)
    (case a62 => k_is)
    (case g62 => k_is)
    (case t62 => k_is)
    (case r62 => k_is)
    (case l62 => k_is)
    (case c62 => k_is)
    (case k62 => k_is)
    (case a63 => k_is)
    (case g63 => k_is)
    (case t63 => k_is)
    (case r63 => k_is)
    (case l63 => k_is)
    (case c63 => k_is)
    (case k63 => k_is)
    (case a64 => k_is)
    (case g64 => k_is)
    (case t64 => k_is)
    (case r64 => k_is)
    (case l64 => k_is)
    (case c64 => k_is)
    (case k64 => k_is)
    (case a65 => k_is)
    (case g65 => k_is)
    (case t65 => k_is)
    (case r65 => k_is)
    (case l65 => k_is)
    (case c65 => k_is)
    (case k65 => k_is)
    (case a66 => k_is)
    (case j66 => k_is)
    (case l66 => k_is)
    (case c66 => k_is)
    (case k66 => k_is)
    (case a67 => k_is)
    (case j67 => k_is)
    (case l67 => k_is)
    (case c67 => k_is)
    (case k67 => k_is)
    (case a68 => k_is)
    (case j68 => k_is)
    (case l68 => k_is)
    (case c68 => k_is)
    (case k68 => k_is)
    (case a69 => k_is)
    (case j69 => k_is)
    (case l69 => k_is)
    (case c69 => k_is)
    (case k69 => k_is)
    (case a70 => k_is)
    (case j70 => k_is)
    (case l70 => k_is)
    (case c70 => k_is)
    (case k70 => k_is)
    (case pg_Form => k_is)
    (case hd_Form => k_is)
    (case po_Form => k_is)
    (case sa_Form => k_is)
    (case mk_Form => k_is)
    (case kc_Form => k_is)
    (case sf_Form => k_is)
    (case nf_Form => k_is)
    (case no_Form_entries => k_is)
    (case x_int => k_is)
    (case x_tup => k_is)
    (case x_ty => k_is)
    (case x_obj => k_is)
    (case x_cls => k_is)
    (case x_get => k_is)
    (case x_tak => k_is)
    (case x_rmul => k_is)
    (case x_imul => k_is)
    (case x_irmul => k_is)
    (case x_ne => k_is)
    (case pg_PrimeForm => k_is)
    (case hd_PrimeForm => k_is)
    (case po_PrimeForm => k_is)
    (case sa_PrimeForm => k_is)
    (case mk_PrimeForm => k_is)
    (case kc_PrimeForm => k_is)
    (case sf_PrimeForm => k_is)
    (case nf_PrimeForm => k_is)
    (case no_PrimeForm_prime => k_is)
    (case no_PrimeForm_entries => k_is)
    (case px_int => k_is)
    (case px_tup => k_is)
    (case px_ty => k_is)
    (case px_ne => k_is)
    (case px_obj => k_is)
    (case px_nft => k_is)
    (case px_cls => k_is)
    (case px_get => k_is)
    (case px_tak => k_is)
    (case rd_PrimeForm => k_is)
    (case ga_PrimeForm => k_is)
    (case z0 => k_is)
    (case z1 => k_is)
    (case z2 => k_is)
    (case z3 => k_is)
    (case z4 => k_is)
    (case z5 => k_is)
    (case z6 => k_is)
    (case z7 => k_is)
    (case z8 => k_is)
    (case z9 => k_is)
    (case z10 => k_is)
    (case z11 => k_is)
    (case z12 => k_is)
    (case z13 => k_is)
    (case z14 => k_is)
    (case z15 => k_is)
    (case z16 => k_is)
    (case i0 => k_is)
    (case q0 => k_is)
    (case q1 => k_is)
    (case q2 => k_is)
    (case y0 => k_is)
    (case x0 => k_is)
    (case w0 => rfl)
