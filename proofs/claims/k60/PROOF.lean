import PyProof.Rows.All
import Wide.All
import OpenK.AllK
import Wide.FinOn
import HandS.ForMost
import HandS.Star
import HandS.Wide
import HandS.Flow
import HandS.IsInst
import HandS.Walk
import HandS.NoneIn
import HandS.Zip
import HandS.More
import HandS.Codes
import HandS.ExcOwn
import HandS.ExcInit
import HandS.ExcField
import HandS.ExcIs
import HandS.Deep
import HandS.TupAny
import HandS.WordsExc
import HandS.TryMany
import HandS.Defaults
import HandS.CallSlots
import HandS.DictComp
import KE.KExcIs
import KE.GoesMore
import KE.GoesZip
import KE.GoesEnum
import PyProof.CollectIter
import PyProof.WalksMore
import KE.KUnpack
import PySem.Challenge.RW_penhome_k60_named_equations
set_option Elab.async false
set_option linter.all false
set_option maxRecDepth 100000
namespace My
open PySem PySem.Spec PyProof.Rows L2
theorem hu64 {A : Around} {k : Nat} (hr : Room k A) : A.units + 64 < cLine := by
  have := hr.un
  omega
section
variable {X : Cx}
theorem call_intI : CallR X (.type "int") (fun xs H Q => ∃ i, xs = [.int i] ∧ Q (.int i) H) := fun pins s σ H xs us Q I r ⟨i, e, q⟩ => call_int1 pins s σ H xs us Q I r (.inl ⟨i, e, q⟩)
theorem call_intB : CallR X (.type "int") (fun xs H Q => ∃ k, xs = [.bl k] ∧ Q (.int (if k then 1 else 0)) H) := fun pins s σ H xs us Q I r ⟨i, e, q⟩ => call_int1 pins s σ H xs us Q I r (.inr ⟨i, e, q⟩)
theorem call_lenA : CallR X (.builtin "len") (fun xs H Q => ∃ p ys, xs = [.ref p] ∧ (SqL X.K H p ys ∨ SqT X.K H p ys) ∧ Q (.int ys.length) H) := call_len_seq
theorem call_listL : CallR X (.type "list") (fun xs H Q => ∃ p ys, xs = [.ref p] ∧ (SqL X.K H p ys ∨ SqT X.K H p ys) ∧ ∀ l, H l = none → Q (.ref l) (upd H l (.lst ys))) := call_list_of
theorem call_tupL : CallR X (.type "tuple") (fun xs H Q => ∃ p ys, xs = [.ref p] ∧ SqL X.K H p ys ∧ ∀ l, H l = none → Q (.ref l) (upd H l (.tup ys))) := fun pins s σ H xs us Q I r ⟨p, ys, e, h, q⟩ => call_tuple_of pins s σ H xs us Q I r ⟨p, ys, e, .inl ⟨h, q⟩⟩
theorem get_lst : PGet X (fun o i H Q => ∃ p xs k v, o = .ref p ∧ i = .int k ∧ 0 ≤ k ∧ SqL X.K H p xs ∧ xs[k.toNat]? = some v ∧ Q v H) := by
  intro pins s σ H o i ov iv Q I r1 r2 h
  obtain ⟨p, xs, k, v, rfl, rfl, h0, hq, he, q⟩ := h
  cases r1
  obtain ⟨t, rfl⟩ := r2
  obtain ⟨its, r, pl, hz⟩ := I.list hq
  obtain ⟨w, ew, rw'⟩ := r.get he
  have hl := r.length
  have hn := line63
  have hlt : k.toNat < xs.length := (List.getElem?_eq_some_iff.mp he).1
  exact wpAny_getItem_list pl.isList h0 (by omega) (by simpa using ew) ⟨v, H, I, rw', q⟩
end
/-! ### lists and tuples of ints compared -/
theorem dpAllInts {K : PySem.W.Frag} {H : Hp} : ∀ ns : List Int, DpAll K H (ns.map V.int) (ns.map PyData.int)
  | [] => .nil
  | n :: r => .cons (.int n) (dpAllInts r)
theorem canAllInts : ∀ ns : List Int, PyData.canLayAll0 (ns.map PyData.int) = true
  | [] => by simp [PyData.canLayAll0]
  | n :: r => by simp [PyData.canLayAll0, PyData.canLay0, canAllInts r]
theorem depthAllInts : ∀ ns : List Int, PyData.depthAll (ns.map PyData.int) = 0
  | [] => by simp [PyData.depthAll]
  | n :: r => by simp [PyData.depthAll, PyData.depth, depthAllInts r]
theorem shList (ns : List Int) : SeqAt.shaped (.list (ns.map PyData.int)) = true := by
  simp [SeqAt.shaped, PyData.canLay0, PyData.depth, canAllInts, depthAllInts]
theorem shTup (ns : List Int) : SeqAt.shaped (.tuple (ns.map PyData.int)) = true := by
  simp [SeqAt.shaped, PyData.canLay0, PyData.depth, canAllInts, depthAllInts]
theorem eqvAllInts : ∀ ns ms : List Int, PyData.eqvAll (ns.map PyData.int) (ms.map PyData.int) = decide (ns = ms)
  | [], [] => by simp [PyData.eqvAll]
  | [], m :: r => by simp [PyData.eqvAll]
  | n :: r, [] => by simp [PyData.eqvAll]
  | n :: r, m :: q => by
    rw [List.map_cons, List.map_cons, PyData.eqvAll, eqvAllInts r q, PyData.eqv]
    by_cases e : n = m
    · subst e; simp
    · simp [e]
section
variable {X : Cx}
def rEqI (K : PySem.W.Frag) : R2 := fun x y H Q => ∃ (a b : Addr) (ns ms : List Int), x = .ref a ∧ y = .ref b ∧ SqL K H a (ns.map V.int) ∧ SqL K H b (ms.map V.int) ∧ Q (.bl (decide (ns = ms))) H
def rNeI (K : PySem.W.Frag) : R2 := fun x y H Q => ∃ (a b : Addr) (ns ms : List Int), x = .ref a ∧ y = .ref b ∧ SqL K H a (ns.map V.int) ∧ SqL K H b (ms.map V.int) ∧ Q (.bl (!decide (ns = ms))) H
def rEqTI (K : PySem.W.Frag) : R2 := fun x y H Q => ∃ (a b : Addr) (ns ms : List Int), x = .ref a ∧ y = .ref b ∧ SqT K H a (ns.map V.int) ∧ SqT K H b (ms.map V.int) ∧ Q (.bl (decide (ns = ms))) H
def rNeTI (K : PySem.W.Frag) : R2 := fun x y H Q => ∃ (a b : Addr) (ns ms : List Int), x = .ref a ∧ y = .ref b ∧ SqT K H a (ns.map V.int) ∧ SqT K H b (ms.map V.int) ∧ Q (.bl (!decide (ns = ms))) H
theorem op_eqI (hu : X.A.units + 64 < cLine) : OpR X (compareOp .Eq) (rEqI X.K) := fun pins s σ H x y v u Q I rx ry ⟨a, b, ns, ms, e1, e2, h1, h2, q⟩ =>
  op_eqD hu pins s σ H x y v u Q I rx ry ⟨_, _, e1 ▸ .lst h1 (dpAllInts ns), e2 ▸ .lst h2 (dpAllInts ms), shList ns, shList ms, by rw [PyData.eqv, eqvAllInts]; exact q⟩
theorem op_neI (hu : X.A.units + 64 < cLine) : OpR X (compareOp .NotEq) (rNeI X.K) := fun pins s σ H x y v u Q I rx ry ⟨a, b, ns, ms, e1, e2, h1, h2, q⟩ =>
  op_neD hu pins s σ H x y v u Q I rx ry ⟨_, _, e1 ▸ .lst h1 (dpAllInts ns), e2 ▸ .lst h2 (dpAllInts ms), shList ns, shList ms, by rw [PyData.eqv, eqvAllInts]; exact q⟩
theorem op_eqTI (hu : X.A.units + 64 < cLine) : OpR X (compareOp .Eq) (rEqTI X.K) := fun pins s σ H x y v u Q I rx ry ⟨a, b, ns, ms, e1, e2, h1, h2, q⟩ =>
  op_eqD hu pins s σ H x y v u Q I rx ry ⟨_, _, e1 ▸ .tup h1 (dpAllInts ns), e2 ▸ .tup h2 (dpAllInts ms), shTup ns, shTup ms, by rw [PyData.eqv, eqvAllInts]; exact q⟩
theorem op_neTI (hu : X.A.units + 64 < cLine) : OpR X (compareOp .NotEq) (rNeTI X.K) := fun pins s σ H x y v u Q I rx ry ⟨a, b, ns, ms, e1, e2, h1, h2, q⟩ =>
  op_neD hu pins s σ H x y v u Q I rx ry ⟨_, _, e1 ▸ .tup h1 (dpAllInts ns), e2 ▸ .tup h2 (dpAllInts ms), shTup ns, shTup ms, by rw [PyData.eqv, eqvAllInts]; exact q⟩
end
/-! ### heaps -/
theorem same_upd {H : Hp} {p : Addr} {o : HO} (h : H p = none) : Same H (upd H p o) := fun b x e => by
  rw [upd_ne (ne_of_none e h)]
  exact e
/-- all that was tracked is as it was, but for what is at p -/
def Kp (p : Addr) (H H' : Hp) : Prop := ∀ b o, b ≠ p → H b = some o → H' b = some o
theorem Kp.refl (p : Addr) (H : Hp) : Kp p H H := fun _ _ _ h => h
theorem Kp.trans {p : Addr} {H H1 H2 : Hp} (a : Kp p H H1) (b : Kp p H1 H2) : Kp p H H2 := fun c o n h => b c o n (a c o n h)
theorem Kp.upd {p : Addr} {H : Hp} {o : HO} : Kp p H (upd H p o) := fun b x n e => by rw [upd_ne n]; exact e
theorem Kp.of {p : Addr} {H H' : Hp} (s : Same H H') : Kp p H H' := fun b o _ e => s b o e
theorem Kp.new {p q : Addr} {H H1 : Hp} {o : HO} (k : Kp p H H1) (n : H q = none) : Kp p H (L2.upd H1 q o) := fun b x nb e => by
  rw [upd_ne (ne_of_none e n)]
  exact k b x nb e
theorem same_new {q : Addr} {H H1 : Hp} {o : HO} (k : Same H H1) (n : H q = none) : Same H (upd H1 q o) := fun b x e => by
  rw [upd_ne (ne_of_none e n)]
  exact k b x e
theorem Kp.none {p q : Addr} {H H' : Hp} (k : Kp p H H') (h : H' q = none) (n : q ≠ p) : H q = none := by
  cases e : H q with
  | none => rfl
  | some o =>
    rw [k q o n e] at h
    cases h
/-- the law's pool: a list of L ints -/
def Pool (H : Hp) (p : Addr) (L : Nat) : Prop := ∃ ns : List Int, H p = some (.lst (ns.map V.int)) ∧ ns.length = L
theorem Pool.ne {H : Hp} {p q : Addr} {L : Nat} (h : Pool H p L) (n : H q = none) : q ≠ p := fun e => by
  obtain ⟨ns, h, _⟩ := h
  rw [← e, n] at h
  cases h
theorem Pool.new {H : Hp} {p q : Addr} {o : HO} {L : Nat} (h : Pool H p L) (n : H q = none) : Pool (upd H q o) p L := by
  have hn := (h.ne n).symm
  obtain ⟨ns, h, e⟩ := h
  exact ⟨ns, by rw [upd_ne hn]; exact h, e⟩
theorem Pool.keep {H : Hp} {p q : Addr} {o : HO} {L : Nat} (h : Pool H p L) (n : q ≠ p) : Pool (upd H q o) p L := by
  obtain ⟨ns, h, e⟩ := h
  exact ⟨ns, by rw [upd_ne n.symm]; exact h, e⟩
theorem get_map {ns : List Int} {i : Nat} {n : Int} (h : ns[i]? = some n) : (ns.map V.int)[i]? = some (.int n) := by
  rw [List.getElem?_map, h]
  rfl
theorem at_map {ns : List Int} {i : Int} (h0 : 0 ≤ i) (h1 : i < ns.length) : ∃ n, ns[i.toNat]? = some n ∧ atI (ns.map V.int) i = some (.int n) := by
  have hi : i.toNat < ns.length := by omega
  refine ⟨ns[i.toNat], List.getElem?_eq_getElem hi, ?_⟩
  refine at_of (j := i.toNat) (by omega) ?_
  exact get_map (List.getElem?_eq_getElem hi)
theorem ixN_in {n : Nat} {i : Int} (h0 : 0 ≤ i) (h1 : i < n) : ixN n i = some i.toNat := by
  unfold ixN
  rw [if_pos h0, if_pos h1]
theorem set_map {ns : List Int} {j : Nat} {z : Int} : (ns.map V.int).set j (.int z) = (ns.set j z).map V.int := by
  rw [List.map_set]
theorem small100 {n : Nat} (h : n ≤ 1000) : n ≤ sizeLine := Nat.le_of_lt (small1000 h)
theorem len_map (ns : List Int) : (ns.map V.int).length = ns.length := List.length_map ..
/-! ### what a for walks: a list or a tuple -/
def iSeq (K : PySem.W.Frag) (tl : TE) : TI := fun σ H R => iList K tl σ H R ∨ iTup K tl σ H R
theorem pi_seq {X : Cx} {tg l : Expr} {tl : TE} (h1 : PI X tg l (iList X.K tl)) (h2 : PI X tg l (iTup X.K tl)) : PI X tg l (iSeq X.K tl) :=
  ⟨fun pins s σ H R I h => h.elim (fun h => h1.run pins s σ H R I h) fun h => h2.run pins s σ H R I h⟩
theorem pi_sq {X : Cx} {tg l : Expr} {tl : TE} (h : PE X l tl) : PI X tg l (iSeq X.K tl) := pi_seq (pi_list h) (pi_tup h)
/-! ### the same rules, the written part by name (within a comprehension's block) -/
section
variable (K : PySem.W.Frag) {X : Cx}
def rLenA (K : PySem.W.Frag) : List V → Hp → VK → Prop := fun xs H Q => ∃ p ys, xs = [V.ref p] ∧ (SqL K H p ys ∨ SqT K H p ys) ∧ Q (.int ys.length) H
def rListL (K : PySem.W.Frag) : List V → Hp → VK → Prop := fun xs H Q => ∃ p ys, xs = [V.ref p] ∧ (SqL K H p ys ∨ SqT K H p ys) ∧ ∀ l, H l = none → Q (.ref l) (upd H l (.lst ys))
def rTupL (K : PySem.W.Frag) : List V → Hp → VK → Prop := fun xs H Q => ∃ p ys, xs = [V.ref p] ∧ SqL K H p ys ∧ ∀ l, H l = none → Q (.ref l) (upd H l (.tup ys))
theorem k_len (hK : X.K = K := by rfl) : CallR X (.builtin "len") (rLenA K) := hK ▸ call_lenA
theorem k_list (hK : X.K = K := by rfl) : CallR X (.type "list") (rListL K) := hK ▸ call_listL
theorem k_tuple (hK : X.K = K := by rfl) : CallR X (.type "tuple") (rTupL K) := hK ▸ call_tupL
theorem k_isi (hK : X.K = K := by rfl) : CallR X (.builtin "isinstance") (rIsi K) := hK ▸ call_isi
theorem k_all (hK : X.K = K := by rfl) (hc : X.calm = true := by rfl) : CallR X (.builtin "all") (rAll K) := hK ▸ cr_all hc
theorem k_sum (hK : X.K = K := by rfl) (hc : X.calm = true := by rfl) : CallR X (.builtin "sum") (rSum K) := hK ▸ cr_sum hc
theorem k_ixL (hK : X.K = K := by rfl) : IxR X (rIxL K) := hK ▸ ix_list
theorem k_ixT (hK : X.K = K := by rfl) : IxR X (rIxT K) := hK ▸ ix_tup
theorem k_slL (hK : X.K = K := by rfl) : SlR X (rSlL K) := hK ▸ sl_list
theorem k_slT (hK : X.K = K := by rfl) : SlR X (rSlT K) := hK ▸ sl_tup
theorem k_piL {tg l : Expr} {tl : TE} (hl : PE X l tl) (hK : X.K = K := by rfl) : PI X tg l (iList K tl) := hK ▸ pi_list hl
theorem k_piT {tg l : Expr} {tl : TE} (hl : PE X l tl) (hK : X.K = K := by rfl) : PI X tg l (iTup K tl) := hK ▸ pi_tup hl
theorem k_piS {tg l : Expr} {tl : TE} (hl : PE X l tl) (hK : X.K = K := by rfl) : PI X tg l (iSeq K tl) := hK ▸ pi_sq hl
theorem k_eqI (hu : X.A.units + 64 < cLine) (hK : X.K = K := by rfl) : OpR X (compareOp .Eq) (rEqI K) := hK ▸ op_eqI hu
theorem k_neI (hu : X.A.units + 64 < cLine) (hK : X.K = K := by rfl) : OpR X (compareOp .NotEq) (rNeI K) := hK ▸ op_neI hu
theorem k_eqTI (hu : X.A.units + 64 < cLine) (hK : X.K = K := by rfl) : OpR X (compareOp .Eq) (rEqTI K) := hK ▸ op_eqTI hu
theorem k_neTI (hu : X.A.units + 64 < cLine) (hK : X.K = K := by rfl) : OpR X (compareOp .NotEq) (rNeTI K) := hK ▸ op_neTI hu
theorem k_getL (hK : X.K = K := by rfl) : PGet X (fun o i H Q => ∃ p xs k v, o = .ref p ∧ i = .int k ∧ 0 ≤ k ∧ SqL K H p xs ∧ xs[k.toNat]? = some v ∧ Q v H) := hK ▸ get_lst
theorem k_star {e : Expr} {es : List Expr} {te : TE} {t : TA} {p : Pos} (he : PE X e te) (hr : PA X es t) (hK : X.K = K := by rfl) (hs : starEach (.Starred e p :: es) X.env = (true, eval e X.env) :: starEach es X.env := by rfl) : PA X (.Starred e p :: es) (StX.tStar K te t) := hK ▸ StX.pa_star he hr hs
end
theorem iteP {c A B : Prop} [Decidable c] (hc : c) (h : A) : if decide c = true then A else B := by
  rw [if_pos (decide_eq_true hc)]
  exact h
section
variable (K : PySem.W.Frag) {X : Cx}
theorem k_listT (hK : X.K = K := by rfl) : CallR X (.type "list") (rListL K) := k_list K hK
end
section
variable (K : PySem.W.Frag) {X : Cx}
theorem k_zipD {ta : TA} {e e2 : Expr} {p pos tpos : Pos} {elts : List Expr} {kk : Nat} (hg : Gl X "zip") (hm : X.mg "zip" = none) (ha : PA X [e, e2] ta) (hK : X.K = K := by rfl)
    (hs : starEach [e, e2] X.env = (false, eval e X.env) :: starEach [e2] X.env := by rfl) (hpl : (backTo pos (starEach [e2] X.env)).any (·.1) = false := by rfl) :
    PI X (.Tuple elts kk tpos) (.Call (.Name "zip" p) [e, e2] [] pos) (iZip K ta) := hK ▸ pi_zip hg hm ha hs hpl
end
section
variable (K : PySem.W.Frag) {X : Cx}
theorem k_isiT (hK : X.K = K := by rfl) : CallR X (.builtin "isinstance") (rIsiT K) := hK ▸ call_isiT
theorem k_ixQ (hK : X.K = K := by rfl) : IxR X (rIx K) := hK ▸ ix_seq
end

def isI : PyData → Bool
  | .int _ => true
  | _ => false
def inD (d : PyData) (l : Int × Int) : Bool := match d with
  | .int z => decide (l.1 ≤ z) && decide (z ≤ l.2)
  | _ => false
def isLs : PyData → Bool
  | .list _ => true
  | _ => false
def isTp : PyData → Bool
  | .tuple _ => true
  | _ => false
def isBl : PyData → Bool
  | .bool _ => true
  | _ => false

/-! ### data that stand in the heap, their lists at addresses of a kind -/
section
variable (S : Addr → Prop) (H : Hp)
mutual
def Tr : PyData → V → Prop
  | .none, v => v = .non
  | .bool b, v => v = .bl b
  | .int i, v => v = .int i
  | .str s, v => v = .str s
  | .list ds, v => ∃ a xs, v = .ref a ∧ S a ∧ H a = some (.lst xs) ∧ TrAll ds xs
  | .tuple ds, v => ∃ a xs, v = .ref a ∧ H a = some (.tup xs) ∧ TrAll ds xs
  | .dict ds, v => ∃ a kvs, v = .ref a ∧ H a = some (.dK kvs) ∧ (ds = [] → kvs = [])
def TrAll : List PyData → List V → Prop
  | [], xs => xs = []
  | d :: ds, xs => ∃ x r, xs = x :: r ∧ Tr d x ∧ TrAll ds r
end
end
/-- lists at M may have changed, nothing else that was tracked -/
def KpL (M : Addr → Prop) (H H' : Hp) : Prop := ∀ b o, (M b → ∀ xs, o ≠ .lst xs) → H b = some o → H' b = some o
section
variable {S S' M M' : Addr → Prop} {H H' H'' : Hp}
theorem KpL.refl : KpL M H H := fun _ _ _ h => h
theorem KpL.trans (a : KpL M H H') (b : KpL M H' H'') : KpL M H H'' := fun c o n h => b c o n (a c o n h)
theorem KpL.of (s : Same H H') : KpL M H H' := fun b o _ h => s b o h
theorem KpL.mono (k : KpL M H H') (h : ∀ a, M a → M' a) : KpL M' H H' := fun b o n e => k b o (fun m => n (h b m)) e
theorem KpL.at_ (k : KpL M H H') {b : Addr} {o : HO} (e : H b = some o) (n : ¬ M b) : H' b = some o := k b o (fun m => absurd m n) e
theorem KpL.tup (k : KpL M H H') {b : Addr} {xs : List V} (e : H b = some (.tup xs)) : H' b = some (.tup xs) := k b _ (fun _ _ z => nomatch z) e
theorem KpL.ins (k : KpL M H H') {b C dx : Addr} {xs : List (Str × V)} (e : H b = some (.ins C dx xs)) : H' b = some (.ins C dx xs) := k b _ (fun _ _ z => nomatch z) e
theorem KpL.put (k : KpL M H H') {p : Addr} {xs : List V} (hp : M p) (h : ∃ ys, H p = some (.lst ys)) : KpL M H (upd H' p (.lst xs)) := fun b o n e => by
  by_cases hb : b = p
  · subst hb
    obtain ⟨ys, h⟩ := h
    rw [h] at e
    cases e
    exact absurd rfl (n hp ys)
  · rw [upd_ne hb]
    exact k b o n e
theorem KpL.new {q : Addr} {o : HO} (k : KpL M H H') (n : H q = none) : KpL M H (upd H' q o) := fun b x m e => by
  rw [upd_ne (ne_of_none e n)]
  exact k b x m e
theorem KpL.kp {p : Addr} (k : Kp p H H') (hp : M p) (h : ∃ ys, H p = some (.lst ys)) : KpL M H H' := fun b o n e => by
  by_cases hb : b = p
  · subst hb
    obtain ⟨ys, h⟩ := h
    rw [h] at e
    cases e
    exact absurd rfl (n hp ys)
  · exact k b o hb e
/-- what is tracked stays tracked -/
theorem KpL.free {q : Addr} (k : KpL M H H') (hM : ∀ a, M a → ∃ ys, H' a = some (.lst ys)) (e : H' q = none) : H q = none := by
  cases h : H q with
  | none => rfl
  | some o =>
    by_cases m : M q
    · obtain ⟨ys, hy⟩ := hM q m
      rw [hy] at e
      cases e
    · rw [k.at_ h m] at e
      cases e
theorem KpL.same (k : KpL M H H') (hM : ∀ a, M a → H a = none) : Same H H' := fun b o e => k b o (fun m => by rw [hM b m] at e; cases e) e
mutual
theorem Tr.mono (h : ∀ a, S a → S' a) : ∀ (d : PyData) (v : V), Tr S H d v → Tr S' H d v
  | .none, v, e => e
  | .bool b, v, e => e
  | .int i, v, e => e
  | .str s, v, e => e
  | .list ds, v, ⟨a, xs, e, s, l, t⟩ => ⟨a, xs, e, h a s, l, TrAll.mono h ds xs t⟩
  | .tuple ds, v, ⟨a, xs, e, l, t⟩ => ⟨a, xs, e, l, TrAll.mono h ds xs t⟩
  | .dict _, v, e => e
theorem TrAll.mono (h : ∀ a, S a → S' a) : ∀ (ds : List PyData) (xs : List V), TrAll S H ds xs → TrAll S' H ds xs
  | [], xs, e => e
  | d :: ds, xs, ⟨x, r, e, t, q⟩ => ⟨x, r, e, Tr.mono h d x t, TrAll.mono h ds r q⟩
end
mutual
theorem Tr.kpl (k : KpL M H H') (h : ∀ a, S a → ¬ M a) : ∀ (d : PyData) (v : V), Tr S H d v → Tr S H' d v
  | .none, v, e => e
  | .bool b, v, e => e
  | .int i, v, e => e
  | .str s, v, e => e
  | .list ds, v, ⟨a, xs, e, s, l, t⟩ => ⟨a, xs, e, s, k.at_ l (h a s), TrAll.kpl k h ds xs t⟩
  | .tuple ds, v, ⟨a, xs, e, l, t⟩ => ⟨a, xs, e, k.tup l, TrAll.kpl k h ds xs t⟩
  | .dict _, v, ⟨a, kvs, e, l, z⟩ => ⟨a, kvs, e, k a _ (fun _ _ z => nomatch z) l, z⟩
theorem TrAll.kpl (k : KpL M H H') (h : ∀ a, S a → ¬ M a) : ∀ (ds : List PyData) (xs : List V), TrAll S H ds xs → TrAll S H' ds xs
  | [], xs, e => e
  | d :: ds, xs, ⟨x, r, e, t, q⟩ => ⟨x, r, e, Tr.kpl k h d x t, TrAll.kpl k h ds r q⟩
end
theorem Tr.same (s : Same H H') {d : PyData} {v : V} (t : Tr S H d v) : Tr S H' d v := Tr.kpl (M := fun _ => False) (KpL.of s) (fun _ _ h => h) d v t
theorem TrAll.same (s : Same H H') {ds : List PyData} {xs : List V} (t : TrAll S H ds xs) : TrAll S H' ds xs := TrAll.kpl (M := fun _ => False) (KpL.of s) (fun _ _ h => h) ds xs t
theorem TrAll.len : ∀ {ds : List PyData} {xs : List V}, TrAll S H ds xs → xs.length = ds.length
  | [], xs, e => by cases e; rfl
  | d :: ds, xs, ⟨x, r, e, _, q⟩ => by rw [e, List.length_cons, List.length_cons, q.len]
theorem TrAll.get : ∀ {ds : List PyData} {xs : List V} {i : Nat} {x : V}, TrAll S H ds xs → xs[i]? = some x → ∃ d, ds[i]? = some d ∧ Tr S H d x
  | [], xs, i, x, e, h => by cases e; simp at h
  | d :: ds, xs, 0, x, ⟨y, r, e, t, q⟩, h => by subst e; cases h; exact ⟨d, rfl, t⟩
  | d :: ds, xs, i + 1, x, ⟨y, r, e, t, q⟩, h => by subst e; exact q.get (i := i) h
theorem TrAll.get' : ∀ {ds : List PyData} {xs : List V} {i : Nat} {d : PyData}, TrAll S H ds xs → ds[i]? = some d → ∃ x, xs[i]? = some x ∧ Tr S H d x
  | [], xs, i, x, e, h => by simp at h
  | d :: ds, xs, 0, x, ⟨y, r, e, t, q⟩, h => by subst e; cases h; exact ⟨y, rfl, t⟩
  | d :: ds, xs, i + 1, x, ⟨y, r, e, t, q⟩, h => by subst e; exact q.get' (i := i) h
theorem TrAll.append : ∀ {ds es : List PyData} {xs ys : List V}, TrAll S H ds xs → TrAll S H es ys → TrAll S H (ds ++ es) (xs ++ ys)
  | [], es, xs, ys, e, t => by cases e; exact t
  | d :: ds, es, xs, ys, ⟨x, r, e, q, t⟩, u => by subst e; exact ⟨x, r ++ ys, rfl, q, TrAll.append t u⟩
theorem TrAll.nil : TrAll S H [] [] := rfl
theorem TrAll.one {d : PyData} {x : V} (t : Tr S H d x) : TrAll S H [d] [x] := ⟨x, [], rfl, t, rfl⟩
theorem TrAll.cons {d : PyData} {ds : List PyData} {x : V} {xs : List V} (t : Tr S H d x) (q : TrAll S H ds xs) : TrAll S H (d :: ds) (x :: xs) := ⟨x, xs, rfl, t, q⟩
theorem TrAll.snoc {ds : List PyData} {xs : List V} {d : PyData} {x : V} (q : TrAll S H ds xs) (t : Tr S H d x) : TrAll S H (ds ++ [d]) (xs ++ [x]) := q.append (TrAll.one t)
theorem TrAll.take : ∀ {ds : List PyData} {xs : List V} (n : Nat), TrAll S H ds xs → TrAll S H (ds.take n) (xs.take n)
  | [], xs, n, e => by cases e; simp [TrAll]
  | d :: ds, xs, 0, _ => by simp [TrAll]
  | d :: ds, xs, n + 1, ⟨x, r, e, t, q⟩ => by subst e; exact ⟨x, r.take n, rfl, t, q.take n⟩
theorem TrAll.drop : ∀ {ds : List PyData} {xs : List V} (n : Nat), TrAll S H ds xs → TrAll S H (ds.drop n) (xs.drop n)
  | [], xs, n, e => by cases e; simp [TrAll]
  | d :: ds, xs, 0, t => t
  | d :: ds, xs, n + 1, ⟨x, r, e, t, q⟩ => by subst e; exact q.drop n
theorem TrAll.ints : ∀ {ns : List Int} {us : List V}, TrAll S H (ns.map PyData.int) us → us = ns.map V.int
  | [], us, h => h
  | n :: r, us, ⟨x, q, e, t, h⟩ => by
    cases t
    rw [e, h.ints]
    rfl
theorem TrAll.ofInts : ∀ (ns : List Int), TrAll S H (ns.map PyData.int) (ns.map V.int)
  | [] => rfl
  | n :: r => ⟨_, _, rfl, rfl, TrAll.ofInts r⟩
mutual
theorem Tr.dp {K : PySem.W.Frag} : ∀ (d : PyData) (v : V), PyData.canLay0 d = true → Tr S H d v → Dp K H v d
  | .none, v, _, e => by cases e; exact .non
  | .bool b, v, _, e => by cases e; exact .bl b
  | .int i, v, _, e => by cases e; exact .int i
  | .str s, v, _, e => by cases e; exact .str s
  | .list ds, v, c, ⟨a, xs, e, s, l, t⟩ => by subst e; exact .lst (SqL.of l) (TrAll.dp ds xs (by simpa [PyData.canLay0] using c) t)
  | .tuple ds, v, c, ⟨a, xs, e, l, t⟩ => by subst e; exact .tup (SqT.of l) (TrAll.dp ds xs (by simpa [PyData.canLay0] using c) t)
  | .dict _, v, c, _ => by simp [PyData.canLay0] at c
theorem TrAll.dp {K : PySem.W.Frag} : ∀ (ds : List PyData) (xs : List V), PyData.canLayAll0 ds = true → TrAll S H ds xs → DpAll K H xs ds
  | [], xs, _, e => by cases e; exact .nil
  | d :: ds, xs, c, ⟨x, r, e, t, q⟩ => by
    have c : d.canLay0 = true ∧ PyData.canLayAll0 ds = true := by simpa [PyData.canLayAll0] using c
    subst e
    exact .cons (Tr.dp d x c.1 t) (TrAll.dp ds r c.2 q)
end
end
/-- new since H -/
abbrev New (H : Hp) : Addr → Prop := fun a => H a = none
/-! ### a new list of new data under construction -/
def Bld (H1 : Hp) (D : Addr) (ds : List PyData) (H' : Hp) : Prop := Same H1 H' ∧ ∃ zs, H' D = some (.lst zs) ∧ TrAll (fun a => H1 a = none ∧ a ≠ D) H' ds zs
section
variable {H1 H' H2 : Hp} {D : Addr} {ds : List PyData}
theorem Bld.nil (h : H1 D = none) : Bld H1 D [] (upd H1 D (.lst [])) := ⟨same_upd h, [], upd_same, TrAll.nil⟩
theorem Bld.push {d : PyData} {r : V} (m : Bld H1 D ds H') (nD : H1 D = none) (s : Same H' H2) (t : Tr (New H') H2 d r) : ∃ zs, H2 D = some (.lst zs) ∧ zs.length = ds.length ∧ Bld H1 D (ds ++ [d]) (upd H2 D (.lst (zs ++ [r]))) := by
  obtain ⟨sm, zs, hD, tz⟩ := m
  have k2 : KpL (fun a => a = D) H2 (upd H2 D (.lst (zs ++ [r]))) := KpL.refl.put rfl ⟨zs, s _ _ hD⟩
  refine ⟨zs, s _ _ hD, tz.len, same_new (sm.trans s) nD, zs ++ [r], upd_same, TrAll.snoc ?_ ?_⟩
  · exact TrAll.kpl k2 (fun a na e => na.2 e) _ _ (tz.same s)
  · refine Tr.kpl k2 (fun a na e => na.2 e) _ _ (Tr.mono (fun a na => ⟨sm.free na, fun e => ?_⟩) _ _ t)
    have na : H' a = none := na
    rw [e, hD] at na
    cases na
theorem Bld.done (m : Bld H1 D ds H') (nD : H1 D = none) : Tr (New H1) H' (.list ds) (.ref D) := by
  obtain ⟨sm, zs, hD, tz⟩ := m
  exact ⟨D, zs, rfl, nD, hD, TrAll.mono (fun a na => na.1) _ _ tz⟩
theorem Bld.len (m : Bld H1 D ds H') : ∃ zs, H' D = some (.lst zs) ∧ zs.length = ds.length := ⟨_, m.2.choose_spec.1, m.2.choose_spec.2.len⟩
end
theorem Tr.newer {H0 H1 H2 : Hp} {d : PyData} {v : V} (s : Same H0 H1) (t : Tr (New H1) H2 d v) : Tr (New H0) H2 d v := Tr.mono (fun _ n => s.free n) _ _ t
theorem TrAll.newer {H0 H1 H2 : Hp} {d : List PyData} {v : List V} (s : Same H0 H1) (t : TrAll (New H1) H2 d v) : TrAll (New H0) H2 d v := TrAll.mono (fun _ n => s.free n) _ _ t
section
variable {S : Addr → Prop} {H H' : Hp}
mutual
theorem Tr.keep (k : ∀ b o, ((∃ xs, o = .lst xs) ∧ S b ∨ (∃ xs, o = .tup xs) ∨ ∃ xs, o = .dK xs) → H b = some o → H' b = some o) : ∀ (d : PyData) (v : V), Tr S H d v → Tr S H' d v
  | .none, v, e => e
  | .bool b, v, e => e
  | .int i, v, e => e
  | .str s, v, e => e
  | .list ds, v, ⟨a, xs, e, s, l, t⟩ => ⟨a, xs, e, s, k a _ (.inl ⟨⟨_, rfl⟩, s⟩) l, TrAll.keep k ds xs t⟩
  | .tuple ds, v, ⟨a, xs, e, l, t⟩ => ⟨a, xs, e, k a _ (.inr (.inl ⟨_, rfl⟩)) l, TrAll.keep k ds xs t⟩
  | .dict _, v, ⟨a, kvs, e, l, z⟩ => ⟨a, kvs, e, k a _ (.inr (.inr ⟨_, rfl⟩)) l, z⟩
theorem TrAll.keep (k : ∀ b o, ((∃ xs, o = .lst xs) ∧ S b ∨ (∃ xs, o = .tup xs) ∨ ∃ xs, o = .dK xs) → H b = some o → H' b = some o) : ∀ (ds : List PyData) (xs : List V), TrAll S H ds xs → TrAll S H' ds xs
  | [], xs, e => e
  | d :: ds, xs, ⟨x, r, e, t, q⟩ => ⟨x, r, e, Tr.keep k d x t, TrAll.keep k ds r q⟩
end
/-- an object's attributes are stored to -/
theorem Tr.put {p C dx : Addr} {fs gs : List (Str × V)} {d : PyData} {v : V} (h : H p = some (.ins C dx fs)) (t : Tr S H d v) : Tr S (upd H p (.ins C dx gs)) d v :=
  Tr.keep (fun b o n e => by
    by_cases hb : b = p
    · subst hb
      rw [h] at e
      cases e
      rcases n with ⟨⟨_, n⟩, _⟩ | ⟨_, n⟩ | ⟨_, n⟩ <;> cases n
    · rw [upd_ne hb]
      exact e) d v t
end
theorem Tr.lst {S : Addr → Prop} {H : Hp} {ds : List PyData} {a : Addr} (t : Tr S H (.list ds) (.ref a)) : ∃ xs, S a ∧ H a = some (.lst xs) ∧ TrAll S H ds xs := by
  obtain ⟨b, xs, e, h⟩ := t
  cases e
  exact ⟨xs, h⟩
theorem Tr.tup {S : Addr → Prop} {H : Hp} {ds : List PyData} {a : Addr} (t : Tr S H (.tuple ds) (.ref a)) : ∃ xs, H a = some (.tup xs) ∧ TrAll S H ds xs := by
  obtain ⟨b, xs, e, h⟩ := t
  cases e
  exact ⟨xs, h⟩
section
variable {S : Addr → Prop} {H : Hp}
mutual
theorem Tr.tracked : ∀ (d : PyData) (v : V), Tr S H d v → Tr (fun a => S a ∧ H a ≠ none) H d v
  | .none, v, e => e
  | .bool b, v, e => e
  | .int i, v, e => e
  | .str s, v, e => e
  | .list ds, v, ⟨a, xs, e, s, l, t⟩ => ⟨a, xs, e, ⟨s, by rw [l]; exact fun z => nomatch z⟩, l, TrAll.tracked ds xs t⟩
  | .tuple ds, v, ⟨a, xs, e, l, t⟩ => ⟨a, xs, e, l, TrAll.tracked ds xs t⟩
  | .dict _, v, e => e
theorem TrAll.tracked : ∀ (ds : List PyData) (xs : List V), TrAll S H ds xs → TrAll (fun a => S a ∧ H a ≠ none) H ds xs
  | [], xs, e => e
  | d :: ds, xs, ⟨x, r, e, t, q⟩ => ⟨x, r, e, Tr.tracked d x t, TrAll.tracked ds r q⟩
end
end

/-! ### of what class a value is -/
def clsN : PyData → String
  | .none => "NoneType" | .bool _ => "bool" | .int _ => "int" | .str _ => "str" | .list _ => "list" | .tuple _ => "tuple" | .dict _ => "dict"
section
variable {S : Addr → Prop} {H : Hp} {d : PyData} {v : V} {Q : VK}
theorem tr_ty (K : PySem.W.Frag) : ∀ {d : PyData} {v : V}, Tr S H d v → TyX K H v (.type (clsN d))
  | .none, v, e => by cases e; exact .base .non
  | .bool b, v, e => by cases e; exact .base (.bl b)
  | .int b, v, e => by cases e; exact .base (.int b)
  | .str b, v, e => by cases e; exact .base (.str b)
  | .list _, v, ⟨a, xs, e, _, l, _⟩ => by cases e; exact .base (.lst l)
  | .tuple _, v, ⟨a, xs, e, l, _⟩ => by cases e; exact .base (.tup l)
  | .dict _, v, ⟨a, xs, e, l, _⟩ => by cases e; exact .base (.dK l)
def isNum : PyData → Bool
  | .int _ => true
  | .bool _ => true
  | _ => false
def isStr : PyData → Bool
  | .str _ => true
  | _ => false
variable (K : PySem.W.Frag)
theorem ki_int (d : PyData) : PySem.W.kitOne K (.type (clsN d)) (.type "int") = some (isNum d) := by cases d <;> (simp only [clsN, isNum, isBl, isStr, isLs, isTp]; exact kit_ty (by decide +kernel))
theorem ki_bool (d : PyData) : PySem.W.kitOne K (.type (clsN d)) (.type "bool") = some (isBl d) := by cases d <;> (simp only [clsN, isNum, isBl, isStr, isLs, isTp]; exact kit_ty (by decide +kernel))
theorem ki_str (d : PyData) : PySem.W.kitOne K (.type (clsN d)) (.type "str") = some (isStr d) := by cases d <;> (simp only [clsN, isNum, isBl, isStr, isLs, isTp]; exact kit_ty (by decide +kernel))
theorem ki_list (d : PyData) : PySem.W.kitOne K (.type (clsN d)) (.type "list") = some (isLs d) := by cases d <;> (simp only [clsN, isNum, isBl, isStr, isLs, isTp]; exact kit_ty (by decide +kernel))
theorem ki_tuple (d : PyData) : PySem.W.kitOne K (.type (clsN d)) (.type "tuple") = some (isTp d) := by cases d <;> (simp only [clsN, isNum, isBl, isStr, isLs, isTp]; exact kit_ty (by decide +kernel))
end
theorem ifTrue {A B : Prop} {b : Bool} (h : b = true) (q : A) : if b = true then A else B := by rw [if_pos h]; exact q
theorem ifFalse {A B : Prop} {b : Bool} (h : b = false) (q : B) : if b = true then A else B := by rw [if_neg (by rw [h]; exact Bool.false_ne_true)]; exact q
theorem ifB {A B : Prop} {b : Bool} (h1 : b = true → A) (h2 : b = false → B) : if b = true then A else B := by
  cases b
  · exact ifFalse rfl (h2 rfl)
  · exact ifTrue rfl (h1 rfl)

/-! ### x in (a, b, ..), data of any depth; slices of tuples -/
theorem hu65 {A : Around} {k : Nat} (hr : Room k A) : A.units + 65 < cLine := by
  have := hr.un
  omega
def rInDT (K : PySem.W.Frag) : R2 := fun x y H Q => ∃ d ds, Dp K H x d ∧ Dp K H y (.tuple ds) ∧ SeqAt.shaped d = true ∧ SeqAt.shaped (.tuple ds) = true ∧ Q (.bl (ds.any fun z => PyData.eqv z d)) H
theorem op_inDT {X : Cx} (hu : X.A.units + 65 < cLine) : OpR X (compareOp .In) (rInDT X.K) := by
  intro pins s σ H x y v u Q I rx ry h
  obtain ⟨d, ds, hd, he, sd, se, q⟩ := h
  obtain ⟨as, r1⟩ := Dp.reads I d x v hd rx
  obtain ⟨bs, r2⟩ := Dp.reads I (.tuple ds) y u he ry
  exact SeqAt.in_tuple_reads r2 r1 (SeqAt.canLay_of_shaped se) (SeqAt.canLay_of_shaped sd) (room_in_shaped sd hu) ⟨.bl _, H, I, rfl, q⟩
section
variable (K : PySem.W.Frag) {X : Cx}
theorem k_inDT (hu : X.A.units + 65 < cLine) (hK : X.K = K := by rfl) : OpR X (compareOp .In) (rInDT K) := hK ▸ op_inDT hu
theorem k_inD (hu : X.A.units + 65 < cLine) (hK : X.K = K := by rfl) : OpR X (compareOp .In) (rInD K) := hK ▸ op_inD hu
theorem k_eqD (hu : X.A.units + 64 < cLine) (hK : X.K = K := by rfl) : OpR X (compareOp .Eq) (rEqD K) := hK ▸ op_eqD hu
theorem k_neD (hu : X.A.units + 64 < cLine) (hK : X.K = K := by rfl) : OpR X (compareOp .NotEq) (rNeD K) := hK ▸ op_neD hu
theorem k_catT (hK : X.K = K := by rfl) : OpR X (binaryOp .Add) (rCatT K) := hK ▸ op_catT
end
theorem cut_from1 {x : V} {xs : List V} : cutV (x :: xs) (some 1) none = xs := by
  unfold cutV
  rw [HT.sIx_none, show HT.sIx (x :: xs).length 0 (some 1) = min 1 (x :: xs).length from HT.sIx_nat _ _ 1, List.length_cons, show min 1 (xs.length + 1) = 1 by omega, List.drop_one, List.tail_cons, Nat.add_sub_cancel, List.take_length]
theorem cut_ne1 {x : V} {xs : List V} : ¬ (HT.sIx (x :: xs).length 0 (some 1) = 0 ∧ HT.sIx (x :: xs).length (x :: xs).length none = (x :: xs).length) := by
  rw [show HT.sIx (x :: xs).length 0 (some 1) = min 1 (x :: xs).length from HT.sIx_nat _ _ 1, List.length_cons]
  omega
theorem cut_to {xs : List V} {n : Nat} : cutV xs none (some (n : Int)) = xs.take n := by
  unfold cutV
  rw [HT.sIx_none, HT.sIx_nat, List.drop_zero, Nat.sub_zero, ← List.take_take]
  rw [List.take_length]
theorem cut_ne {xs : List V} {n : Nat} (h : n < xs.length) : ¬ (HT.sIx xs.length 0 none = 0 ∧ HT.sIx xs.length xs.length (some (n : Int)) = xs.length) := by
  rw [HT.sIx_nat]
  omega
theorem cut_from {xs : List V} {n : Nat} : cutV xs (some (n : Int)) none = xs.drop n := by
  unfold cutV
  rw [HT.sIx_none, HT.sIx_nat]
  by_cases h : n ≤ xs.length
  · rw [show min n xs.length = n by omega]
    exact List.take_of_length_le (by rw [List.length_drop]; exact Nat.le_refl _)
  · rw [show min n xs.length = xs.length by omega, List.drop_of_length_le (Nat.le_refl _), List.drop_of_length_le (by omega), List.take_nil]
theorem canOf {d : PyData} (h : SeqAt.shaped d = true) : d.canLay0 = true := SeqAt.canLay_of_shaped h
theorem sh_str {s : Str} (h : PyData.strOk s = true) : SeqAt.shaped (.str s) = true := by simp [SeqAt.shaped, PyData.canLay0, PyData.depth, h]
theorem sh_strs {ss : List Str} (h : ∀ s ∈ ss, PyData.strOk s = true) : SeqAt.shaped (.tuple (ss.map PyData.str)) = true := by
  have hb : ∀ ss : List Str, (∀ s ∈ ss, PyData.strOk s = true) → PyData.canLayAll0 (ss.map PyData.str) = true ∧ PyData.depthAll (ss.map PyData.str) = 0 := by
    intro ss
    induction ss with
    | nil => intro _; simp [PyData.canLayAll0, PyData.depthAll]
    | cons s r ih =>
      intro h
      have ih := ih fun x hx => h x (List.mem_cons_of_mem _ hx)
      simp [PyData.canLayAll0, PyData.canLay0, PyData.depthAll, PyData.depth, ih.1, ih.2, h s List.mem_cons_self]
  simp [SeqAt.shaped, PyData.canLay0, PyData.depth, (hb ss h).1, (hb ss h).2]
theorem dp_strs {K : PySem.W.Frag} {H : Hp} : ∀ ss : List Str, DpAll K H (ss.map V.str) (ss.map PyData.str)
  | [] => .nil
  | s :: r => .cons (.str s) (dp_strs r)

theorem dec_int {a b : Int} (h : ¬ decide (V.int a = V.int b) = true) : a ≠ b := fun e => h (by rw [e]; exact decide_eq_true rfl)
theorem dec_int' {a b : Int} (h : decide (V.int a = V.int b) = true) : a = b := V.int.inj (of_decide_eq_true h)
theorem eqv_strC (s : Str) (x : PyData) : PyData.eqv (.str s) x = PyData.eqv x (.str s) := by
  cases x with
  | str t =>
    rw [PyData.eqv, PyData.eqv]
    by_cases h : s = t
    · subst h
      rfl
    · have h2 : ¬ t = s := fun e => h e.symm
      exact Eq.trans (beq_eq_false_iff_ne.mpr h) (beq_eq_false_iff_ne.mpr h2).symm
  | _ => simp [PyData.eqv]

theorem iteN {c A B : Prop} [Decidable c] (hc : ¬ c) (h : B) : if decide c = true then A else B := by
  rw [if_neg (by rw [decide_eq_false hc]; exact Bool.false_ne_true)]
  exact h
theorem iteNN {c A B : Prop} [Decidable c] (hc : ¬ c) (h : A) : if (!decide c) = true then A else B := by
  rw [if_pos (by rw [decide_eq_false hc]; rfl)]
  exact h

/-! ### the names of a comprehension -/
theorem wipe_get : ∀ (vs : List Nat) (σ : L2.St) (j : Nat), (wipe σ vs)[j]? = if j ∈ vs then (σ[j]?).map (fun _ => none) else σ[j]?
  | [], σ, j => by simp [wipe]
  | v :: r, σ, j => by
    rw [wipe, List.getElem?_set]
    have ih := wipe_get r σ j
    have hl := wipe_length σ r
    by_cases h : v = j
    · subst h
      rw [if_pos rfl, if_pos List.mem_cons_self]
      by_cases h2 : v < (wipe σ r).length
      · rw [if_pos h2, List.getElem?_eq_getElem (by omega)]
        rfl
      · rw [if_neg h2, List.getElem?_eq_none (by omega)]
        rfl
    · rw [if_neg h, ih]
      by_cases h3 : j ∈ r
      · rw [if_pos h3, if_pos (List.mem_cons_of_mem _ h3)]
      · rw [if_neg h3, if_neg (fun z => (List.mem_cons.mp z).elim (fun z => h z.symm) h3)]
theorem wipe_set {vs : List Nat} {σ : L2.St} {i : Nat} {x : Option V} (h : i ∈ vs) : wipe (σ.set i x) vs = wipe σ vs := by
  refine List.ext_getElem? fun j => ?_
  rw [wipe_get, wipe_get]
  by_cases hj : j ∈ vs
  · rw [if_pos hj, if_pos hj, List.getElem?_set]
    by_cases e : i = j
    · subst e
      rw [if_pos rfl]
      by_cases hl : i < σ.length
      · rw [if_pos hl, List.getElem?_eq_getElem hl]
        rfl
      · rw [if_neg hl, List.getElem?_eq_none (by omega)]
    · rw [if_neg e]
  · rw [if_neg hj, if_neg hj, List.getElem?_set_ne (fun e => hj (by rw [← e]; exact h))]
theorem wipe_wipe {vs : List Nat} {σ : L2.St} : wipe (wipe σ vs) vs = wipe σ vs := by
  refine List.ext_getElem? fun j => ?_
  rw [wipe_get, wipe_get]
  by_cases hj : j ∈ vs
  · rw [if_pos hj, if_pos hj]
    cases σ[j]? <;> rfl
  · rw [if_neg hj, if_neg hj]
theorem wipe7 {vs : List Nat} {σ : L2.St} {a b c d e f g : Nat} {x0 x1 x2 x3 x4 x5 x6 : Option V} (h : a ∈ vs ∧ b ∈ vs ∧ c ∈ vs ∧ d ∈ vs ∧ e ∈ vs ∧ f ∈ vs ∧ g ∈ vs) :
    wipe (((((((((wipe σ vs).set a x0).set b x1).set c x2).set d x3).set e x4).set f x5).set g x6)) vs = wipe σ vs := by
  obtain ⟨h0, h1, h2, h3, h4, h5, h6⟩ := h
  rw [wipe_set h6, wipe_set h5, wipe_set h4, wipe_set h3, wipe_set h2, wipe_set h1, wipe_set h0, wipe_wipe]
theorem at_slots {te : TE} {σ σ' : L2.St} {H : Hp} {K : VK} {N : Hp → Prop} (e : σ = σ') (q : te σ' H K) : tYes σ H fun b H3 => if b = true then te σ H3 K else N H3 := by
  subst e
  exact q

/-! ## readings without a heap: what a name holds is data -/
theorem pe_weak {X : Cx} {e : Expr} {t t' : TE} (h : PE X e t) (w : ∀ σ H Q, t' σ H Q → t σ H Q) : PE X e t' := ⟨fun pins s σ H Q I q => h.run pins s σ H Q I (w _ _ _ q)⟩
theorem pt_weak {X : Cx} {e : Expr} {t t' : TT} (h : PT X e t) (w : ∀ σ H Q, t' σ H Q → t σ H Q) : PT X e t' := ⟨fun pins s σ H Q I q => h.run pins s σ H Q I (w _ _ _ q)⟩
theorem pw_weak {X : Cx} {e : Expr} {t t' : TT} (h : PW X e t) (w : ∀ σ H Q, t' σ H Q → t σ H Q) : PW X e t' := ⟨fun wh pins s σ H Q I q => h.run wh pins s σ H Q I (w _ _ _ q)⟩
theorem pa_weak {X : Cx} {e : List Expr} {t t' : TA} (h : PA X e t) (w : ∀ σ H Q, t' σ H Q → t σ H Q) : PA X e t' := ⟨fun pos pins s σ H Q I q => h.run pos pins s σ H Q I (w _ _ _ q)⟩
theorem ps_weak {X : Cx} {e : Stmt} {t t' : TS} (h : PS X e t) (w : ∀ D σ H, t' D σ H → t D σ H) : PS X e t' := ⟨fun pins s σ H D I q => h.run pins s σ H D I (w _ _ _ q)⟩
theorem pss_weak {X : Cx} {e : List Stmt} {t t' : TS} (h : PSs X e t) (w : ∀ D σ H, t' D σ H → t D σ H) : PSs X e t' := ⟨fun pins s σ H D I q => h.run pins s σ H D I (w _ _ _ q)⟩
theorem pg_weak {X : Cx} {e : Expr} {t t' : TG} (h : PG X e t) (w : ∀ v σ H Q, t' v σ H Q → t v σ H Q) : PG X e t' := ⟨fun pins s σ H v u Q I r q => h.run pins s σ H v u Q I r (w _ _ _ _ q)⟩
theorem pts_weak {X : Cx} {e : List Expr} {t t' : TT} (h : PTs X e t) (w : ∀ σ H Q, t' σ H Q → t σ H Q) : PTs X e t' := ⟨fun pins s σ H Q I q => h.run pins s σ H Q I (w _ _ _ q)⟩
/-- d: data, its lists at S; v: this very value; o: a list of the def's own -/
inductive Av where
  | d (x : PyData)
  | v (x : V)
  | o (ds : List PyData)
abbrev DEnv := List (Option Av)
structure DC where
  M : Addr → Prop
  W : Hp → Prop
  S0 : Addr → Prop
  H0 : Hp
  stab : ∀ H H', (∀ b o, H0 b ≠ none → H b = some o → H' b = some o) → W H → W H'
  lst : ∀ H a, W H → M a → ∃ xs, H a = some (.lst xs)
  w0 : W H0
  sm0 : ∀ a, S0 a → ¬ M a
def AvR (c : DC) (S : Addr → Prop) (H : Hp) : Av → V → Prop
  | .d x, v => Tr S H x v
  | .v y, v => v = y
  | .o ds, v => ∃ D xs, v = .ref D ∧ H D = some (.lst xs) ∧ TrAll S H ds xs ∧ c.H0 D = none ∧ ¬ S D
def AvsR (c : DC) (S : Addr → Prop) (H : Hp) : List Av → List V → Prop
  | [], vs => vs = []
  | a :: r, vs => ∃ v us, vs = v :: us ∧ AvR c S H a v ∧ AvsR c S H r us
structure DH (c : DC) (S : Addr → Prop) (H : Hp) : Prop where
  w : c.W H
  k : KpL c.M c.H0 H
  sub : ∀ a, S a → c.S0 a ∨ c.H0 a = none
  trk : ∀ a, S a → H a ≠ none
structure Step (c : DC) (S : Addr → Prop) (H : Hp) (S' : Addr → Prop) (H' : Hp) : Prop where
  inc : ∀ a, S a → S' a
  k : KpL c.M H H'
  new : ∀ a, S' a → S a ∨ (H a = none ∧ H' a ≠ none)
/-- what a loop walks -/
inductive Gh where
  | l (a : Addr) (vs : List V) (ds : List PyData)
  | t (a : Addr) (vs : List V) (ds : List PyData)
def GhR (S : Addr → Prop) (H : Hp) : Gh → Prop
  | .l a vs ds => S a ∧ H a = some (.lst vs) ∧ TrAll S H ds vs
  | .t a vs ds => H a = some (.tup vs) ∧ TrAll S H ds vs
structure DInv (c : DC) (S : Addr → Prop) (γ : List Gh) (ρ : DEnv) (σ : L2.St) (H : Hp) : Prop where
  h : DH c S H
  gh : ∀ g ∈ γ, GhR S H g
  len : ρ.length = σ.length
  ent : ∀ (i : Nat) (av : Av), ρ[i]? = some (some av) → ∃ v, σ[i]? = some (some v) ∧ AvR c S H av v
  sep : ∀ (i j : Nat) (ds es : List PyData) (a : Addr), ρ[i]? = some (some (.o ds)) → ρ[j]? = some (some (.o es)) → σ[i]? = some (some (.ref a)) → σ[j]? = some (some (.ref a)) → i = j
section
variable {c : DC} {S S' S'' : Addr → Prop} {H H' H'' : Hp} {γ : List Gh} {ρ : DEnv} {σ : L2.St}
theorem DC.new (c : DC) {a : Addr} (e : c.H0 a = none) : ¬ c.M a := fun m => by
  obtain ⟨xs, h⟩ := c.lst _ a c.w0 m
  rw [e] at h
  cases h
theorem DC.same (c : DC) (s : Same H H') (w : c.W H) : c.W H' := c.stab H H' (fun b o _ e => s b o e) w
theorem DC.fwd (c : DC) (w : c.W H') (k : KpL c.M H H') {a : Addr} (h : H a ≠ none) : H' a ≠ none := fun e => by
  by_cases m : c.M a
  · obtain ⟨xs, z⟩ := c.lst _ a w m
    rw [e] at z
    cases z
  · cases z : H a with
    | none => exact h z
    | some o =>
      rw [k.at_ z m] at e
      cases e
theorem DC.back (c : DC) (w : c.W H') (k : KpL c.M H H') {a : Addr} (e : H' a = none) : H a = none := k.free (fun a m => c.lst _ a w m) e
theorem DH.free (h : DH c S H) {a : Addr} (e : H a = none) : c.H0 a = none := c.back h.w h.k e
theorem DH.notM (h : DH c S H) {a : Addr} (s : S a) : ¬ c.M a := fun m => (h.sub a s).elim (fun z => c.sm0 a z m) fun z => c.new z m
theorem Step.refl : Step c S H S H := ⟨fun _ h => h, KpL.refl, fun _ h => .inl h⟩
theorem Step.trans (a : Step c S H S' H') (w : c.W H') (w2 : c.W H'') (b : Step c S' H' S'' H'') : Step c S H S'' H'' :=
  ⟨fun x h => b.inc x (a.inc x h), a.k.trans b.k, fun x h => (b.new x h).elim (fun z => (a.new x z).elim .inl fun e => .inr ⟨e.1, c.fwd w2 b.k e.2⟩) fun e => .inr ⟨c.back w a.k e.1, e.2⟩⟩
theorem Step.same (s : Same H H') : Step c S H S H' := ⟨fun _ h => h, KpL.of s, fun _ h => .inl h⟩
theorem AvR.step (h : DH c S H) (st : Step c S H S' H') : ∀ {av : Av} {v : V}, AvR c S H av v → AvR c S' H' av v
  | .d x, v, r => Tr.mono st.inc _ _ (Tr.kpl st.k (fun _ s => h.notM s) _ _ r)
  | .v y, v, r => r
  | .o ds, v, ⟨D, xs, e, l, t, n, ns⟩ => ⟨D, xs, e, st.k.at_ l (c.new n), TrAll.mono st.inc _ _ (TrAll.kpl st.k (fun _ s => h.notM s) _ _ t), n, fun s => (st.new D s).elim ns fun z => by have z := z.1; rw [l] at z; cases z⟩
theorem AvsR.step (h : DH c S H) (st : Step c S H S' H') : ∀ {avs : List Av} {vs : List V}, AvsR c S H avs vs → AvsR c S' H' avs vs
  | [], _, e => e
  | a :: r, _, ⟨v, us, e, t, q⟩ => ⟨v, us, e, t.step h st, AvsR.step h st q⟩
theorem GhR.step (h : DH c S H) (st : Step c S H S' H') : ∀ {g : Gh}, GhR S H g → GhR S' H' g
  | .l a vs ds, ⟨s, e, t⟩ => ⟨st.inc _ s, st.k.at_ e (h.notM s), TrAll.mono st.inc _ _ (TrAll.kpl st.k (fun _ s => h.notM s) _ _ t)⟩
  | .t a vs ds, ⟨e, t⟩ => ⟨st.k.tup e, TrAll.mono st.inc _ _ (TrAll.kpl st.k (fun _ s => h.notM s) _ _ t)⟩
theorem DH.step (h : DH c S H) (st : Step c S H S' H') (w : c.W H') : DH c S' H' :=
  ⟨w, h.k.trans st.k, fun a s => (st.new a s).elim (h.sub a) fun e => .inr (h.free e.1), fun a s => (st.new a s).elim (fun z => c.fwd w st.k (h.trk a z)) fun e => e.2⟩
theorem DInv.step (I : DInv c S γ ρ σ H) (st : Step c S H S' H') (w : c.W H') : DInv c S' γ ρ σ H' :=
  ⟨I.h.step st w, fun g m => (I.gh g m).step I.h st, I.len, fun i av e => by obtain ⟨v, h1, h2⟩ := I.ent i av e; exact ⟨v, h1, h2.step I.h st⟩, I.sep⟩
theorem DInv.same (I : DInv c S γ ρ σ H) (s : Same H H') : DInv c S γ ρ σ H' := I.step (Step.same s) (c.same s I.h.w)
/-- a new object -/
theorem Step.newL {p : Addr} {o : HO} (n : H p = none) : Step c S H (fun a => S a ∨ a = p) (upd H p o) :=
  ⟨fun _ h => .inl h, KpL.of (same_upd n), fun a h => h.elim .inl fun e => .inr ⟨e ▸ n, by rw [e, upd_same]; exact fun z => nomatch z⟩⟩
theorem DInv.newO (I : DInv c S γ ρ σ H) {p : Addr} {o : HO} (n : H p = none) : DInv c S γ ρ σ (upd H p o) := I.same (same_upd n)
theorem DInv.newL (I : DInv c S γ ρ σ H) {p : Addr} {o : HO} (n : H p = none) : DInv c (fun a => S a ∨ a = p) γ ρ σ (upd H p o) := I.step (Step.newL n) (c.same (same_upd n) I.h.w)
theorem AvsR.len : ∀ {avs : List Av} {vs : List V}, AvsR c S H avs vs → vs.length = avs.length
  | [], _, e => by cases e; rfl
  | a :: r, _, ⟨v, us, e, _, q⟩ => by subst e; rw [List.length_cons, List.length_cons, q.len]
theorem AvsR.all : ∀ {ds : List PyData} {vs : List V}, AvsR c S H (ds.map Av.d) vs → TrAll S H ds vs
  | [], _, e => e
  | d :: r, _, ⟨v, us, e, t, q⟩ => ⟨v, us, e, t, q.all⟩
theorem DInv.put (I : DInv c S γ ρ σ H) (i : Nat) {av : Av} {v : V} (hi : i < ρ.length) (r : AvR c S H av v) (hs : ∀ ds, av = .o ds → ∀ j es a, j ≠ i → ρ[j]? = some (some (.o es)) → σ[j]? = some (some (.ref a)) → v ≠ .ref a) : DInv c S γ (ρ.set i (some av)) (σ.set i (some v)) H := by
  have hi2 : i < σ.length := I.len ▸ hi
  refine ⟨I.h, I.gh, by rw [List.length_set, List.length_set]; exact I.len, fun j a e => ?_, fun j k ds es a e1 e2 e3 e4 => ?_⟩
  · by_cases h : i = j
    · subst h
      rw [List.getElem?_set_self hi] at e
      cases e
      exact ⟨v, List.getElem?_set_self hi2, r⟩
    · rw [List.getElem?_set_ne h] at e ⊢
      exact I.ent j a e
  · by_cases h : i = j
    · by_cases h2 : i = k
      · omega
      · subst h
        rw [List.getElem?_set_self hi] at e1
        rw [List.getElem?_set_self hi2] at e3
        rw [List.getElem?_set_ne h2] at e2 e4
        cases e1
        cases e3
        exact absurd rfl (hs _ rfl k es a (fun e => h2 e.symm) e2 e4)
    · rw [List.getElem?_set_ne h] at e1 e3
      by_cases h2 : i = k
      · subst h2
        rw [List.getElem?_set_self hi] at e2
        rw [List.getElem?_set_self hi2] at e4
        cases e2
        cases e4
        exact absurd rfl (hs _ rfl j ds a (fun e => h e.symm) e1 e3)
      · rw [List.getElem?_set_ne h2] at e2 e4
        exact I.sep j k ds es a e1 e2 e3 e4
/-- an own list is changed -/
theorem DInv.chg (I : DInv c S γ ρ σ H) {i : Nat} {ds es : List PyData} {D : Addr} {ys : List V} (hi : ρ[i]? = some (some (.o ds))) (hs : σ[i]? = some (some (.ref D))) (t : TrAll S H es ys) :
    DInv c S γ (ρ.set i (some (.o es))) σ (upd H D (.lst ys)) := by
  obtain ⟨v, h1, D', xs, e, l, _, n, ns⟩ := I.ent i _ hi
  rw [hs] at h1
  cases h1
  cases e
  have k2 : KpL (fun a => a = D) H (upd H D (.lst ys)) := KpL.refl.put rfl ⟨_, l⟩
  have no : ∀ a, S a → ¬ a = D := fun a s e => ns (e ▸ s)
  have hl := (List.getElem?_eq_some_iff.mp hi).1
  refine ⟨⟨c.stab H _ (fun b o nb e => ?_) I.h.w, I.h.k.new n, I.h.sub, fun a s => by rw [upd_ne (no a s)]; exact I.h.trk a s⟩, fun g m => ?_, by rw [List.length_set]; exact I.len, fun j a e => ?_, fun j k ds1 es1 a e1 e2 e3 e4 => ?_⟩
  · rw [upd_ne (fun z => nb (by rw [z]; exact n))]
    exact e
  · have h := I.gh g m
    cases g with
    | l a vs ds => exact ⟨h.1, k2.at_ h.2.1 (no _ h.1), TrAll.kpl k2 no _ _ h.2.2⟩
    | t a vs ds => exact ⟨k2.tup h.1, TrAll.kpl k2 no _ _ h.2⟩
  · by_cases h : i = j
    · subst h
      rw [List.getElem?_set_self hl] at e
      cases e
      exact ⟨_, hs, D, ys, rfl, upd_same, TrAll.kpl k2 no _ _ t, n, ns⟩
    · rw [List.getElem?_set_ne h] at e
      obtain ⟨v, h1, h2⟩ := I.ent j a e
      refine ⟨v, h1, ?_⟩
      cases a with
      | d x => exact Tr.kpl k2 no _ _ h2
      | v x => exact h2
      | o xs =>
        obtain ⟨D2, zs, e', l2, t2, n2, ns2⟩ := h2
        subst e'
        exact ⟨D2, zs, rfl, k2.at_ l2 (fun z => h (I.sep i j _ _ D hi e hs (z ▸ h1))), TrAll.kpl k2 no _ _ t2, n2, ns2⟩
  · have fix : ∀ {m : Nat} {ds1 : List PyData}, (ρ.set i (some (.o es)))[m]? = some (some (.o ds1)) → ∃ ds2, ρ[m]? = some (some (.o ds2)) := fun {m ds1} e => by
      by_cases h : i = m
      · subst h
        exact ⟨_, hi⟩
      · rw [List.getElem?_set_ne h] at e
        exact ⟨_, e⟩
    obtain ⟨d1, f1⟩ := fix e1
    obtain ⟨d2, f2⟩ := fix e2
    exact I.sep j k d1 d2 a f1 f2 e3 e4
/-- an own list is no longer changed -/
theorem DInv.frz (I : DInv c S γ ρ σ H) {i : Nat} {ds : List PyData} (hi : ρ[i]? = some (some (.o ds))) : ∃ S', DInv c S' γ (ρ.set i (some (.d (.list ds)))) σ H := by
  obtain ⟨v, h1, D, xs, e, l, t, n, ns⟩ := I.ent i _ hi
  subst e
  have hl := (List.getElem?_eq_some_iff.mp hi).1
  have inc : ∀ a, S a → S a ∨ a = D := fun _ s => .inl s
  refine ⟨fun a => S a ∨ a = D, ⟨I.h.w, I.h.k, fun a s => s.elim (I.h.sub a) fun e => .inr (e ▸ n), fun a s => s.elim (I.h.trk a) fun e => by rw [e, l]; exact fun z => nomatch z⟩, fun g m => ?_, by rw [List.length_set]; exact I.len, fun j a e => ?_, fun j k ds1 es1 a e1 e2 e3 e4 => ?_⟩
  · have h := I.gh g m
    cases g with
    | l a vs ds => exact ⟨.inl h.1, h.2.1, TrAll.mono inc _ _ h.2.2⟩
    | t a vs ds => exact ⟨h.1, TrAll.mono inc _ _ h.2⟩
  · by_cases h : i = j
    · subst h
      rw [List.getElem?_set_self hl] at e
      cases e
      exact ⟨_, h1, D, xs, rfl, .inr rfl, l, TrAll.mono inc _ _ t⟩
    · rw [List.getElem?_set_ne h] at e
      obtain ⟨v, g1, h2⟩ := I.ent j a e
      refine ⟨v, g1, ?_⟩
      cases a with
      | d x => exact Tr.mono inc _ _ h2
      | v x => exact h2
      | o xs =>
        obtain ⟨D2, zs, e', l2, t2, n2, ns2⟩ := h2
        subst e'
        exact ⟨D2, zs, rfl, l2, TrAll.mono inc _ _ t2, n2, fun s => s.elim ns2 fun z => h (I.sep i j _ _ D hi e h1 (z ▸ g1))⟩
  · have back : ∀ {m : Nat} {ds1 : List PyData}, (ρ.set i (some (.d (.list ds))))[m]? = some (some (.o ds1)) → ρ[m]? = some (some (.o ds1)) := fun {m ds1} e => by
      by_cases h : i = m
      · subst h
        rw [List.getElem?_set_self hl] at e
        cases e
      · rw [List.getElem?_set_ne h] at e
        exact e
    exact I.sep j k ds1 es1 a (back e1) (back e2) e3 e4
end
abbrev DE := DEnv → (Av → Prop) → Prop
abbrev DA := DEnv → (List Av → Prop) → Prop
abbrev DT := DEnv → (Bool → Prop) → Prop
abbrev DN := DEnv → (List PyData → Prop) → Prop
def tDE (c : DC) (e : DE) : TE := fun σ H Q => ∃ S γ ρ, DInv c S γ ρ σ H ∧ e ρ fun av => ∀ S' v H', Step c S H S' H' → DInv c S' γ ρ σ H' → AvR c S' H' av v → Q v H'
def tDA (c : DC) (a : DA) : TA := fun σ H Q => ∃ S γ ρ, DInv c S γ ρ σ H ∧ a ρ fun avs => ∀ S' vs H', Step c S H S' H' → DInv c S' γ ρ σ H' → AvsR c S' H' avs vs → Q vs H'
def tDT (c : DC) (t : DT) : TT := fun σ H Q => ∃ S γ ρ, DInv c S γ ρ σ H ∧ t ρ fun b => ∀ S' H', Step c S H S' H' → DInv c S' γ ρ σ H' → Q b H'
/-- a new list -/
def tDN (c : DC) (n : DN) : TE := fun σ H Q => ∃ S γ ρ, DInv c S γ ρ σ H ∧ n ρ fun ds => ∀ S' D xs H', Step c S H S' H' → DInv c S' γ ρ σ H' → H' D = some (.lst xs) → TrAll S' H' ds xs → H D = none → ¬ S' D → Q (.ref D) H'
structure PD (X : Cx) (c : DC) (x : Expr) (e : DE) : Prop where
  run : PE X x (tDE c e)
  mono : ∀ {ρ P P'}, (∀ av, P av → P' av) → e ρ P → e ρ P'
structure PDA (X : Cx) (c : DC) (x : List Expr) (e : DA) : Prop where
  run : PA X x (tDA c e)
  mono : ∀ {ρ P P'}, (∀ av, P av → P' av) → e ρ P → e ρ P'
structure PDT (X : Cx) (c : DC) (x : Expr) (e : DT) : Prop where
  run : PT X x (tDT c e)
  mono : ∀ {ρ P P'}, (∀ av, P av → P' av) → e ρ P → e ρ P'
structure PDW (X : Cx) (c : DC) (x : Expr) (e : DT) : Prop where
  run : PW X x (tDT c e)
  mono : ∀ {ρ P P'}, (∀ av, P av → P' av) → e ρ P → e ρ P'
structure PDN (X : Cx) (c : DC) (x : Expr) (e : DN) : Prop where
  run : PE X x (tDN c e)
  mono : ∀ {ρ P P'}, (∀ av, P av → P' av) → e ρ P → e ρ P'

/-! ### expressions -/
def dName (i : Nat) : DE := fun ρ Q => ∃ av, ρ[i]? = some (some av) ∧ Q av
def dC (d : PyData) : DE := fun _ Q => Q (.d d)
def dNil : DA := fun _ Q => Q []
def dCons (e : DE) (a : DA) : DA := fun ρ Q => e ρ fun x => a ρ fun xs => Q (x :: xs)
def dTup (a : DA) : DE := fun ρ Q => a ρ fun avs => ∃ ds, avs = ds.map Av.d ∧ ds.length ≤ 1000 ∧ Q (.d (.tuple ds))
def nLst (a : DA) : DN := fun ρ Q => a ρ fun avs => ∃ ds, avs = ds.map Av.d ∧ ds.length ≤ 1000 ∧ Q ds
def dFrz (n : DN) : DE := fun ρ Q => n ρ fun ds => Q (.d (.list ds))
def Av.dat : Av → Option PyData
  | .d x => some x
  | .v _ => none
  | .o ds => some (.list ds)
def Av.seq : Av → Option (List PyData)
  | .d (.list ds) => some ds
  | .d (.tuple ds) => some ds
  | .o ds => some ds
  | _ => none
section
variable {X : Cx} {c : DC} {S S' : Addr → Prop} {H H' : Hp} {γ : List Gh} {ρ : DEnv} {σ : L2.St} {x x2 : Expr}
theorem pd_name {i : Nat} (h : PE X x (tVar i)) : PD X c x (dName i) :=
  ⟨pe_weak h fun σ H Q ⟨S, γ, ρ, I, av, e, q⟩ => by obtain ⟨v, h1, h2⟩ := I.ent i av e; exact ⟨v, h1, q S v H Step.refl I h2⟩, fun m ⟨av, e, q⟩ => ⟨av, e, m _ q⟩⟩
/-- a constant -/
theorem pd_c {v : V} {d : PyData} (h : PE X x (tC v)) (hd : ∀ S H, Tr S H d v) : PD X c x (dC d) := ⟨pe_weak h fun σ H Q ⟨S, γ, ρ, I, q⟩ => q S v H Step.refl I (hd S H), fun m q => m _ q⟩
theorem pd_int {i : Int} {j pos} : PD X c (.Constant (.int i) j pos) (dC (.int i)) := pd_c pe_int fun _ _ => rfl
theorem pd_bl {b : Bool} {j pos} : PD X c (.Constant (.bool b) j pos) (dC (.bool b)) := pd_c pe_bl fun _ _ => rfl
theorem pd_non {j pos} : PD X c (.Constant .none j pos) (dC .none) := pd_c pe_non fun _ _ => rfl
theorem pd_str {s : Str} {j pos} : PD X c (.Constant (.str s) j pos) (dC (.str s)) := pd_c pe_str fun _ _ => rfl
theorem pda_nil : PDA X c [] dNil := ⟨pa_weak pa_nil fun σ H Q ⟨S, γ, ρ, I, q⟩ => q S [] H Step.refl I rfl, fun m q => m _ q⟩
theorem pda_cons {es : List Expr} {e : DE} {a : DA} (he : PD X c x e) (ha : PDA X c es a) (hs : starEach (x :: es) X.env = (false, eval x X.env) :: starEach es X.env := by rfl) : PDA X c (x :: es) (dCons e a) :=
  ⟨pa_weak (pa_cons he.run ha.run hs) fun σ H Q ⟨S, γ, ρ, I, q⟩ => ⟨S, γ, ρ, I, he.mono (fun av h S1 v H1 st1 I1 r1 => ⟨S1, γ, ρ, I1, ha.mono (fun avs h2 S2 vs H2 st2 I2 r2 =>
      h2 S2 (v :: vs) H2 (st1.trans I1.h.w I2.h.w st2) I2 ⟨v, vs, rfl, r1.step I1.h st2, r2⟩) h⟩) q⟩, fun m q => he.mono (fun _ h => ha.mono (fun _ h2 => m _ h2) h) q⟩
theorem pd_tup {es : List Expr} {k pos} {a : DA} (ha : PDA X c es a) : PD X c (.Tuple es k pos) (dTup a) :=
  ⟨pe_weak (pe_tup ha.run) fun σ H Q ⟨S, γ, ρ, I, q⟩ => ⟨S, γ, ρ, I, ha.mono (fun avs ⟨ds, e, hl, h⟩ S1 vs H1 st1 I1 r1 => by
    subst e
    have t := r1.all
    refine ⟨small100 (by rw [t.len]; exact hl), fun p np => h S1 (.ref p) _ (st1.trans I1.h.w (I1.newO np).h.w (Step.same (same_upd np))) (I1.newO np) ⟨p, vs, rfl, upd_same, t.same (same_upd np)⟩⟩) q⟩,
   fun m q => ha.mono (fun _ ⟨ds, e, hl, h⟩ => ⟨ds, e, hl, m _ h⟩) q⟩
theorem pn_lst {es : List Expr} {pos} {a : DA} (ha : PDA X c es a) : PDN X c (.List es pos) (nLst a) :=
  ⟨pe_weak (pe_lst ha.run) fun σ H Q ⟨S, γ, ρ, I, q⟩ => ⟨S, γ, ρ, I, ha.mono (fun avs ⟨ds, e, hl, h⟩ S1 vs H1 st1 I1 r1 => by
    subst e
    have t := r1.all
    exact ⟨small100 (by rw [t.len]; exact hl), fun p np => h S1 p vs _ (st1.trans I1.h.w (I1.newO np).h.w (Step.same (same_upd np))) (I1.newO np) upd_same (t.same (same_upd np)) (c.back I1.h.w st1.k np) fun s => I1.h.trk p s np⟩) q⟩,
   fun m q => ha.mono (fun _ ⟨ds, e, hl, h⟩ => ⟨ds, e, hl, m _ h⟩) q⟩
theorem DInv.add {S1 : Addr → Prop} {H1 : Hp} {D : Addr} {xs : List V} (I : DInv c S γ ρ σ H) (I1 : DInv c S1 γ ρ σ H1) (n : H D = none) (e : H1 D = some (.lst xs)) : DInv c (fun a => S1 a ∨ a = D) γ ρ σ H1 := by
  have inc : ∀ a, S1 a → S1 a ∨ a = D := fun _ s => .inl s
  refine ⟨⟨I1.h.w, I1.h.k, fun a s => s.elim (I1.h.sub a) fun z => .inr (I.h.free (z ▸ n)), fun a s => s.elim (I1.h.trk a) fun z => by rw [z, e]; exact fun z => nomatch z⟩, fun g m => ?_, I1.len, fun i av h => ?_, I1.sep⟩
  · have h := I1.gh g m
    cases g with
    | l a vs ds => exact ⟨.inl h.1, h.2.1, TrAll.mono inc _ _ h.2.2⟩
    | t a vs ds => exact ⟨h.1, TrAll.mono inc _ _ h.2⟩
  · obtain ⟨v, h1, h2⟩ := I1.ent i av h
    refine ⟨v, h1, ?_⟩
    cases av with
    | d x => exact Tr.mono inc _ _ h2
    | v x => exact h2
    | o zs =>
      obtain ⟨D2, ys, e', l2, t2, n2, ns2⟩ := h2
      obtain ⟨v', g1, D3, ws, e3, l3, _⟩ := I.ent i _ h
      rw [h1] at g1
      cases g1
      subst e'
      cases e3
      exact ⟨D2, ys, rfl, l2, TrAll.mono inc _ _ t2, n2, fun s => s.elim ns2 fun z => by rw [z, n] at l3; cases l3⟩
theorem Step.add {S1 : Addr → Prop} {H1 : Hp} {D : Addr} {xs : List V} (st : Step c S H S1 H1) (n : H D = none) (e : H1 D = some (.lst xs)) : Step c S H (fun a => S1 a ∨ a = D) H1 :=
  ⟨fun a s => .inl (st.inc a s), st.k, fun a s => s.elim (st.new a) fun z => .inr ⟨z ▸ n, by rw [z, e]; exact fun z => nomatch z⟩⟩
/-- a new list, as data -/
theorem pdn {n : DN} (h : PDN X c x n) : PD X c x (dFrz n) :=
  ⟨pe_weak h.run fun σ H Q ⟨S, γ, ρ, I, q⟩ => ⟨S, γ, ρ, I, h.mono (fun ds g S1 D xs H1 st1 I1 e t n ns => g _ (.ref D) H1 (st1.add n e) (I.add I1 n e) ⟨D, xs, rfl, .inr rfl, e, TrAll.mono (fun _ s => .inl s) _ _ t⟩) q⟩, fun m q => h.mono (fun _ g => m _ g) q⟩
/-! operators -/
def GE (c : DC) (S : Addr → Prop) (γ : List Gh) (ρ : DEnv) (σ : L2.St) (H : Hp) (P : Av → Prop) (Q : VK) : Prop := ∀ av S' w H', P av → Step c S H S' H' → DInv c S' γ ρ σ H' → AvR c S' H' av w → Q w H'
def GN (c : DC) (S : Addr → Prop) (γ : List Gh) (ρ : DEnv) (σ : L2.St) (H : Hp) (P : List PyData → Prop) (Q : VK) : Prop := ∀ ds S' D xs H', P ds → Step c S H S' H' → DInv c S' γ ρ σ H' → H' D = some (.lst xs) → TrAll S' H' ds xs → H D = none → ¬ S' D → Q (.ref D) H'
structure DOp (c : DC) (r : R2) (k : Av → Av → (Av → Prop) → Prop) : Prop where
  run : ∀ {S γ ρ σ H x y v u P Q}, DInv c S γ ρ σ H → AvR c S H x v → AvR c S H y u → k x y P → GE c S γ ρ σ H P Q → r v u H Q
  mono : ∀ {x y P P'}, (∀ av, P av → P' av) → k x y P → k x y P'
structure DOpN (c : DC) (r : R2) (k : Av → Av → (List PyData → Prop) → Prop) : Prop where
  run : ∀ {S γ ρ σ H x y v u P Q}, DInv c S γ ρ σ H → AvR c S H x v → AvR c S H y u → k x y P → GN c S γ ρ σ H P Q → r v u H Q
  mono : ∀ {x y P P'}, (∀ av, P av → P' av) → k x y P → k x y P'
structure DUn (c : DC) (r : V → Hp → VK → Prop) (k : Av → (Av → Prop) → Prop) : Prop where
  run : ∀ {S γ ρ σ H x v P Q}, DInv c S γ ρ σ H → AvR c S H x v → k x P → GE c S γ ρ σ H P Q → r v H Q
  mono : ∀ {x P P'}, (∀ av, P av → P' av) → k x P → k x P'
structure DCl (c : DC) (r : List V → Hp → VK → Prop) (k : List Av → (Av → Prop) → Prop) : Prop where
  run : ∀ {S γ ρ σ H x v P Q}, DInv c S γ ρ σ H → AvsR c S H x v → k x P → GE c S γ ρ σ H P Q → r v H Q
  mono : ∀ {x P P'}, (∀ av, P av → P' av) → k x P → k x P'
structure DClN (c : DC) (r : List V → Hp → VK → Prop) (k : List Av → (List PyData → Prop) → Prop) : Prop where
  run : ∀ {S γ ρ σ H x v P Q}, DInv c S γ ρ σ H → AvsR c S H x v → k x P → GN c S γ ρ σ H P Q → r v H Q
  mono : ∀ {x P P'}, (∀ av, P av → P' av) → k x P → k x P'
def dOp {α : Type} (k : Av → Av → (α → Prop) → Prop) (a b : DE) : DEnv → (α → Prop) → Prop := fun ρ Q => a ρ fun x => b ρ fun y => k x y Q
def dUn {α : Type} (k : Av → (α → Prop) → Prop) (a : DE) : DEnv → (α → Prop) → Prop := fun ρ Q => a ρ fun x => k x Q
def dCl {α : Type} (k : List Av → (α → Prop) → Prop) (a : DA) : DEnv → (α → Prop) → Prop := fun ρ Q => a ρ fun x => k x Q
section
variable {e1 e2 : Expr} {a b : DE} {r : R2}
theorem pd_op {k : Av → Av → (Av → Prop) → Prop} (hp : ∀ {ta tb}, PE X e1 ta → PE X e2 tb → PE X x (tOp r ta tb)) (hk : DOp c r k) (ha : PD X c e1 a) (hb : PD X c e2 b) : PD X c x (dOp k a b) :=
  ⟨pe_weak (hp ha.run hb.run) fun σ H Q ⟨S, γ, ρ, I, q⟩ => ⟨S, γ, ρ, I, ha.mono (fun av h S1 v H1 st1 I1 r1 => ⟨S1, γ, ρ, I1, hb.mono (fun bv h2 S2 u H2 st2 I2 r2 =>
    hk.run I2 (r1.step I1.h st2) r2 h2 fun av S3 w H3 g st3 I3 r3 => g S3 w H3 (st1.trans I1.h.w I3.h.w (st2.trans I2.h.w I3.h.w st3)) I3 r3) h⟩) q⟩,
   fun m q => ha.mono (fun _ h => hb.mono (fun _ h2 => hk.mono m h2) h) q⟩
theorem pn_op {k : Av → Av → (List PyData → Prop) → Prop} (hp : ∀ {ta tb}, PE X e1 ta → PE X e2 tb → PE X x (tOp r ta tb)) (hk : DOpN c r k) (ha : PD X c e1 a) (hb : PD X c e2 b) : PDN X c x (dOp k a b) :=
  ⟨pe_weak (hp ha.run hb.run) fun σ H Q ⟨S, γ, ρ, I, q⟩ => ⟨S, γ, ρ, I, ha.mono (fun av h S1 v H1 st1 I1 r1 => ⟨S1, γ, ρ, I1, hb.mono (fun bv h2 S2 u H2 st2 I2 r2 =>
    hk.run I2 (r1.step I1.h st2) r2 h2 fun ds S3 D xs H3 g st3 I3 e t n ns => g S3 D xs H3 (st1.trans I1.h.w I3.h.w (st2.trans I2.h.w I3.h.w st3)) I3 e t (c.back I1.h.w st1.k (c.back I2.h.w st2.k n)) ns) h⟩) q⟩,
   fun m q => ha.mono (fun _ h => hb.mono (fun _ h2 => hk.mono m h2) h) q⟩
theorem pd_un {r : V → Hp → VK → Prop} {k : Av → (Av → Prop) → Prop} (hp : ∀ {ta}, PE X e1 ta → PE X x (tUn r ta)) (hk : DUn c r k) (ha : PD X c e1 a) : PD X c x (dUn k a) :=
  ⟨pe_weak (hp ha.run) fun σ H Q ⟨S, γ, ρ, I, q⟩ => ⟨S, γ, ρ, I, ha.mono (fun av h S1 v H1 st1 I1 r1 =>
    hk.run I1 r1 h fun av S3 w H3 g st3 I3 r3 => g S3 w H3 (st1.trans I1.h.w I3.h.w st3) I3 r3) q⟩, fun m q => ha.mono (fun _ h => hk.mono m h) q⟩
theorem pd_cl {r : List V → Hp → VK → Prop} {k : List Av → (Av → Prop) → Prop} {es : List Expr} {a : DA} (hp : ∀ {ta}, PA X es ta → PE X x (tCB r ta)) (hk : DCl c r k) (ha : PDA X c es a) : PD X c x (dCl k a) :=
  ⟨pe_weak (hp ha.run) fun σ H Q ⟨S, γ, ρ, I, q⟩ => ⟨S, γ, ρ, I, ha.mono (fun av h S1 v H1 st1 I1 r1 =>
    hk.run I1 r1 h fun av S3 w H3 g st3 I3 r3 => g S3 w H3 (st1.trans I1.h.w I3.h.w st3) I3 r3) q⟩, fun m q => ha.mono (fun _ h => hk.mono m h) q⟩
theorem pn_cl {r : List V → Hp → VK → Prop} {k : List Av → (List PyData → Prop) → Prop} {es : List Expr} {a : DA} (hp : ∀ {ta}, PA X es ta → PE X x (tCB r ta)) (hk : DClN c r k) (ha : PDA X c es a) : PDN X c x (dCl k a) :=
  ⟨pe_weak (hp ha.run) fun σ H Q ⟨S, γ, ρ, I, q⟩ => ⟨S, γ, ρ, I, ha.mono (fun av h S1 v H1 st1 I1 r1 =>
    hk.run I1 r1 h fun ds S3 D xs H3 g st3 I3 e t n ns => g S3 D xs H3 (st1.trans I1.h.w I3.h.w st3) I3 e t (c.back I1.h.w st1.k n) ns) q⟩, fun m q => ha.mono (fun _ h => hk.mono m h) q⟩
/-- as a test -/
def dTest (e : DE) : DT := fun ρ Q => e ρ fun av => ∃ b, av = .d (.bool b) ∧ Q b
theorem pdt_op {k : Av → Av → (Av → Prop) → Prop} (hp : ∀ {ta tb}, PE X e1 ta → PE X e2 tb → PT X x (tTest (tOp r ta tb))) (hk : DOp c r k) (ha : PD X c e1 a) (hb : PD X c e2 b) : PDT X c x (dTest (dOp k a b)) :=
  ⟨pt_weak (hp ha.run hb.run) fun σ H Q ⟨S, γ, ρ, I, q⟩ => ⟨S, γ, ρ, I, ha.mono (fun av h S1 v H1 st1 I1 r1 => ⟨S1, γ, ρ, I1, hb.mono (fun bv h2 S2 u H2 st2 I2 r2 =>
    hk.run I2 (r1.step I1.h st2) r2 h2 fun av S3 w H3 ⟨b, e, g⟩ st3 I3 r3 => by subst e; exact ⟨b, r3, g S3 H3 (st1.trans I1.h.w I3.h.w (st2.trans I2.h.w I3.h.w st3)) I3⟩) h⟩) q⟩,
   fun m q => ha.mono (fun _ h => hb.mono (fun _ h2 => hk.mono (fun _ ⟨b, e, g⟩ => ⟨b, e, m _ g⟩) h2) h) q⟩
theorem pdt_val (hp : ∀ {t}, PE X x t → PT X x (tB t)) (ha : PD X c x a) : PDT X c x (dTest a) :=
  ⟨pt_weak (hp ha.run) fun σ H Q ⟨S, γ, ρ, I, q⟩ => ⟨S, γ, ρ, I, ha.mono (fun av ⟨b, e, g⟩ S1 v H1 st1 I1 r1 => by subst e; exact ⟨b, r1, g S1 H1 st1 I1⟩) q⟩, fun m q => ha.mono (fun _ ⟨b, e, g⟩ => ⟨b, e, m _ g⟩) q⟩
/-- by its truth -/
def truD : Av → Option Bool
  | .d .none => some false
  | .d (.bool b) => some b
  | .d (.int i) => some (i != 0)
  | .d (.list ds) => some !ds.isEmpty
  | .d (.tuple ds) => some !ds.isEmpty
  | .o ds => some !ds.isEmpty
  | _ => none
def dTru (e : DE) : DT := fun ρ Q => e ρ fun av => ∃ b, truD av = some b ∧ Q b
theorem isE {ds : List PyData} {xs : List V} (t : TrAll S H ds xs) : (!xs.isEmpty) = !ds.isEmpty := by
  cases ds with
  | nil => cases t; rfl
  | cons d r => obtain ⟨x, us, e, _⟩ := t; subst e; rfl
theorem tru_of {av : Av} {v : V} {b : Bool} {K : PySem.W.Frag} (r1 : AvR c S H av v) (e : truD av = some b) : TruV K v H b := by
  cases av with
  | v y => cases e
  | o ds =>
    obtain ⟨D, xs, e', l, t, _⟩ := r1
    subst e'
    cases e
    exact .inl ⟨xs, SqL.of l, (isE t).symm⟩
  | d y =>
    cases y with
    | none => cases e; cases r1; exact rfl
    | bool b' => cases e; cases r1; exact rfl
    | int i => cases e; cases r1; exact rfl
    | list ds => obtain ⟨D, xs, e', _, l, t⟩ := r1; subst e'; cases e; exact .inl ⟨xs, SqL.of l, (isE t).symm⟩
    | tuple ds => obtain ⟨D, xs, e', l, t⟩ := r1; subst e'; cases e; exact .inr (.inl ⟨xs, SqT.of l, (isE t).symm⟩)
    | str s => cases e
    | dict s => cases e
theorem pdt_tru (hp : ∀ {t}, PE X x t → PT X x (fun σ H Q => t σ H fun x H' => ∃ k, TruV X.K x H' k ∧ Q k H')) (ha : PD X c x a) : PDT X c x (dTru a) :=
  ⟨pt_weak (hp ha.run) fun σ H Q ⟨S, γ, ρ, I, q⟩ => ⟨S, γ, ρ, I, ha.mono (fun av ⟨b, e, g⟩ S1 v H1 st1 I1 r1 => ⟨b, tru_of r1 e, g S1 H1 st1 I1⟩) q⟩, fun m q => ha.mono (fun _ ⟨b, e, g⟩ => ⟨b, e, m _ g⟩) q⟩
def dtNot (t : DT) : DT := fun ρ Q => t ρ fun b => Q (!b)
def dtAnd (t u : DT) : DT := fun ρ Q => t ρ fun b => if b = true then u ρ Q else Q false
def dtOr (t u : DT) : DT := fun ρ Q => t ρ fun b => if b = true then Q true else u ρ Q
theorem ifMono {A B A' B' : Prop} {b : Bool} (h1 : A → A') (h2 : B → B') (h : if b = true then A else B) : if b = true then A' else B' := by cases b <;> simp_all
theorem pdt_not {t : DT} {pos} (h : PDT X c x t) : PDT X c (.UnaryOp .Not x pos) (dtNot t) :=
  ⟨pt_weak (pt_not h.run) fun σ H Q ⟨S, γ, ρ, I, q⟩ => ⟨S, γ, ρ, I, h.mono (fun _ g => g) q⟩, fun m q => h.mono (fun _ g => m _ g) q⟩
theorem pdw_and1 {t : DT} {pos} (h : PDT X c x t) : PDW X c (.BoolOp .And [x] pos) t := ⟨pw_and1 h.run, h.mono⟩
theorem pdw_or1 {t : DT} {pos} (h : PDT X c x t) : PDW X c (.BoolOp .Or [x] pos) t := ⟨pw_or1 h.run, h.mono⟩
theorem pdw_and {t u : DT} {rest : List Expr} {pos} (h : PDT X c x t) (h2 : PDW X c (.BoolOp .And (x2 :: rest) pos) u) : PDW X c (.BoolOp .And (x :: x2 :: rest) pos) (dtAnd t u) :=
  ⟨pw_weak (pw_and h.run h2.run) fun σ H Q ⟨S, γ, ρ, I, q⟩ => ⟨S, γ, ρ, I, h.mono (fun b g S1 H1 st1 I1 => ifMono (fun g => ⟨S1, γ, ρ, I1, h2.mono (fun b g S2 H2 st2 I2 => g S2 H2 (st1.trans I1.h.w I2.h.w st2) I2) g⟩) (fun g => g S1 H1 st1 I1) g) q⟩,
   fun m q => h.mono (fun b g => ifMono (fun g => h2.mono m g) (m _) g) q⟩
theorem pdw_or {t u : DT} {rest : List Expr} {pos} (h : PDT X c x t) (h2 : PDW X c (.BoolOp .Or (x2 :: rest) pos) u) : PDW X c (.BoolOp .Or (x :: x2 :: rest) pos) (dtOr t u) :=
  ⟨pw_weak (pw_or h.run h2.run) fun σ H Q ⟨S, γ, ρ, I, q⟩ => ⟨S, γ, ρ, I, h.mono (fun b g S1 H1 st1 I1 => ifMono (fun g => g S1 H1 st1 I1) (fun g => ⟨S1, γ, ρ, I1, h2.mono (fun b g S2 H2 st2 I2 => g S2 H2 (st1.trans I1.h.w I2.h.w st2) I2) g⟩) g) q⟩,
   fun m q => h.mono (fun b g => ifMono (m _) (fun g => h2.mono m g) g) q⟩
theorem pdw_t {t : DT} (h : PDW X c x t) : PDT X c x t := ⟨PW.pt h.run, h.mono⟩
/-! as values -/
def deNot (e : DE) : DE := fun ρ Q => e ρ fun av => ∃ b, av = .d (.bool b) ∧ Q (.d (.bool !b))
def deAnd (e f : DE) : DE := fun ρ Q => e ρ fun av => ∃ b, av = .d (.bool b) ∧ if b = true then f ρ Q else Q (.d (.bool false))
def deOr (e f : DE) : DE := fun ρ Q => e ρ fun av => ∃ b, av = .d (.bool b) ∧ if b = true then Q (.d (.bool true)) else f ρ Q
def deIf (t : DT) (e f : DE) : DE := fun ρ Q => t ρ fun b => if b = true then e ρ Q else f ρ Q
theorem pd_not {pos} (h : PD X c x a) : PD X c (.UnaryOp .Not x pos) (deNot a) :=
  ⟨pe_weak (pe_not h.run) fun σ H Q ⟨S, γ, ρ, I, q⟩ => ⟨S, γ, ρ, I, h.mono (fun _ ⟨b, e, g⟩ S1 v H1 st1 I1 r1 => by subst e; exact ⟨b, r1, g S1 _ H1 st1 I1 rfl⟩) q⟩, fun m q => h.mono (fun _ ⟨b, e, g⟩ => ⟨b, e, m _ g⟩) q⟩
theorem pd_one {op pos} (h : PD X c x a) : PD X c (.BoolOp op [x] pos) a := ⟨pe_one h.run, h.mono⟩
theorem pd_and {rest : List Expr} {pos} (h : PD X c x a) (h2 : PD X c (.BoolOp .And (x2 :: rest) pos) b) : PD X c (.BoolOp .And (x :: x2 :: rest) pos) (deAnd a b) :=
  ⟨pe_weak (pe_and h.run h2.run) fun σ H Q ⟨S, γ, ρ, I, q⟩ => ⟨S, γ, ρ, I, h.mono (fun _ ⟨b, e, g⟩ S1 v H1 st1 I1 r1 => by subst e; exact ⟨b, r1, ifMono (fun g => ⟨S1, γ, ρ, I1, h2.mono (fun _ g S2 w H2 st2 I2 r2 => g S2 w H2 (st1.trans I1.h.w I2.h.w st2) I2 r2) g⟩) (fun g => g S1 _ H1 st1 I1 rfl) g⟩) q⟩,
   fun m q => h.mono (fun _ ⟨b, e, g⟩ => ⟨b, e, ifMono (fun g => h2.mono m g) (m _) g⟩) q⟩
theorem pd_or {rest : List Expr} {pos} (h : PD X c x a) (h2 : PD X c (.BoolOp .Or (x2 :: rest) pos) b) : PD X c (.BoolOp .Or (x :: x2 :: rest) pos) (deOr a b) :=
  ⟨pe_weak (pe_or h.run h2.run) fun σ H Q ⟨S, γ, ρ, I, q⟩ => ⟨S, γ, ρ, I, h.mono (fun _ ⟨b, e, g⟩ S1 v H1 st1 I1 r1 => by subst e; exact ⟨b, r1, ifMono (fun g => g S1 _ H1 st1 I1 rfl) (fun g => ⟨S1, γ, ρ, I1, h2.mono (fun _ g S2 w H2 st2 I2 r2 => g S2 w H2 (st1.trans I1.h.w I2.h.w st2) I2 r2) g⟩) g⟩) q⟩,
   fun m q => h.mono (fun _ ⟨b, e, g⟩ => ⟨b, e, ifMono (m _) (fun g => h2.mono m g) g⟩) q⟩
theorem pd_if {t : DT} {x3 : Expr} {pos} (h : PDT X c x t) (h1 : PD X c x2 a) (h2 : PD X c x3 b) : PD X c (.IfExp x x2 x3 pos) (deIf t a b) :=
  ⟨pe_weak (pe_ifExp h.run h1.run h2.run) fun σ H Q ⟨S, γ, ρ, I, q⟩ => ⟨S, γ, ρ, I, h.mono (fun b g S1 H1 st1 I1 => ifMono (fun g => ⟨S1, γ, ρ, I1, h1.mono (fun _ g S2 w H2 st2 I2 r2 => g S2 w H2 (st1.trans I1.h.w I2.h.w st2) I2 r2) g⟩) (fun g => ⟨S1, γ, ρ, I1, h2.mono (fun _ g S2 w H2 st2 I2 r2 => g S2 w H2 (st1.trans I1.h.w I2.h.w st2) I2 r2) g⟩) g) q⟩,
   fun m q => h.mono (fun _ g => ifMono (fun g => h1.mono m g) (fun g => h2.mono m g) g) q⟩
end
end

/-! ### operators by data -/
def cutL {α : Type} (xs : List α) (lo hi : Option Int) : List α := (xs.drop (HT.sIx xs.length 0 lo)).take (HT.sIx xs.length xs.length hi - HT.sIx xs.length 0 lo)
def kI (C : Int → Int → Prop) (g : Int → Int → PyData) : Av → Av → (Av → Prop) → Prop := fun x y Q => ∃ i j, x = .d (.int i) ∧ y = .d (.int j) ∧ C i j ∧ Q (.d (g i j))
def kI0 (g : Int → Int → PyData) : Av → Av → (Av → Prop) → Prop := fun x y Q => ∃ i j, x = .d (.int i) ∧ y = .d (.int j) ∧ Q (.d (g i j))
def kU (g : Int → PyData) : Av → (Av → Prop) → Prop := fun x Q => ∃ i, x = .d (.int i) ∧ Q (.d (g i))
def kEq : Av → Av → (Av → Prop) → Prop := fun x y Q => ∃ d e, x.dat = some d ∧ y.dat = some e ∧ SeqAt.shaped d = true ∧ SeqAt.shaped e = true ∧ Q (.d (.bool (PyData.eqv d e)))
def kNe : Av → Av → (Av → Prop) → Prop := fun x y Q => ∃ d e, x.dat = some d ∧ y.dat = some e ∧ SeqAt.shaped d = true ∧ SeqAt.shaped e = true ∧ Q (.d (.bool (!PyData.eqv d e)))
def kIn : Av → Av → (Av → Prop) → Prop := fun x y Q => ∃ d ds, x.dat = some d ∧ y.seq = some ds ∧ SeqAt.shaped d = true ∧ SeqAt.shaped (.list ds) = true ∧ Q (.d (.bool (ds.any fun z => PyData.eqv z d)))
def kNotIn : Av → Av → (Av → Prop) → Prop := fun x y Q => ∃ d ds, x.dat = some d ∧ y.seq = some ds ∧ SeqAt.shaped d = true ∧ SeqAt.shaped (.list ds) = true ∧ Q (.d (.bool (!ds.any fun z => PyData.eqv z d)))
def isNo : PyData → Bool
  | .none => true
  | _ => false
def kIsN : Av → Av → (Av → Prop) → Prop := fun x y Q => ∃ d, x = .d d ∧ y = .d .none ∧ Q (.d (.bool (isNo d)))
def kNotN : Av → Av → (Av → Prop) → Prop := fun x y Q => ∃ d, x = .d d ∧ y = .d .none ∧ Q (.d (.bool (!isNo d)))
def kIx : Av → Av → (Av → Prop) → Prop := fun x y Q => ∃ ds i d, x.seq = some ds ∧ y = .d (.int i) ∧ atI ds i = some d ∧ Q (.d d)
def kCat : Av → Av → (List PyData → Prop) → Prop := fun x y Q => ∃ ds es, x.dat = some (.list ds) ∧ y.dat = some (.list es) ∧ ds.length + es.length ≤ 1000 ∧ Q (ds ++ es)
def kCatT : Av → Av → (Av → Prop) → Prop := fun x y Q => ∃ ds es, x = .d (.tuple ds) ∧ y = .d (.tuple es) ∧ ds.length + es.length ≤ 1000 ∧ Q (.d (.tuple (ds ++ es)))
def kCatS : Av → Av → (Av → Prop) → Prop := fun x y Q => ∃ s t : Str, x = .d (.str s) ∧ y = .d (.str t) ∧ s.length + t.length ≤ sizeLine ∧ Q (.d (.str (s ++ t)))
def kLen : List Av → (Av → Prop) → Prop := fun xs Q => ∃ x ds, xs = [x] ∧ x.seq = some ds ∧ Q (.d (.int ds.length))
def kInt : List Av → (Av → Prop) → Prop := fun xs Q => (∃ i, xs = [.d (.int i)] ∧ Q (.d (.int i))) ∨ ∃ b, xs = [.d (.bool b)] ∧ Q (.d (.int (if b then 1 else 0)))
def kListOf : List Av → (List PyData → Prop) → Prop := fun xs Q => ∃ x ds, xs = [x] ∧ x.seq = some ds ∧ Q ds
def kTupOf : List Av → (Av → Prop) → Prop := fun xs Q => ∃ x ds, xs = [x] ∧ x.dat = some (.list ds) ∧ Q (.d (.tuple ds))
def kAll : List Av → (Av → Prop) → Prop := fun xs Q => ∃ (x : Av) (bs : List Bool), xs = [x] ∧ x.dat = some (.list (bs.map PyData.bool)) ∧ Q (.d (.bool (bs.all id)))
def kAny : List Av → (Av → Prop) → Prop := fun xs Q => ∃ (x : Av) (bs : List Bool), xs = [x] ∧ x.dat = some (.list (bs.map PyData.bool)) ∧ Q (.d (.bool (bs.any id)))
def kSum : List Av → (Av → Prop) → Prop := fun xs Q => ∃ (x : Av) (ns : List Int), xs = [x] ∧ x.dat = some (.list (ns.map PyData.int)) ∧ Q (.d (.int ns.sum))
section
variable {K : PySem.W.Frag} {c : DC} {S S' : Addr → Prop} {H H' : Hp} {γ : List Gh} {ρ : DEnv} {σ : L2.St}
theorem AvR.dat_tr {x : Av} {v : V} {d : PyData} (r : AvR c S H x v) (e : x.dat = some d) : ∃ S1, Tr S1 H d v := by
  cases x with
  | d y => cases e; exact ⟨S, r⟩
  | v y => cases e
  | o ds =>
    cases e
    obtain ⟨D, xs, e, l, t, _⟩ := r
    exact ⟨fun _ => True, D, xs, e, True.intro, l, TrAll.mono (fun _ _ => True.intro) _ _ t⟩
theorem AvR.dp {x : Av} {v : V} {d : PyData} (r : AvR c S H x v) (e : x.dat = some d) (h : SeqAt.shaped d = true) : Dp K H v d := by
  obtain ⟨S1, t⟩ := r.dat_tr e
  exact Tr.dp d v (SeqAt.canLay_of_shaped h) t
theorem AvR.seq {x : Av} {v : V} {ds : List PyData} (r : AvR c S H x v) (e : x.seq = some ds) : ∃ a xs, v = .ref a ∧ (H a = some (.lst xs) ∨ H a = some (.tup xs)) ∧ TrAll S H ds xs := by
  cases x with
  | v y => cases e
  | o es =>
    cases e
    obtain ⟨D, xs, e, l, t, _⟩ := r
    exact ⟨D, xs, e, .inl l, t⟩
  | d y =>
    cases y with
    | list es => cases e; obtain ⟨D, xs, e, _, l, t⟩ := r; exact ⟨D, xs, e, .inl l, t⟩
    | tuple es => cases e; obtain ⟨D, xs, e, l, t⟩ := r; exact ⟨D, xs, e, .inr l, t⟩
    | _ => cases e
theorem AvR.lst {x : Av} {v : V} {ds : List PyData} (r : AvR c S H x v) (e : x.dat = some (.list ds)) : ∃ a xs, v = .ref a ∧ H a = some (.lst xs) ∧ TrAll S H ds xs := by
  cases x with
  | v y => cases e
  | o es => cases e; obtain ⟨D, xs, e, l, t, _⟩ := r; exact ⟨D, xs, e, l, t⟩
  | d y => cases e; obtain ⟨D, xs, e, _, l, t⟩ := r; exact ⟨D, xs, e, l, t⟩
theorem AvR.tup {v : V} {ds : List PyData} (r : AvR c S H (.d (.tuple ds)) v) : ∃ a xs, v = .ref a ∧ H a = some (.tup xs) ∧ TrAll S H ds xs := by
  obtain ⟨D, xs, e, l, t⟩ := r
  exact ⟨D, xs, e, l, t⟩
theorem sqv {a : Addr} {xs : List V} (h : H a = some (.lst xs) ∨ H a = some (.tup xs)) : SqL K H a xs ∨ SqT K H a xs := h.elim (fun h => .inl (SqL.of h)) fun h => .inr (SqT.of h)
theorem TrAll.atI {ds : List PyData} {xs : List V} {i : Int} {d : PyData} (t : TrAll S H ds xs) (e : atI ds i = some d) : ∃ x, atI xs i = some x ∧ Tr S H d x := by
  unfold L2.atI at e ⊢
  rw [t.len]
  cases hn : ixN ds.length i with
  | none => rw [hn] at e; cases e
  | some j =>
    rw [hn] at e
    obtain ⟨x, h1, h2⟩ := t.get' (i := j) e
    exact ⟨x, h1, h2⟩
theorem TrAll.bools : ∀ {bs : List Bool} {us : List V}, TrAll S H (bs.map PyData.bool) us → us = bs.map V.bl
  | [], us, h => h
  | n :: r, us, ⟨x, q, e, t, h⟩ => by
    cases t
    rw [e, h.bools]
    rfl
theorem dk_rI0 {g : Int → Int → V} {gd : Int → Int → PyData} (hg : ∀ i j S H, Tr S H (gd i j) (g i j)) : DOp c (rI0 g) (kI0 gd) :=
  ⟨fun I rx ry ⟨i, j, e1, e2, q⟩ g => by subst e1 e2; exact ⟨i, j, rx, ry, g _ _ _ _ q Step.refl I (hg i j _ _)⟩, fun m ⟨i, j, e1, e2, q⟩ => ⟨i, j, e1, e2, m _ q⟩⟩
theorem dk_rI {C : Int → Int → Prop} {g : Int → Int → V} {gd : Int → Int → PyData} (hg : ∀ i j S H, Tr S H (gd i j) (g i j)) : DOp c (rI C g) (kI C gd) :=
  ⟨fun I rx ry ⟨i, j, e1, e2, hc, q⟩ g => by subst e1 e2; exact ⟨i, j, rx, ry, hc, g _ _ _ _ q Step.refl I (hg i j _ _)⟩, fun m ⟨i, j, e1, e2, hc, q⟩ => ⟨i, j, e1, e2, hc, m _ q⟩⟩
theorem dk_i0 {g : Int → Int → Int} : DOp c (rI0 fun i j => .int (g i j)) (kI0 fun i j => .int (g i j)) := dk_rI0 fun _ _ _ _ => rfl
theorem dk_b0 {g : Int → Int → Bool} : DOp c (rI0 fun i j => .bl (g i j)) (kI0 fun i j => .bool (g i j)) := dk_rI0 fun _ _ _ _ => rfl
theorem dk_i {C : Int → Int → Prop} {g : Int → Int → Int} : DOp c (rI C fun i j => .int (g i j)) (kI C fun i j => .int (g i j)) := dk_rI fun _ _ _ _ => rfl
theorem dk_u {g : Int → Int} : DUn c (rU fun i => .int (g i)) (kU fun i => .int (g i)) := ⟨fun I rx ⟨i, e, q⟩ g => by subst e; exact ⟨i, rx, g _ _ _ _ q Step.refl I rfl⟩, fun m ⟨i, e, q⟩ => ⟨i, e, m _ q⟩⟩
theorem dk_eq : DOp c (rEqD K) kEq := ⟨fun I rx ry ⟨d, e, h1, h2, s1, s2, q⟩ g => ⟨d, e, rx.dp h1 s1, ry.dp h2 s2, s1, s2, g _ _ _ _ q Step.refl I rfl⟩, fun m ⟨d, e, h1, h2, s1, s2, q⟩ => ⟨d, e, h1, h2, s1, s2, m _ q⟩⟩
theorem dk_ne : DOp c (rNeD K) kNe := ⟨fun I rx ry ⟨d, e, h1, h2, s1, s2, q⟩ g => ⟨d, e, rx.dp h1 s1, ry.dp h2 s2, s1, s2, g _ _ _ _ q Step.refl I rfl⟩, fun m ⟨d, e, h1, h2, s1, s2, q⟩ => ⟨d, e, h1, h2, s1, s2, m _ q⟩⟩
theorem sh_lt {ds : List PyData} (h : SeqAt.shaped (.list ds) = true) : SeqAt.shaped (.tuple ds) = true := by
  simpa [SeqAt.shaped, PyData.canLay0, PyData.depth] using h
def rInA (K : PySem.W.Frag) : R2 := fun x y H Q => rInD K x y H Q ∨ rInDT K x y H Q
def rNotInDT (K : PySem.W.Frag) : R2 := fun x y H Q => ∃ d ds, Dp K H x d ∧ Dp K H y (.tuple ds) ∧ SeqAt.shaped d = true ∧ SeqAt.shaped (.tuple ds) = true ∧ Q (.bl (!ds.any fun z => PyData.eqv z d)) H
theorem in_dp {av : Av} {v : V} {ds : List PyData} (r : AvR c S H av v) (e : av.seq = some ds) (h : SeqAt.shaped (.list ds) = true) : Dp K H v (.list ds) ∨ Dp K H v (.tuple ds) := by
  cases av with
  | v y => cases e
  | o es => cases e; exact .inl (r.dp rfl h)
  | d y =>
    cases y with
    | list es => cases e; exact .inl (r.dp rfl h)
    | tuple es => cases e; exact .inr (r.dp rfl (sh_lt h))
    | _ => cases e
theorem dk_in : DOp c (rInA K) kIn := ⟨fun I rx ry ⟨d, ds, h1, h2, s1, s2, q⟩ g => (in_dp ry h2 s2).elim (fun z => .inl ⟨d, ds, rx.dp h1 s1, z, s1, s2, g _ _ _ _ q Step.refl I rfl⟩) fun z => .inr ⟨d, ds, rx.dp h1 s1, z, s1, sh_lt s2, g _ _ _ _ q Step.refl I rfl⟩,
  fun m ⟨d, e, h1, h2, s1, s2, q⟩ => ⟨d, e, h1, h2, s1, s2, m _ q⟩⟩
theorem isNo_tr {d : PyData} {v : V} (t : Tr S H d v) : decide (v = .non) = isNo d := by
  cases d with
  | none => cases t; rfl
  | bool b => cases t; rfl
  | int b => cases t; rfl
  | str b => cases t; rfl
  | list b => obtain ⟨_, _, e, _⟩ := t; subst e; rfl
  | tuple b => obtain ⟨_, _, e, _⟩ := t; subst e; rfl
  | dict b => obtain ⟨_, _, e, _⟩ := t; subst e; rfl
theorem dk_isN : DOp c (fun x y H Q => y = .non ∧ Q (.bl (decide (x = .non))) H) kIsN := ⟨fun I rx ry ⟨d, e1, e2, q⟩ g => by subst e1 e2; exact ⟨ry, by rw [isNo_tr rx]; exact g _ _ _ _ q Step.refl I rfl⟩, fun m ⟨d, e1, e2, q⟩ => ⟨d, e1, e2, m _ q⟩⟩
theorem dk_notN : DOp c (fun x y H Q => y = .non ∧ Q (.bl (!decide (x = .non))) H) kNotN := ⟨fun I rx ry ⟨d, e1, e2, q⟩ g => by subst e1 e2; exact ⟨ry, by rw [isNo_tr rx]; exact g _ _ _ _ q Step.refl I rfl⟩, fun m ⟨d, e1, e2, q⟩ => ⟨d, e1, e2, m _ q⟩⟩
theorem dk_ix : DOp c (rIx K) kIx := ⟨fun I rx ry ⟨ds, i, d, h1, h2, h3, q⟩ g => by
    subst h2
    obtain ⟨a, xs, e, h, t⟩ := rx.seq h1
    obtain ⟨x, hx, tx⟩ := t.atI h3
    exact h.elim (fun h => .inl ⟨a, xs, i, x, e, ry, SqL.of h, hx, g _ _ _ _ q Step.refl I tx⟩) fun h => .inr (.inl ⟨a, xs, i, x, e, ry, SqT.of h, hx, g _ _ _ _ q Step.refl I tx⟩),
  fun m ⟨ds, i, d, h1, h2, h3, q⟩ => ⟨ds, i, d, h1, h2, h3, m _ q⟩⟩
/-- a new list at a free place -/
theorem GN.at {ρ : DEnv} {P : List PyData → Prop} {Q : VK} (g : GN c S γ ρ σ H P Q) (I : DInv c S γ ρ σ H) {ds : List PyData} {xs : List V} {p : Addr} (q : P ds) (t : TrAll S H ds xs) (np : H p = none) : Q (.ref p) (upd H p (.lst xs)) :=
  g ds S p xs _ q (Step.same (same_upd np)) (I.newO np) upd_same (t.same (same_upd np)) np fun s => I.h.trk p s np
theorem GE.tup {ρ : DEnv} {P : Av → Prop} {Q : VK} (g : GE c S γ ρ σ H P Q) (I : DInv c S γ ρ σ H) {ds : List PyData} {xs : List V} {p : Addr} (q : P (.d (.tuple ds))) (t : TrAll S H ds xs) (np : H p = none) : Q (.ref p) (upd H p (.tup xs)) :=
  g _ S (.ref p) _ q (Step.same (same_upd np)) (I.newO np) ⟨p, xs, rfl, upd_same, t.same (same_upd np)⟩
theorem dk_cat : DOpN c rCat kCat := ⟨fun I rx ry ⟨ds, es, h1, h2, hl, q⟩ g => by
    obtain ⟨a, xs, e, l, t⟩ := rx.lst h1
    obtain ⟨b, ys, e2, l2, t2⟩ := ry.lst h2
    exact ⟨a, b, xs, ys, e, e2, l, l2, small100 (by rw [t.len, t2.len]; exact hl), fun p np => g.at I q (t.append t2) np⟩,
  fun m ⟨ds, es, h1, h2, hl, q⟩ => ⟨ds, es, h1, h2, hl, m _ q⟩⟩
theorem dk_catT : DOp c (rCatA K) kCatT := ⟨fun I rx ry ⟨ds, es, h1, h2, hl, q⟩ g => by
    subst h1 h2
    obtain ⟨a, xs, e, l, t⟩ := rx.tup
    obtain ⟨b, ys, e2, l2, t2⟩ := ry.tup
    have lx := t.len
    have ly := t2.len
    refine ⟨a, b, xs, ys, e, e2, SqT.of l, SqT.of l2, small100 (by rw [t.len, t2.len]; exact hl), fun z => ?_, fun _ z => ?_, fun _ _ p np => g.tup I q (t.append t2) np⟩
    · subst z
      have : ds = [] := List.length_eq_zero_iff.mp lx.symm
      subst this
      exact g _ _ _ _ q Step.refl I ⟨b, ys, rfl, l2, t2⟩
    · subst z
      have : es = [] := List.length_eq_zero_iff.mp ly.symm
      subst this
      rw [List.append_nil] at q
      exact g _ _ _ _ q Step.refl I ⟨a, xs, rfl, l, t⟩,
  fun m ⟨ds, es, h1, h2, hl, q⟩ => ⟨ds, es, h1, h2, hl, m _ q⟩⟩
theorem dk_catS : DOp c (fun x y H Q => ∃ i j : Str, x = .str i ∧ y = .str j ∧ i.length + j.length ≤ sizeLine ∧ Q (.str (i ++ j)) H) kCatS :=
  ⟨fun I rx ry ⟨s, t, h1, h2, hl, q⟩ g => by subst h1 h2; exact ⟨s, t, rx, ry, hl, g _ _ _ _ q Step.refl I rfl⟩, fun m ⟨s, t, h1, h2, hl, q⟩ => ⟨s, t, h1, h2, hl, m _ q⟩⟩
theorem AvsR.one {x : Av} {vs : List V} (r : AvsR c S H [x] vs) : ∃ v, vs = [v] ∧ AvR c S H x v := by
  obtain ⟨v, us, e, r1, r2⟩ := r
  cases r2
  exact ⟨v, e, r1⟩
theorem dk_len : DCl c (rLenA K) kLen := ⟨fun I r ⟨x, ds, e, h, q⟩ g => by
    subst e
    obtain ⟨v, e2, r1⟩ := r.one
    subst e2
    obtain ⟨a, xs, e, h, t⟩ := r1.seq h
    subst e
    exact ⟨a, xs, rfl, sqv h, by rw [t.len]; exact g _ _ _ _ q Step.refl I rfl⟩,
  fun m ⟨x, ds, e, h, q⟩ => ⟨x, ds, e, h, m _ q⟩⟩
theorem dk_int : DCl c (fun xs H Q => (∃ i, xs = [V.int i] ∧ Q (.int i) H) ∨ ∃ k : Bool, xs = [.bl k] ∧ Q (.int (if k then 1 else 0)) H) kInt := ⟨fun I r h g => by
    rcases h with ⟨i, e, q⟩ | ⟨b, e, q⟩
    · subst e
      obtain ⟨v, e2, r1⟩ := r.one
      subst e2
      cases r1
      exact .inl ⟨i, rfl, g _ _ _ _ q Step.refl I rfl⟩
    · subst e
      obtain ⟨v, e2, r1⟩ := r.one
      subst e2
      cases r1
      exact .inr ⟨b, rfl, g _ _ _ _ q Step.refl I rfl⟩,
  fun m h => h.elim (fun ⟨i, e, q⟩ => .inl ⟨i, e, m _ q⟩) fun ⟨i, e, q⟩ => .inr ⟨i, e, m _ q⟩⟩
theorem dk_listOf : DClN c (rListL K) kListOf := ⟨fun I r ⟨x, ds, e, h, q⟩ g => by
    subst e
    obtain ⟨v, e2, r1⟩ := r.one
    subst e2
    obtain ⟨a, xs, e, h, t⟩ := r1.seq h
    subst e
    exact ⟨a, xs, rfl, sqv h, fun p np => g.at I q t np⟩,
  fun m ⟨x, ds, e, h, q⟩ => ⟨x, ds, e, h, m _ q⟩⟩
theorem dk_tupOf : DCl c (rTupL K) kTupOf := ⟨fun I r ⟨x, ds, e, h, q⟩ g => by
    subst e
    obtain ⟨v, e2, r1⟩ := r.one
    subst e2
    obtain ⟨a, xs, e, h, t⟩ := r1.lst h
    subst e
    exact ⟨a, xs, rfl, SqL.of h, fun p np => g.tup I q t np⟩,
  fun m ⟨x, ds, e, h, q⟩ => ⟨x, ds, e, h, m _ q⟩⟩
theorem dk_all : DCl c (rAll K) kAll := ⟨fun I r ⟨x, bs, e, h, q⟩ g => by
    subst e
    obtain ⟨v, e2, r1⟩ := r.one
    subst e2
    obtain ⟨a, xs, e, h, t⟩ := r1.lst h
    subst e
    exact ⟨a, bs, rfl, by rw [← t.bools]; exact SqL.of h, g _ _ _ _ q Step.refl I rfl⟩,
  fun m ⟨x, ds, e, h, q⟩ => ⟨x, ds, e, h, m _ q⟩⟩
theorem dk_any : DCl c (rAny K) kAny := ⟨fun I r ⟨x, bs, e, h, q⟩ g => by
    subst e
    obtain ⟨v, e2, r1⟩ := r.one
    subst e2
    obtain ⟨a, xs, e, h, t⟩ := r1.lst h
    subst e
    exact ⟨a, bs, rfl, by rw [← t.bools]; exact SqL.of h, g _ _ _ _ q Step.refl I rfl⟩,
  fun m ⟨x, ds, e, h, q⟩ => ⟨x, ds, e, h, m _ q⟩⟩
theorem dk_sum : DCl c (rSum K) kSum := ⟨fun I r ⟨x, bs, e, h, q⟩ g => by
    subst e
    obtain ⟨v, e2, r1⟩ := r.one
    subst e2
    obtain ⟨a, xs, e, h, t⟩ := r1.lst h
    subst e
    exact ⟨a, bs, rfl, by rw [← t.ints]; exact SqL.of h, g _ _ _ _ q Step.refl I rfl⟩,
  fun m ⟨x, ds, e, h, q⟩ => ⟨x, ds, e, h, m _ q⟩⟩
end
section
variable (K : PySem.W.Frag) {X : Cx}
theorem k_catA (hK : X.K = K := by rfl) : OpR X (binaryOp .Add) (rCatA K) := hK ▸ op_catA
theorem k_slA (hK : X.K = K := by rfl) : SlR X (rSlA K) := hK ▸ sl_tupA
theorem k_any (hK : X.K = K := by rfl) (hc : X.calm = true := by rfl) : CallR X (.builtin "any") (rAny K) := hK ▸ cr_any hc
theorem OpR.or {f : Value → Value → Sem Value} {r r' : R2} (h : OpR X f r) (h' : OpR X f r') : OpR X f (fun x y H Q => r x y H Q ∨ r' x y H Q) := fun pins s σ H x y v u Q I rx ry q => q.elim (h pins s σ H x y v u Q I rx ry) (h' pins s σ H x y v u Q I rx ry)
theorem k_inA (hu : X.A.units + 65 < cLine) (hK : X.K = K := by rfl) : OpR X (compareOp .In) (rInA K) := OpR.or (k_inD K hu hK) (k_inDT K hu hK)
end

/-! ### targets, comprehensions, statements -/
def dwipe (ρ : DEnv) : List Nat → DEnv
  | [] => ρ
  | v :: vs => (dwipe ρ vs).set v none
theorem dwipe_len (ρ : DEnv) : ∀ vs, (dwipe ρ vs).length = ρ.length
  | [] => rfl
  | v :: vs => by rw [dwipe, List.length_set, dwipe_len ρ vs]
theorem dwipe_get : ∀ {vs : List Nat} {ρ : DEnv} {i : Nat} {x : Av}, (dwipe ρ vs)[i]? = some (some x) → ρ[i]? = some (some x) ∧ i ∉ vs
  | [], ρ, i, x, h => ⟨h, by simp⟩
  | v :: vs, ρ, i, x, h => by
    rw [dwipe] at h
    by_cases e : v = i
    · subst e
      by_cases hl : v < (dwipe ρ vs).length
      · rw [List.getElem?_set_self hl] at h
        cases h
      · rw [List.getElem?_eq_none (by rw [List.length_set]; omega)] at h
        cases h
    · rw [List.getElem?_set_ne e] at h
      obtain ⟨h1, h2⟩ := dwipe_get h
      exact ⟨h1, fun z => (List.mem_cons.mp z).elim (fun z => e z.symm) h2⟩
abbrev DG := PyData → DEnv → (DEnv → Prop) → Prop
abbrev DGs := List PyData → DEnv → (DEnv → Prop) → Prop
def dgName (i : Nat) : DG := fun d ρ Q => Q (ρ.set i (some (.d d)))
def dgNil : DGs := fun ds ρ Q => ds = [] ∧ Q ρ
def dgCons (g : DG) (gs : DGs) : DGs := fun ds ρ Q => ∃ x r, ds = x :: r ∧ g x ρ fun ρ' => gs r ρ' Q
def dgTup (n : Nat) (gs : DGs) : DG := fun d ρ Q => ∃ ds, d = .tuple ds ∧ ds.length = n ∧ gs ds ρ Q
def dgLst (n : Nat) (gs : DGs) : DG := fun d ρ Q => ∃ ds, d = .list ds ∧ ds.length = n ∧ gs ds ρ Q
def tDG (c : DC) (vs : List Nat) (g : DG) : TG := fun v σ H Q => ∃ S γ ρ d, DInv c S γ ρ σ H ∧ Tr S H d v ∧ g d ρ fun ρ' => ∀ σ', wipe σ' vs = wipe σ vs → DInv c S γ ρ' σ' H → Q σ' H
def tDGs (c : DC) (vs : List Nat) (g : DGs) : TGs := fun us σ H Q => ∃ S γ ρ ds, DInv c S γ ρ σ H ∧ TrAll S H ds us ∧ g ds ρ fun ρ' => ∀ σ', wipe σ' vs = wipe σ vs → DInv c S γ ρ' σ' H → Q σ' H
structure PDG (X : Cx) (c : DC) (vs : List Nat) (x : Expr) (g : DG) : Prop where
  run : PG X x (tDG c vs g)
  mono : ∀ {d ρ P P'}, (∀ ρ, P ρ → P' ρ) → g d ρ P → g d ρ P'
structure PDGs (X : Cx) (c : DC) (vs : List Nat) (x : List Expr) (g : DGs) : Prop where
  run : PGs X x (tDGs c vs g)
  mono : ∀ {d ρ P P'}, (∀ ρ, P ρ → P' ρ) → g d ρ P → g d ρ P'
structure PDTs (X : Cx) (c : DC) (x : List Expr) (e : DT) : Prop where
  run : PTs X x (tDT c e)
  mono : ∀ {ρ P P'}, (∀ av, P av → P' av) → e ρ P → e ρ P'
structure DWalk (c : DC) (J : It) (gs : List Gh) (ds : List PyData) : Prop where
  ex : ∃ G Y, Walk J ds.length G Y ∧ (∀ S H, DH c S H → (∀ g ∈ gs, GhR S H g) → G H) ∧ ∀ i S H v H', DH c S H → (∀ g ∈ gs, GhR S H g) → i < ds.length → Y i H v H' → ∃ d, ds[i]? = some d ∧ Same H H' ∧ Tr S H' d v
structure PDI (X : Cx) (c : DC) (tg iter : Expr) (wi : TI) (xs : DN) : Prop where
  pi : PI X tg iter wi
  run : ∀ {S γ ρ σ H P R}, DInv c S γ ρ σ H → xs ρ P → (∀ ds S' H' J gs, P ds → Step c S H S' H' → DInv c S' γ ρ σ H' → (∀ g ∈ gs, GhR S' H' g) → DWalk c J gs ds → R J H') → wi σ H R
  mono : ∀ {ρ P P'}, (∀ av, P av → P' av) → xs ρ P → xs ρ P'
structure DEnds where
  nx : DEnv → Prop
  rt : Av → Prop
  bk : DEnv → Prop
  ct : DEnv → Prop
structure DEnds.Le (E E' : DEnds) : Prop where
  nx : ∀ ρ, E.nx ρ → E'.nx ρ
  rt : ∀ a, E.rt a → E'.rt a
  bk : ∀ ρ, E.bk ρ → E'.bk ρ
  ct : ∀ ρ, E.ct ρ → E'.ct ρ
abbrev DS := DEnds → DEnv → Prop
def dends (c : DC) (γ : List Gh) (D : Ends) : DEnds :=
  ⟨fun ρ => ∀ S σ H, DInv c S γ ρ σ H → D.nx σ H, fun av => ∀ S v H, DH c S H → AvR c S H av v → D.rt v H, fun ρ => ∀ S σ H, DInv c S γ ρ σ H → D.bk σ H, fun ρ => ∀ S σ H, DInv c S γ ρ σ H → D.ct σ H⟩
def tDS (c : DC) (s : DS) : TS := fun D σ H => ∃ S γ ρ, DInv c S γ ρ σ H ∧ s (dends c γ D) ρ
structure PDS (X : Cx) (c : DC) (x : Stmt) (s : DS) : Prop where
  run : PS X x (tDS c s)
  mono : ∀ {E E' : DEnds} {ρ}, E.Le E' → s E ρ → s E' ρ
structure PDSs (X : Cx) (c : DC) (x : List Stmt) (s : DS) : Prop where
  run : PSs X x (tDS c s)
  mono : ∀ {E E' : DEnds} {ρ}, E.Le E' → s E ρ → s E' ρ
section
variable {X : Cx} {c : DC} {S S' : Addr → Prop} {H H' : Hp} {γ : List Gh} {ρ : DEnv} {σ : L2.St} {x x2 : Expr} {vs : List Nat}
theorem DInv.put' (I : DInv c S γ ρ σ H) (i : Nat) {d : PyData} {v : V} (r : Tr S H d v) : DInv c S γ (ρ.set i (some (.d d))) (σ.set i (some v)) H := by
  by_cases h : i < ρ.length
  · exact I.put i (av := .d d) h r fun ds e => nomatch e
  · rw [List.set_eq_of_length_le (by omega), List.set_eq_of_length_le (by rw [← I.len]; omega)]
    exact I
theorem DInv.wipe (I : DInv c S γ ρ σ H) (vs : List Nat) : DInv c S γ (dwipe ρ vs) (wipe σ vs) H := by
  refine ⟨I.h, I.gh, by rw [dwipe_len, wipe_length]; exact I.len, fun i av e => ?_, fun i j ds es a e1 e2 e3 e4 => ?_⟩
  · obtain ⟨h1, h2⟩ := dwipe_get e
    obtain ⟨v, h3, h4⟩ := I.ent i av h1
    exact ⟨v, by rw [wipe_get, if_neg h2]; exact h3, h4⟩
  · obtain ⟨h1, n1⟩ := dwipe_get e1
    obtain ⟨h2, n2⟩ := dwipe_get e2
    rw [wipe_get, if_neg n1] at e3
    rw [wipe_get, if_neg n2] at e4
    exact I.sep i j ds es a h1 h2 e3 e4
theorem DInv.ghs (I : DInv c S γ ρ σ H) {gs : List Gh} (h : ∀ g ∈ gs, GhR S H g) : DInv c S (gs ++ γ) ρ σ H := ⟨I.h, fun g m => (List.mem_append.mp m).elim (h g) (I.gh g), I.len, I.ent, I.sep⟩
theorem DInv.unghs {gs : List Gh} (I : DInv c S (gs ++ γ) ρ σ H) : DInv c S γ ρ σ H := ⟨I.h, fun g m => I.gh g (List.mem_append_right _ m), I.len, I.ent, I.sep⟩
/-- a list that no name holds is changed -/
theorem DInv.chgN (I : DInv c S γ ρ σ H) {D : Addr} {xs ys : List V} (hD : H D = some (.lst xs)) (n : c.H0 D = none) (ns : ¬ S D) (ho : ∀ (j : Nat) (ds : List PyData) (a : Addr), ρ[j]? = some (some (.o ds)) → σ[j]? = some (some (.ref a)) → a ≠ D) :
    DInv c S γ ρ σ (upd H D (.lst ys)) := by
  have k2 : KpL (fun a => a = D) H (upd H D (.lst ys)) := KpL.refl.put rfl ⟨_, hD⟩
  have no : ∀ a, S a → ¬ a = D := fun a s e => ns (e ▸ s)
  refine ⟨⟨c.stab H _ (fun b o nb e => ?_) I.h.w, I.h.k.new n, I.h.sub, fun a s => by rw [upd_ne (no a s)]; exact I.h.trk a s⟩, fun g m => ?_, I.len, fun j av e => ?_, I.sep⟩
  · rw [upd_ne (fun z => nb (by rw [z]; exact n))]
    exact e
  · have h := I.gh g m
    cases g with
    | l a vs ds => exact ⟨h.1, k2.at_ h.2.1 (no _ h.1), TrAll.kpl k2 no _ _ h.2.2⟩
    | t a vs ds => exact ⟨k2.tup h.1, TrAll.kpl k2 no _ _ h.2⟩
  · obtain ⟨v, h1, h2⟩ := I.ent j av e
    refine ⟨v, h1, ?_⟩
    cases av with
    | d x => exact Tr.kpl k2 no _ _ h2
    | v x => exact h2
    | o zs =>
      obtain ⟨D2, us, e', l2, t2, n2, ns2⟩ := h2
      subst e'
      exact ⟨D2, us, rfl, k2.at_ l2 (ho j _ _ e h1), TrAll.kpl k2 no _ _ t2, n2, ns2⟩
theorem pdg_name {i : Nat} (h : PG X x (gName i)) (hi : i ∈ vs) : PDG X c vs x (dgName i) :=
  ⟨pg_weak h fun v σ H Q ⟨S, γ, ρ, d, I, t, q⟩ => q _ (wipe_set hi) (I.put' i t), fun m q => m _ q⟩
theorem pgs_weak {es : List Expr} {t t' : TGs} (h : PGs X es t) (w : ∀ v σ H Q, t' v σ H Q → t v σ H Q) : PGs X es t' := ⟨fun pins s σ H v u Q I r q => h.run pins s σ H v u Q I r (w _ _ _ _ q)⟩
theorem pdgs_nil : PDGs X c vs [] dgNil := ⟨pgs_weak pgs_nil fun us σ H Q ⟨S, γ, ρ, ds, I, t, e, q⟩ => by subst e; exact ⟨t, q σ rfl I⟩, fun m ⟨e, q⟩ => ⟨e, m _ q⟩⟩
theorem pdgs_cons {es : List Expr} {g : DG} {gs : DGs} (hp : ∀ {t u}, PG X x t → PGs X es u → PGs X (x :: es) (gCons t u)) (h1 : PDG X c vs x g) (h2 : PDGs X c vs es gs) : PDGs X c vs (x :: es) (dgCons g gs) :=
  ⟨pgs_weak (hp h1.run h2.run) fun us σ H Q ⟨S, γ, ρ, ds, I, t, d, r, e, q⟩ => by
      subst e
      obtain ⟨v, us', e, t1, t2⟩ := t
      exact ⟨v, us', e, S, γ, ρ, d, I, t1, h1.mono (fun ρ' q σ' hw I' => ⟨S, γ, ρ', r, I', t2, h2.mono (fun ρ2 q σ2 hw2 I2 => q σ2 (hw2.trans hw) I2) q⟩) q⟩,
   fun m ⟨d, r, e, q⟩ => ⟨d, r, e, h1.mono (fun _ q => h2.mono m q) q⟩⟩
theorem pdg_tup {K : PySem.W.Frag} {es : List Expr} {gs : DGs} {n : Nat} (hp : ∀ {t}, PGs X es t → PG X x (gTup K n t)) (h : PDGs X c vs es gs) : PDG X c vs x (dgTup n gs) :=
  ⟨pg_weak (hp h.run) fun v σ H Q ⟨S, γ, ρ, d, I, t, ds, e, l, q⟩ => by
      subst e
      obtain ⟨a, xs, e, h, t⟩ := t
      exact ⟨a, xs, e, SqT.of h, by rw [t.len]; exact l, S, γ, ρ, ds, I, t, q⟩,
   fun m ⟨ds, e, l, q⟩ => ⟨ds, e, l, h.mono m q⟩⟩
theorem pdg_lst {K : PySem.W.Frag} {es : List Expr} {gs : DGs} {n : Nat} (hp : ∀ {t}, PGs X es t → PG X x (gUnl K n t)) (h : PDGs X c vs es gs) : PDG X c vs x (dgLst n gs) :=
  ⟨pg_weak (hp h.run) fun v σ H Q ⟨S, γ, ρ, d, I, t, ds, e, l, q⟩ => by
      subst e
      obtain ⟨a, xs, e, _, h, t⟩ := t
      exact ⟨a, xs, e, SqL.of h, by rw [t.len]; exact l, S, γ, ρ, ds, I, t, q⟩,
   fun m ⟨ds, e, l, q⟩ => ⟨ds, e, l, h.mono m q⟩⟩
def dtYes : DT := fun _ Q => Q true
theorem pdts_nil : PDTs X c [] dtYes := ⟨pts_weak pts_nil fun σ H Q ⟨S, γ, ρ, I, q⟩ => q S H Step.refl I, fun m q => m _ q⟩
theorem pdts_one {t : DT} (h : PDT X c x t) : PDTs X c [x] t := ⟨pts_one h.run, h.mono⟩
/-! what is walked -/
def xsL (e : DE) : DN := fun ρ Q => e ρ fun av => ∃ ds, av = .d (.list ds) ∧ Q ds
def xsT (e : DE) : DN := fun ρ Q => e ρ fun av => ∃ ds, av = .d (.tuple ds) ∧ Q ds
def intsFrom (lo : Int) (n : Nat) : List PyData := (List.range n).map fun (k : Nat) => .int (lo + (k : Int))
def xsR1 (a : DA) : DN := fun ρ Q => a ρ fun avs => ∃ j : Int, avs = [.d (.int j)] ∧ -(2 ^ 62) ≤ j ∧ j < 2 ^ 62 ∧ Q (intsFrom 0 j.toNat)
def xsR2 (a : DA) : DN := fun ρ Q => a ρ fun avs => ∃ i j : Int, avs = [.d (.int i), .d (.int j)] ∧ (-(2 ^ 62) ≤ i ∧ i < 2 ^ 62 ∧ -(2 ^ 62) ≤ j ∧ j < 2 ^ 62) ∧ Q (intsFrom i (j - i).toNat)
theorem pdi_list {K : PySem.W.Frag} {tg : Expr} {e : DE} (hp : ∀ {t}, PE X x t → PI X tg x (iList K t)) (he : PD X c x e) : PDI X c tg x (iList K (tDE c e)) (xsL e) :=
  ⟨hp he.run, fun {S γ ρ σ H P R} I q k => ⟨S, γ, ρ, I, he.mono (fun av ⟨ds, ea, q⟩ S1 v H1 st1 I1 r1 => by
      subst ea
      obtain ⟨a, xs, e, s, h, t⟩ := r1
      subst e
      refine ⟨a, rfl, ⟨xs, SqL.of h⟩, k ds S1 H1 _ [.l a xs ds] q st1 I1 (fun g m => ?_) ⟨_, _, t.len ▸ walk_list (xs := xs), fun S H _ hg => ?_, fun i S H v H' hd hg hi y => ?_⟩⟩
      · rw [List.mem_singleton.mp m]
        exact ⟨s, h, t⟩
      · exact SqL.of (hg _ List.mem_cons_self).2.1
      · obtain ⟨e, y⟩ := y
        subst e
        obtain ⟨d, h1, h2⟩ := (hg _ List.mem_cons_self).2.2.get y
        exact ⟨d, h1, Same.refl _, h2⟩) q⟩,
   fun m q => he.mono (fun _ ⟨ds, e, q⟩ => ⟨ds, e, m _ q⟩) q⟩
theorem pdi_tup {K : PySem.W.Frag} {tg : Expr} {e : DE} (hp : ∀ {t}, PE X x t → PI X tg x (iTup K t)) (he : PD X c x e) : PDI X c tg x (iTup K (tDE c e)) (xsT e) :=
  ⟨hp he.run, fun {S γ ρ σ H P R} I q k => ⟨S, γ, ρ, I, he.mono (fun av ⟨ds, ea, q⟩ S1 v H1 st1 I1 r1 => by
      subst ea
      obtain ⟨a, xs, e, h, t⟩ := r1
      subst e
      refine ⟨a, rfl, ⟨xs, SqT.of h⟩, k ds S1 H1 _ [.t a xs ds] q st1 I1 (fun g m => ?_) ⟨_, _, t.len ▸ walk_tup (xs := xs), fun S H _ hg => ?_, fun i S H v H' hd hg hi y => ?_⟩⟩
      · rw [List.mem_singleton.mp m]
        exact ⟨h, t⟩
      · exact SqT.of (hg _ List.mem_cons_self).1
      · obtain ⟨e, y⟩ := y
        subst e
        obtain ⟨d, h1, h2⟩ := (hg _ List.mem_cons_self).2.get y
        exact ⟨d, h1, Same.refl _, h2⟩) q⟩,
   fun m q => he.mono (fun _ ⟨ds, e, q⟩ => ⟨ds, e, m _ q⟩) q⟩
theorem dw_range {lo : Int} {n : Nat} : DWalk c (Itr lo n) [] (intsFrom lo n) := by
  have hl : (intsFrom lo n).length = n := by unfold intsFrom; rw [List.length_map, List.length_range]
  refine ⟨_, YFn fun i => .int (lo + (i : Int)), by rw [hl]; exact walk_range, fun _ _ _ _ => True.intro, fun i S H v H' _ _ hi y => ?_⟩
  obtain ⟨e1, e2⟩ := y
  subst e1 e2
  rw [hl] at hi
  exact ⟨.int (lo + (i : Int)), by unfold intsFrom; rw [List.getElem?_map, List.getElem?_range hi]; rfl, Same.refl _, rfl⟩
theorem AvsR.ints1 {j : Int} {us : List V} (r : AvsR c S H [.d (.int j)] us) : us = [.int j] := by
  obtain ⟨v, e, r⟩ := r.one
  cases r
  exact e
theorem AvsR.ints2 {i j : Int} {us : List V} (r : AvsR c S H [.d (.int i), .d (.int j)] us) : us = [.int i, .int j] := by
  obtain ⟨v, us', e, r, r2⟩ := r
  cases r
  obtain ⟨v2, e2, r2⟩ := AvsR.one r2
  cases r2
  rw [e, e2]
theorem pdi_range1 {tg : Expr} {es : List Expr} {a : DA} (hp : ∀ {t}, PA X es t → PI X tg x (iRng1 t)) (ha : PDA X c es a) : PDI X c tg x (iRng1 (tDA c a)) (xsR1 a) :=
  ⟨hp ha.run, fun {S γ ρ σ H P R} I q k => ⟨S, γ, ρ, I, ha.mono (fun avs ⟨j, e, l1, l2, q⟩ S1 us H1 st1 I1 r1 => by
      subst e
      exact ⟨j, r1.ints1, l1, l2, k _ S1 H1 _ [] q st1 I1 (fun g m => by cases m) dw_range⟩) q⟩,
   fun m q => ha.mono (fun _ ⟨j, e, l1, l2, q⟩ => ⟨j, e, l1, l2, m _ q⟩) q⟩
theorem pdi_range2 {tg : Expr} {es : List Expr} {a : DA} (hp : ∀ {t}, PA X es t → PI X tg x (iRng2 t)) (ha : PDA X c es a) : PDI X c tg x (iRng2 (tDA c a)) (xsR2 a) :=
  ⟨hp ha.run, fun {S γ ρ σ H P R} I q k => ⟨S, γ, ρ, I, ha.mono (fun avs ⟨i, j, e, l, q⟩ S1 us H1 st1 I1 r1 => by
      subst e
      exact ⟨i, j, r1.ints2, l, k _ S1 H1 _ [] q st1 I1 (fun g m => by cases m) dw_range⟩) q⟩,
   fun m q => ha.mono (fun _ ⟨i, j, e, l, q⟩ => ⟨i, j, e, l, m _ q⟩) q⟩
/-! comprehensions -/
def dLc (vs : List Nat) (xs : DN) (g : DG) (t : DT) (e : DE) : DN := fun ρ Q => xs ρ fun ds => ∃ I : Nat → List PyData → Prop, I 0 [] ∧ (∀ i d acc, ds[i]? = some d → I i acc → g d (dwipe ρ vs) fun ρ' => t ρ' fun b =>
  if b = true then e ρ' (fun av => ∃ z, av = .d z ∧ acc.length < 1000 ∧ I (i + 1) (acc ++ [z])) else I (i + 1) acc) ∧ ∀ acc, I ds.length acc → Q acc
theorem lcw {tg iter elt : Expr} {ifs : List Expr} {scope : Scope} {wi : TI} {xs : DN} {g : DG} {t : DT} {e : DE}
    (hi : PDI X c tg iter wi xs) (hg : ∀ (s : Shared) (H : Hp) (C : Addr) (cl : List (Str × Addr)) (fp : List Addr), PDG (X.blk s H scope (compEnvC scope cl C X.env) fp) c vs tg g)
    (ht : ∀ (s : Shared) (H : Hp) (C : Addr) (cl : List (Str × Addr)) (fp : List Addr), PDTs (X.blk s H scope (compEnvC scope cl C X.env) fp) c ifs t) (he : ∀ (s : Shared) (H : Hp) (C : Addr) (cl : List (Str × Addr)) (fp : List Addr), PD (X.blk s H scope (compEnvC scope cl C X.env) fp) c elt e) :
    ∀ σ H Q, tDN c (dLc vs xs g t e) σ H Q → tLc wi (tDG c vs g) (tDT c t) (tDE c e) vs σ H Q := by
  have g0 := hg X.s_0 X.H_0 0 [] []
  have t0 := ht X.s_0 X.H_0 0 [] []
  have e0 := he X.s_0 X.H_0 0 [] []
  intro σ H Q ⟨S, γ, ρ, I, q⟩
  refine hi.run I q fun ds S1 H1 J gs ⟨Iv, h0, hs, hd⟩ st1 I1 hgs W D nD => ?_
  obtain ⟨G, Y, wk, hG, hY⟩ := W.ex
  have nD0 := I1.h.free nD
  have ho : ∀ (j : Nat) (es : List PyData) (a : Addr), (dwipe ρ vs)[j]? = some (some (.o es)) → (wipe σ vs)[j]? = some (some (.ref a)) → a ≠ D := fun j es a e1 e2 z => by
    obtain ⟨h1, n1⟩ := dwipe_get e1
    rw [wipe_get, if_neg n1] at e2
    obtain ⟨v, h2, D2, us, e3, l3, _⟩ := I1.ent j _ h1
    rw [e2] at h2
    cases h2
    cases e3
    rw [z, nD] at l3
    cases l3
  refine lc_it wk (fun i H' => ∃ S' acc us, DInv c S' (gs ++ γ) (dwipe ρ vs) (wipe σ vs) H' ∧ Step c S1 H1 S' H' ∧ H' D = some (.lst us) ∧ TrAll S' H' acc us ∧ ¬ S' D ∧ Iv i acc) ?_ (fun i H' _ ⟨S', acc, us, I2, _⟩ => hG S' H' I2.h fun g m => I2.gh g (List.mem_append_left _ m)) (fun i v H2 H3 hi ⟨S', acc, us, I2, st2, hD, ta, nS, hI⟩ y => ?_) (fun H' ⟨S', acc, us, I2, st2, hD, ta, nS, hI⟩ => ?_)
  · refine ⟨S1, [], [], ((I1.ghs hgs).wipe vs).newO nD, Step.same (same_upd nD), upd_same, TrAll.nil, fun s => I1.h.trk D s nD, h0⟩
  · obtain ⟨d, hdi, sm, tr⟩ := hY i S' H2 v H3 I2.h (fun g m => I2.gh g (List.mem_append_left _ m)) hi y
    have I3 := I2.same sm
    refine ⟨S', gs ++ γ, dwipe ρ vs, d, I3, tr, g0.mono (fun ρ' hq σ' hw I4 => ⟨hw.trans wipe_wipe, S', gs ++ γ, ρ', I4, t0.mono (fun b hb S5 H5 st5 I5 => ?_) hq⟩) (hs i d acc hdi hI)⟩
    have w3 := I3.h.w
    have w5 := I5.h.w
    have st25 := (Step.same (c := c) (S := S') sm).trans w3 w5 st5
    refine ifMono (fun hb => ?_) (fun hb => ?_) hb
    · refine ⟨S5, gs ++ γ, ρ', I5, e0.mono (fun av hz S6 w H6 st6 I6 r6 => ?_) hb⟩
      obtain ⟨z, ez, hlen, hI'⟩ := hz
      subst ez
      have w6 := I6.h.w
      have st26 := st25.trans w5 w6 st6
      have st16 := st2.trans I2.h.w w6 st26
      have hD6 := st26.k.at_ hD (c.new nD0)
      have nS6 : ¬ S6 D := fun s => (st26.new D s).elim nS fun z => by rw [hD] at z; exact nomatch z.1
      have ta6 : TrAll S6 H6 (acc ++ [z]) (us ++ [w]) := TrAll.snoc (TrAll.mono st26.inc _ _ (TrAll.kpl st26.k (fun _ s => I2.h.notM s) _ _ ta)) r6
      have k2 : KpL (fun a => a = D) H6 (upd H6 D (.lst (us ++ [w]))) := KpL.refl.put rfl ⟨_, hD6⟩
      have no : ∀ a, S6 a → ¬ a = D := fun a s e => nS6 (e ▸ s)
      exact ⟨us, hD6, small1000 (by rw [ta.len]; omega), S6, acc ++ [z], us ++ [w], (I2.step st26 w6).chgN hD6 nD0 nS6 ho, ⟨st16.inc, st16.k.new nD, fun a s => (st16.new a s).elim .inl fun z => .inr ⟨z.1, by rw [upd_ne (no a s)]; exact z.2⟩⟩, upd_same, TrAll.kpl k2 no _ _ ta6, nS6, hI'⟩
    · have hb := hb
      have n5 : ¬ S5 D := fun s => (st25.new D s).elim nS fun z => by rw [hD] at z; exact nomatch z.1
      exact ⟨S5, acc, us, I2.step st25 w5, st2.trans I2.h.w w5 st25, st25.k.at_ hD (c.new nD0), TrAll.mono st25.inc _ _ (TrAll.kpl st25.k (fun _ s => I2.h.notM s) _ _ ta), n5, hb⟩
  · exact hd acc hI S' D us H' (st1.trans I1.h.w I2.h.w st2) (I1.step st2 I2.h.w) hD ta (c.back I1.h.w st1.k nD) nS
theorem dLc_mono {tg iter : Expr} {wi : TI} {xs : DN} {g : DG} {t : DT} {e : DE} (hi : PDI X c tg iter wi xs) : ∀ {ρ P P'}, (∀ ds, P ds → P' ds) → dLc vs xs g t e ρ P → dLc vs xs g t e ρ P' := fun m q => hi.mono (fun ds ⟨J, h0, hs, hd⟩ => ⟨J, h0, hs, fun acc h => m _ (hd acc h)⟩) q
theorem pn_lc {tg iter elt : Expr} {ifs : List Expr} {scope : Scope} {wi : TI} {xs : DN} {g : DG} {t : DT} {e : DE}
    (hp : ∀ {g : TG} {tt : TT} {te : TE}, PI X tg iter wi → (∀ (s : Shared) (H : Hp) (C : Addr) (cl : List (Str × Addr)) (fp : List Addr), PG (X.blk s H scope (compEnvC scope cl C X.env) fp) tg g) →
      (∀ (s : Shared) (H : Hp) (C : Addr) (cl : List (Str × Addr)) (fp : List Addr), PTs (X.blk s H scope (compEnvC scope cl C X.env) fp) ifs tt) → (∀ (s : Shared) (H : Hp) (C : Addr) (cl : List (Str × Addr)) (fp : List Addr), PE (X.blk s H scope (compEnvC scope cl C X.env) fp) elt te) → PE X x (tLc wi g tt te vs))
    (hi : PDI X c tg iter wi xs) (hg : ∀ (s : Shared) (H : Hp) (C : Addr) (cl : List (Str × Addr)) (fp : List Addr), PDG (X.blk s H scope (compEnvC scope cl C X.env) fp) c vs tg g)
    (ht : ∀ (s : Shared) (H : Hp) (C : Addr) (cl : List (Str × Addr)) (fp : List Addr), PDTs (X.blk s H scope (compEnvC scope cl C X.env) fp) c ifs t) (he : ∀ (s : Shared) (H : Hp) (C : Addr) (cl : List (Str × Addr)) (fp : List Addr), PD (X.blk s H scope (compEnvC scope cl C X.env) fp) c elt e) :
    PDN X c x (dLc vs xs g t e) := ⟨pe_weak (hp hi.pi (fun s H C cl fp => (hg s H C cl fp).run) (fun s H C cl fp => (ht s H C cl fp).run) (fun s H C cl fp => (he s H C cl fp).run)) (lcw hi hg ht he), dLc_mono hi⟩
end

/-! ### statements -/
def dSkip : DS := fun E ρ => E.nx ρ
def dSeq (s t : DS) : DS := fun E ρ => s { E with nx := fun ρ' => t E ρ' } ρ
def dSet (i : Nat) (e : DE) : DS := fun E ρ => e ρ fun av => ∃ d, av = .d d ∧ E.nx (ρ.set i (some (.d d)))
def dSetV (i : Nat) (e : DE) : DS := fun E ρ => e ρ fun av => ∃ v, av = .v v ∧ E.nx (ρ.set i (some (.v v)))
def dOwn (i : Nat) (n : DN) : DS := fun E ρ => n ρ fun ds => E.nx (ρ.set i (some (.o ds)))
def dAsg (e : DE) (g : DG) : DS := fun E ρ => e ρ fun av => ∃ d, av = .d d ∧ g d ρ E.nx
def dDo (e : DE) : DS := fun E ρ => e ρ fun _ => E.nx ρ
def dRet (e : DE) : DS := fun E ρ => e ρ E.rt
def dRetN : DS := fun E _ => E.rt (.d .none)
def dIf (t : DT) (s u : DS) : DS := fun E ρ => t ρ fun b => if b = true then s E ρ else u E ρ
def dBrk : DS := fun E ρ => E.bk ρ
def dCnt : DS := fun E ρ => E.ct ρ
def dApp (i : Nat) (e : DE) : DS := fun E ρ => ∃ ds, ρ[i]? = some (some (.o ds)) ∧ e ρ fun av => ∃ d, av = .d d ∧ ds.length < 1000 ∧ E.nx (ρ.set i (some (.o (ds ++ [d]))))
def dPut (i : Nat) (e f : DE) : DS := fun E ρ => ∃ ds, ρ[i]? = some (some (.o ds)) ∧ f ρ fun v => ∃ d, v = .d d ∧ e ρ fun k => ∃ j n, k = .d (.int j) ∧ ixN ds.length j = some n ∧ E.nx (ρ.set i (some (.o (ds.set n d))))
def dFor (xs : DN) (g : DG) (b : DS) : DS := fun E ρ => xs ρ fun ds => ∃ I : Nat → DEnv → Prop, I 0 ρ ∧ (∀ i d ρ', ds[i]? = some d → I i ρ' → g d ρ' fun ρ2 => b ⟨I (i + 1), E.rt, E.nx, I (i + 1)⟩ ρ2) ∧ ∀ ρ', I ds.length ρ' → E.nx ρ'
/-- an own list is data from here on -/
def dThaw (i : Nat) (s : DS) : DS := fun E ρ => ∃ ds, ρ[i]? = some (some (.o ds)) ∧ s E (ρ.set i (some (.d (.list ds))))
def dAug (i : Nat) (k : Av → Av → (Av → Prop) → Prop) (e : DE) : DS := fun E ρ => ∃ x, ρ[i]? = some (some x) ∧ e ρ fun y => k x y fun av => ∃ d, av = .d d ∧ E.nx (ρ.set i (some (.d d)))
section
variable {X : Cx} {c : DC} {S S' : Addr → Prop} {H H' : Hp} {γ : List Gh} {ρ : DEnv} {σ : L2.St} {x x2 : Expr} {st : Stmt} {sts : List Stmt}
theorem DEnds.le_seq {E E' : DEnds} {t : DS} (h : E.Le E') (m : ∀ {ρ}, t E ρ → t E' ρ) : DEnds.Le { E with nx := fun ρ' => t E ρ' } { E' with nx := fun ρ' => t E' ρ' } := ⟨fun _ q => m q, h.rt, h.bk, h.ct⟩
theorem pdss_nil : PDSs X c [] dSkip := ⟨pss_weak pss_nil fun D σ H ⟨S, γ, ρ, I, q⟩ => q S σ H I, fun h q => h.nx _ q⟩
theorem pdss_cons {s t : DS} (h1 : PDS X c st s) (h2 : PDSs X c sts t) : PDSs X c (st :: sts) (dSeq s t) :=
  ⟨pss_weak (pss_cons h1.run h2.run) fun D σ H ⟨S, γ, ρ, I, q⟩ => ⟨S, γ, ρ, I, h1.mono (E := { dends c γ D with nx := fun ρ' => t (dends c γ D) ρ' }) (E' := dends c γ { D with nx := tDS c t D }) ⟨fun ρ' q S' σ' H' I' => ⟨S', γ, ρ', I', q⟩, fun _ q => q, fun _ q => q, fun _ q => q⟩ q⟩,
   fun h q => h1.mono (DEnds.le_seq h (h2.mono h)) q⟩
theorem pdss_one {s : DS} (h1 : PDS X c st s) : PDSs X c [st] s := ⟨pss_one h1.run, h1.mono⟩
theorem set_weak {i : Nat} {e : DE} (m : ∀ {ρ P P'}, (∀ av, P av → P' av) → e ρ P → e ρ P') {D : Ends} : tDS c (dSet i e) D σ H → tDE c e σ H fun x H1 => gName i x σ H1 D.nx :=
  fun ⟨S, γ, ρ, I, q⟩ => ⟨S, γ, ρ, I, m (fun av ⟨d, e, g⟩ S1 v H1 st1 I1 r1 => by subst e; exact g S1 _ H1 (I1.put' i r1)) q⟩
theorem own_weak {i : Nat} {n : DN} (m : ∀ {ρ P P'}, (∀ av, P av → P' av) → n ρ P → n ρ P') {D : Ends} : tDS c (dOwn i n) D σ H → tDN c n σ H fun x H1 => gName i x σ H1 D.nx :=
  fun ⟨S, γ, ρ, I, q⟩ => ⟨S, γ, ρ, I, m (fun ds g S1 D1 xs H1 st1 I1 e t n ns => by
      have r : AvR c S1 H1 (.o ds) (.ref D1) := ⟨D1, xs, rfl, e, t, I.h.free n, ns⟩
      refine g S1 _ H1 ?_
      by_cases h : i < ρ.length
      · refine I1.put i h r fun ds1 e1 j es a hj e2 e3 z => ?_
        cases z
        obtain ⟨v, h1, D2, us, e4, l4, _⟩ := I.ent j _ e2
        rw [e3] at h1
        cases h1
        cases e4
        rw [n] at l4
        cases l4
      · rw [List.set_eq_of_length_le (by omega), List.set_eq_of_length_le (by rw [← I1.len]; omega)]
        exact I1) q⟩
theorem frz_weak {n : DN} (m : ∀ {ρ P P'}, (∀ av, P av → P' av) → n ρ P → n ρ P') {Q : VK} : tDE c (dFrz n) σ H Q → tDN c n σ H Q :=
  fun ⟨S, γ, ρ, I, q⟩ => ⟨S, γ, ρ, I, m (fun ds g S1 D xs H1 st1 I1 e t n ns => g _ (.ref D) H1 (st1.add n e) (I.add I1 n e) ⟨D, xs, rfl, .inr rfl, e, TrAll.mono (fun _ s => .inl s) _ _ t⟩) q⟩
theorem pds_set {i : Nat} {e : DE} (hp : ∀ {t}, PE X x t → PS X st (tAsg t (gName i))) (he : PD X c x e) : PDS X c st (dSet i e) :=
  ⟨ps_weak (hp he.run) fun D σ H => set_weak (e := e) (fun m q => he.mono m q), fun h q => he.mono (fun _ ⟨d, e, g⟩ => ⟨d, e, h.nx _ g⟩) q⟩
theorem pds_own {i : Nat} {n : DN} (hp : ∀ {t}, PE X x t → PS X st (tAsg t (gName i))) (hn : PDN X c x n) : PDS X c st (dOwn i n) :=
  ⟨ps_weak (hp hn.run) fun D σ H => own_weak (n := n) (fun m q => hn.mono m q), fun h q => hn.mono (fun _ g => h.nx _ g) q⟩
section
variable {tg iter elt : Expr} {ifs : List Expr} {scope : Scope} {wi : TI} {xs : DN} {g : DG} {t : DT} {e : DE} {i : Nat} {vs : List Nat}
theorem pds_setLc
    (hp : ∀ {g : TG} {tt : TT} {te : TE}, PI X tg iter wi → (∀ (s : Shared) (H : Hp) (C : Addr) (cl : List (Str × Addr)) (fp : List Addr), PG (X.blk s H scope (compEnvC scope cl C X.env) fp) tg g) →
      (∀ (s : Shared) (H : Hp) (C : Addr) (cl : List (Str × Addr)) (fp : List Addr), PTs (X.blk s H scope (compEnvC scope cl C X.env) fp) ifs tt) → (∀ (s : Shared) (H : Hp) (C : Addr) (cl : List (Str × Addr)) (fp : List Addr), PE (X.blk s H scope (compEnvC scope cl C X.env) fp) elt te) → PS X st (tAsg (tLc wi g tt te vs) (gName i)))
    (hi : PDI X c tg iter wi xs) (hg : ∀ (s : Shared) (H : Hp) (C : Addr) (cl : List (Str × Addr)) (fp : List Addr), PDG (X.blk s H scope (compEnvC scope cl C X.env) fp) c vs tg g)
    (ht : ∀ (s : Shared) (H : Hp) (C : Addr) (cl : List (Str × Addr)) (fp : List Addr), PDTs (X.blk s H scope (compEnvC scope cl C X.env) fp) c ifs t) (he : ∀ (s : Shared) (H : Hp) (C : Addr) (cl : List (Str × Addr)) (fp : List Addr), PD (X.blk s H scope (compEnvC scope cl C X.env) fp) c elt e) : PDS X c st (dSet i (dFrz (dLc vs xs g t e))) :=
  ⟨ps_weak (hp hi.pi (fun s H C cl fp => (hg s H C cl fp).run) (fun s H C cl fp => (ht s H C cl fp).run) (fun s H C cl fp => (he s H C cl fp).run)) fun D σ H h => lcw hi hg ht he _ _ _ (frz_weak (n := dLc vs xs g t e) (fun m q => dLc_mono hi m q) (set_weak (e := dFrz (dLc vs xs g t e)) (fun m q => dLc_mono hi (fun _ g => m _ g) q) h)), fun h q => dLc_mono hi (fun _ ⟨d, e, g⟩ => ⟨d, e, h.nx _ g⟩) q⟩
theorem pds_ownLc
    (hp : ∀ {g : TG} {tt : TT} {te : TE}, PI X tg iter wi → (∀ (s : Shared) (H : Hp) (C : Addr) (cl : List (Str × Addr)) (fp : List Addr), PG (X.blk s H scope (compEnvC scope cl C X.env) fp) tg g) →
      (∀ (s : Shared) (H : Hp) (C : Addr) (cl : List (Str × Addr)) (fp : List Addr), PTs (X.blk s H scope (compEnvC scope cl C X.env) fp) ifs tt) → (∀ (s : Shared) (H : Hp) (C : Addr) (cl : List (Str × Addr)) (fp : List Addr), PE (X.blk s H scope (compEnvC scope cl C X.env) fp) elt te) → PS X st (tAsg (tLc wi g tt te vs) (gName i)))
    (hi : PDI X c tg iter wi xs) (hg : ∀ (s : Shared) (H : Hp) (C : Addr) (cl : List (Str × Addr)) (fp : List Addr), PDG (X.blk s H scope (compEnvC scope cl C X.env) fp) c vs tg g)
    (ht : ∀ (s : Shared) (H : Hp) (C : Addr) (cl : List (Str × Addr)) (fp : List Addr), PDTs (X.blk s H scope (compEnvC scope cl C X.env) fp) c ifs t) (he : ∀ (s : Shared) (H : Hp) (C : Addr) (cl : List (Str × Addr)) (fp : List Addr), PD (X.blk s H scope (compEnvC scope cl C X.env) fp) c elt e) : PDS X c st (dOwn i (dLc vs xs g t e)) :=
  ⟨ps_weak (hp hi.pi (fun s H C cl fp => (hg s H C cl fp).run) (fun s H C cl fp => (ht s H C cl fp).run) (fun s H C cl fp => (he s H C cl fp).run)) fun D σ H h => lcw hi hg ht he _ _ _ (own_weak (n := dLc vs xs g t e) (fun m q => dLc_mono hi m q) h), fun h q => dLc_mono hi (fun _ g => h.nx _ g) q⟩
end
theorem pds_asg {e : DE} {g : DG} {vs : List Nat} (hp : ∀ {t u}, PE X x t → PG X x2 u → PS X st (tAsg t u)) (he : PD X c x e) (hg : PDG X c vs x2 g) : PDS X c st (dAsg e g) :=
  ⟨ps_weak (hp he.run hg.run) fun D σ H ⟨S, γ, ρ, I, q⟩ => ⟨S, γ, ρ, I, he.mono (fun av ⟨d, e, q⟩ S1 v H1 st1 I1 r1 => by
      subst e
      exact ⟨S1, γ, ρ, d, I1, r1, hg.mono (fun ρ' q σ' _ I' => q S1 σ' H1 I') q⟩) q⟩, fun h q => he.mono (fun _ ⟨d, e, g⟩ => ⟨d, e, hg.mono (fun _ q => h.nx _ q) g⟩) q⟩
theorem pds_do {e : DE} (hp : ∀ {t}, PE X x t → PS X st (tDrop t)) (he : PD X c x e) : PDS X c st (dDo e) :=
  ⟨ps_weak (hp he.run) fun D σ H ⟨S, γ, ρ, I, q⟩ => ⟨S, γ, ρ, I, he.mono (fun av g S1 v H1 st1 I1 r1 => g S1 σ H1 I1) q⟩, fun h q => he.mono (fun _ g => h.nx _ g) q⟩
theorem pds_ret {e : DE} {pos} (he : PD X c x e) : PDS X c (.Return (some x) pos) (dRet e) :=
  ⟨ps_weak (ps_ret he.run) fun D σ H ⟨S, γ, ρ, I, q⟩ => ⟨S, γ, ρ, I, he.mono (fun av g S1 v H1 st1 I1 r1 => g S1 v H1 I1.h r1) q⟩, fun h q => he.mono (fun _ g => h.rt _ g) q⟩
theorem pds_retN {pos} : PDS X c (.Return none pos) dRetN := ⟨ps_weak ps_retN fun D σ H ⟨S, γ, ρ, I, q⟩ => q S .non H I.h rfl, fun h q => h.rt _ q⟩
theorem pds_if {t : DT} {s u : DS} {a b : List Stmt} {pos} (ht : PDT X c x t) (hs : PDSs X c a s) (hu : PDSs X c b u) : PDS X c (.If x a b pos) (dIf t s u) :=
  ⟨ps_weak (ps_if ht.run hs.run hu.run) fun D σ H ⟨S, γ, ρ, I, q⟩ => ⟨S, γ, ρ, I, ht.mono (fun b g S1 H1 st1 I1 => ifMono (fun g => ⟨S1, γ, ρ, I1, g⟩) (fun g => ⟨S1, γ, ρ, I1, g⟩) g) q⟩, fun h q => ht.mono (fun _ g => ifMono (hs.mono h) (hu.mono h) g) q⟩
theorem pds_pass {pos} : PDS X c (.Pass pos) dSkip := ⟨ps_weak ps_pass fun D σ H ⟨S, γ, ρ, I, q⟩ => q S σ H I, fun h q => h.nx _ q⟩
theorem pds_brk {pos} : PDS X c (.Break pos) dBrk := ⟨ps_weak ps_break fun D σ H ⟨S, γ, ρ, I, q⟩ => q S σ H I, fun h q => h.bk _ q⟩
theorem pds_cnt {pos} : PDS X c (.Continue pos) dCnt := ⟨ps_weak ps_continue fun D σ H ⟨S, γ, ρ, I, q⟩ => q S σ H I, fun h q => h.ct _ q⟩
theorem pds_app {K : PySem.W.Frag} {i : Nat} {e : DE} (hp : ∀ {t}, PE X x t → PS X st (tDrop (tBM K "list" rAppend (tVar i) (tCons t tNil)))) (he : PD X c x e) : PDS X c st (dApp i e) :=
  ⟨ps_weak (hp he.run) fun D σ H ⟨S, γ, ρ, I, ds, hi, q⟩ => by
      obtain ⟨v, h1, D1, xs, e1, l, t, n, ns⟩ := I.ent i _ hi
      subst e1
      refine ⟨_, h1, .inl ⟨rfl, _, SqL.of l⟩, S, γ, ρ, I, he.mono (fun av ⟨d, e, hl, g⟩ S1 v H1 st1 I1 r1 => ?_) q⟩
      subst e
      have l1 := st1.k.at_ l (c.new n)
      exact ⟨D1, xs, v, rfl, rfl, l1, small1000 (by rw [t.len]; omega), g S1 σ _ (I1.chg hi h1 (TrAll.snoc (TrAll.mono st1.inc _ _ (TrAll.kpl st1.k (fun _ s => I.h.notM s) _ _ t)) r1))⟩,
   fun h ⟨ds, hi, q⟩ => ⟨ds, hi, he.mono (fun _ ⟨d, e, hl, g⟩ => ⟨d, e, hl, h.nx _ g⟩) q⟩⟩
theorem TrAll.set : ∀ {ds : List PyData} {xs : List V} (n : Nat) {d : PyData} {v : V}, TrAll S H ds xs → Tr S H d v → TrAll S H (ds.set n d) (xs.set n v)
  | [], xs, n, d, v, e, t => by cases e; exact TrAll.nil
  | z :: r, _, 0, d, v, ⟨y, us, e, q, w⟩, t => by subst e; exact .cons t w
  | z :: r, _, n + 1, d, v, ⟨y, us, e, q, w⟩, t => by subst e; exact .cons q (TrAll.set n w t)
theorem pds_put {i : Nat} {e f : DE} (hp : ∀ {t u}, PE X x2 u → PE X x t → PS X st (tAsg t (gSub (tVar i) u rSetL))) (he : PD X c x2 e) (hf : PD X c x f) : PDS X c st (dPut i e f) :=
  ⟨ps_weak (hp he.run hf.run) fun D σ H ⟨S, γ, ρ, I, ds, hi, q⟩ => by
      obtain ⟨v, h1, D1, xs, e1, l, t, n, ns⟩ := I.ent i _ hi
      subst e1
      refine ⟨S, γ, ρ, I, hf.mono (fun av ⟨d, e1, q⟩ S1 v H1 st1 I1 r1 => ?_) q⟩
      subst e1
      refine ⟨_, h1, S1, γ, ρ, I1, he.mono (fun kv ⟨j, m, e2, hx, q⟩ S2 u H2 st2 I2 r2 => ?_) q⟩
      subst e2
      have st := st1.trans I1.h.w I2.h.w st2
      have l2 := st.k.at_ l (c.new n)
      have t2 : TrAll S2 H2 ds xs := TrAll.mono st.inc _ _ (TrAll.kpl st.k (fun _ s => I.h.notM s) _ _ t)
      exact ⟨D1, xs, j, m, rfl, r2, l2, by rw [t.len]; exact hx, q S2 σ _ (I2.chg hi h1 (t2.set m (Tr.mono st2.inc _ _ (Tr.kpl st2.k (fun _ s => I1.h.notM s) _ _ r1))))⟩,
   fun h ⟨ds, hi, q⟩ => ⟨ds, hi, hf.mono (fun _ ⟨d, e1, q⟩ => ⟨d, e1, he.mono (fun _ ⟨j, m, e2, hx, q⟩ => ⟨j, m, e2, hx, h.nx _ q⟩) q⟩) q⟩⟩
theorem pds_thaw {i : Nat} {s : DS} (h : PDS X c st s) : PDS X c st (dThaw i s) :=
  ⟨ps_weak h.run fun D σ H ⟨S, γ, ρ, I, ds, hi, q⟩ => by obtain ⟨S', I'⟩ := I.frz hi; exact ⟨S', γ, _, I', q⟩, fun l ⟨ds, hi, q⟩ => ⟨ds, hi, h.mono l q⟩⟩
theorem pds_aug {i : Nat} {e : DE} {r : TIp} {k : Av → Av → (Av → Prop) → Prop} (hp : ∀ {t}, PE X x t → PS X st (tAug i t r)) (hk : DOp c r k) (he : PD X c x e) : PDS X c st (dAug i k e) :=
  ⟨ps_weak (hp he.run) fun D σ H ⟨S, γ, ρ, I, a, hi, q⟩ => by
      obtain ⟨v, h1, r1⟩ := I.ent i _ hi
      exact ⟨v, h1, S, γ, ρ, I, he.mono (fun b g S1 u H1 st1 I1 r2 => hk.run I1 (r1.step I.h st1) r2 g fun av S3 w H3 ⟨d, e, g⟩ st3 I3 r3 => by subst e; exact g S3 _ H3 (I3.put' i r3)) q⟩,
   fun h ⟨a, hi, q⟩ => ⟨a, hi, he.mono (fun _ g => hk.mono (fun _ ⟨d, e, g⟩ => ⟨d, e, h.nx _ g⟩) g) q⟩⟩
theorem pds_for {tg iter : Expr} {wi : TI} {xs : DN} {g : DG} {b : DS} {body : List Stmt} {vs : List Nat} (hp : ∀ {u t}, PI X tg iter wi → PG X tg u → PSs X body t → PS X st (tFor wi u t)) (hi : PDI X c tg iter wi xs) (hg : PDG X c vs tg g) (hb : PDSs X c body b) : PDS X c st (dFor xs g b) :=
  ⟨ps_weak (hp hi.pi hg.run hb.run) fun D σ H ⟨S, γ, ρ, I, q⟩ => hi.run I q fun ds S1 H1 J gs ⟨Iv, h0, hs, hd⟩ st1 I1 hgs W => by
      obtain ⟨G, Y, wk, hG, hY⟩ := W.ex
      refine for_it wk (fun i σ' H' => ∃ S' ρ', DInv c S' (gs ++ γ) ρ' σ' H' ∧ Iv i ρ') ⟨S1, ρ, I1.ghs hgs, h0⟩ (fun i σ' H' _ ⟨S', ρ', I', _⟩ => hG S' H' I'.h fun g m => I'.gh g (List.mem_append_left _ m)) (fun i v σ' H2 H3 hlt ⟨S', ρ', I', hI⟩ y => ?_) (fun σ' H' ⟨S', ρ', I', hI⟩ => hd ρ' hI S' σ' H' I'.unghs)
      obtain ⟨d, hdi, sm, tr⟩ := hY i S' H2 v H3 I'.h (fun g m => I'.gh g (List.mem_append_left _ m)) hlt y
      refine ⟨S', gs ++ γ, ρ', d, I'.same sm, tr, hg.mono (fun ρ2 q σ2 _ I2 => ⟨S', gs ++ γ, ρ2, I2, hb.mono (E := ⟨Iv (i + 1), (dends c γ D).rt, (dends c γ D).nx, Iv (i + 1)⟩) ⟨fun ρ3 q S3 σ3 H3 I3 => ⟨S3, ρ3, I3, q⟩, fun av q S3 v3 H3 h3 r3 => q S3 v3 H3 h3 r3, fun ρ3 q S3 σ3 H3 I3 => q S3 σ3 H3 I3.unghs, fun ρ3 q S3 σ3 H3 I3 => ⟨S3, ρ3, I3, q⟩⟩ q⟩) (hs i d ρ' hdi hI)⟩,
   fun {E E' ρ} h q => hi.mono (fun ds ⟨Iv, h0, hs, hd⟩ => ⟨Iv, h0, fun i d ρ' e z => hg.mono (fun ρ2 q => hb.mono (E := ⟨Iv (i + 1), E.rt, E.nx, Iv (i + 1)⟩) (E' := ⟨Iv (i + 1), E'.rt, E'.nx, Iv (i + 1)⟩) ⟨fun _ q => q, fun a q => h.rt a q, fun ρ q => h.nx ρ q, fun _ q => q⟩ q) (hs i d ρ' e z), fun ρ' z => h.nx _ (hd ρ' z)⟩) q⟩
end

/-! ### isinstance, slices, chains -/
def dIsi (f : PyData → Bool) (e : DE) : DE := fun ρ Q => e ρ fun av => ∃ d, av.dat = some d ∧ Q (.d (.bool (f d)))
def dPart (e : DE) : DEnv → (Option Int → Prop) → Prop := fun ρ Q => e ρ fun av => ∃ i, av = .d (.int i) ∧ Q (some i)
def dNoP : DEnv → (Option Int → Prop) → Prop := fun _ Q => Q none
abbrev DO := DEnv → (Option Int → Prop) → Prop
def tDO (c : DC) (o : DO) : TO := fun σ H Q => ∃ S γ ρ, DInv c S γ ρ σ H ∧ o ρ fun i => ∀ S' H', Step c S H S' H' → DInv c S' γ ρ σ H' → Q i H'
structure PDO (X : Cx) (c : DC) (x : Option Expr) (o : DO) : Prop where
  run : PO X x (tDO c o)
  mono : ∀ {ρ P P'}, (∀ av, P av → P' av) → o ρ P → o ρ P'
theorem po_weak {X : Cx} {e : Option Expr} {t t' : TO} (h : PO X e t) (w : ∀ σ H Q, t' σ H Q → t σ H Q) : PO X e t' := ⟨fun pins s σ H Q I q => h.run pins s σ H Q I (w _ _ _ q)⟩
def nSl (e : DE) (lo hi : DO) : DN := fun ρ Q => e ρ fun av => lo ρ fun l => hi ρ fun h => ∃ ds, av.dat = some (.list ds) ∧ Q (cutL ds l h)
def dSlT (e : DE) (lo hi : DO) : DE := fun ρ Q => e ρ fun av => lo ρ fun l => hi ρ fun h => ∃ ds, av = .d (.tuple ds) ∧ Q (.d (.tuple (cutL ds l h)))
def dChain (p q : Int → Int → Bool) (a b e : DE) : DE := fun ρ Q => a ρ fun x => b ρ fun y => ∃ i j, x = .d (.int i) ∧ y = .d (.int j) ∧ if p i j = true then e ρ (fun z => ∃ k, z = .d (.int k) ∧ Q (.d (.bool (q j k)))) else Q (.d (.bool false))
section
variable {K : PySem.W.Frag} {X : Cx} {c : DC} {S S' : Addr → Prop} {H H' : Hp} {γ : List Gh} {ρ : DEnv} {σ : L2.St} {x x2 : Expr}
theorem AvR.ty {av : Av} {v : V} {d : PyData} (r : AvR c S H av v) (e : av.dat = some d) : TyX K H v (.type (clsN d)) := by
  obtain ⟨S1, t⟩ := r.dat_tr e
  exact tr_ty K t
theorem pd_isi {T : String} {f : PyData → Bool} {e : DE} (hk : ∀ d, PySem.W.kitOne K (.type (clsN d)) (.type T) = some (f d)) (hp : ∀ {t}, PE X x t → PE X x2 (tCB (rIsi K) (tCons t (tCons (tC (.ty T)) tNil)))) (he : PD X c x e) : PD X c x2 (dIsi f e) :=
  ⟨pe_weak (hp he.run) fun σ H Q ⟨S, γ, ρ, I, q⟩ => ⟨S, γ, ρ, I, he.mono (fun av ⟨d, ed, g⟩ S1 v H1 st1 I1 r1 => ⟨v, .ty T, _, _, f d, rfl, .ty T, r1.ty ed, hk d, g S1 _ H1 st1 I1 rfl⟩) q⟩, fun m q => he.mono (fun _ ⟨d, ed, g⟩ => ⟨d, ed, m _ g⟩) q⟩
theorem ki_ltD (K : PySem.W.Frag) (d : PyData) : PySem.W.kitAny K (.type (clsN d)) [.type "list", .type "tuple"] = some (isLs d || isTp d) := by
  unfold PySem.W.kitAny
  rw [ki_list K d]
  cases h : isLs d
  · unfold PySem.W.kitAny
    rw [ki_tuple K d]
    cases h2 : isTp d
    · rfl
    · rfl
  · rfl
/-- isinstance(x, (list, tuple)) -/
theorem pd_isiLT {e : DE} (hp : ∀ {t}, PE X x t → PE X x2 (tCB (rIsiT K) (tCons t (tCons (tTup (tCons (tC (.ty "list")) (tCons (tC (.ty "tuple")) tNil))) tNil)))) (he : PD X c x e) : PD X c x2 (dIsi (fun d => isLs d || isTp d) e) :=
  ⟨pe_weak (hp he.run) fun σ H Q ⟨S, γ, ρ, I, q⟩ => ⟨S, γ, ρ, I, he.mono (fun av ⟨d, ed, g⟩ S1 v H1 st1 I1 r1 => ⟨small100 (n := 2) (by decide), fun p np => ⟨v, p, _, _, _, _, rfl, upd_same, .cons (.ty _) (.cons (.ty _) .nil), (r1.step I1.h (Step.same (same_upd np))).ty ed, ki_ltD K d, g S1 _ _ (st1.trans I1.h.w (I1.newO np).h.w (Step.same (same_upd np))) (I1.newO np) rfl⟩⟩) q⟩,
   fun m q => he.mono (fun _ ⟨d, ed, g⟩ => ⟨d, ed, m _ g⟩) q⟩
theorem pdo_none : PDO X c none dNoP := ⟨po_weak po_none fun σ H Q ⟨S, γ, ρ, I, q⟩ => q S H Step.refl I, fun m q => m _ q⟩
theorem pdo_some {e : DE} (he : PD X c x e) : PDO X c (some x) (dPart e) :=
  ⟨po_weak (po_some he.run) fun σ H Q ⟨S, γ, ρ, I, q⟩ => ⟨S, γ, ρ, I, he.mono (fun av ⟨i, e, g⟩ S1 v H1 st1 I1 r1 => by subst e; exact ⟨i, r1, g S1 H1 st1 I1⟩) q⟩, fun m q => he.mono (fun _ ⟨i, e, g⟩ => ⟨i, e, m _ g⟩) q⟩
theorem cut_tr {ds : List PyData} {xs : List V} {lo hi : Option Int} (t : TrAll S H ds xs) : TrAll S H (cutL ds lo hi) (cutV xs lo hi) := by
  unfold cutL cutV
  rw [t.len]
  exact (t.drop _).take _
theorem pn_sl {e : DE} {lo hi : Option Expr} {l h : DO} (hp : ∀ {t u w}, PE X x t → PO X lo u → PO X hi w → PE X x2 (tSl (rSlL K) t u w)) (he : PD X c x e) (hl : PDO X c lo l) (hh : PDO X c hi h) : PDN X c x2 (nSl e l h) :=
  ⟨pe_weak (hp he.run hl.run hh.run) fun σ H Q ⟨S, γ, ρ, I, q⟩ => ⟨S, γ, ρ, I, he.mono (fun av q S1 v H1 st1 I1 r1 => ⟨S1, γ, ρ, I1, hl.mono (fun i q S2 H2 st2 I2 => ⟨S2, γ, ρ, I2, hh.mono (fun j ⟨ds, ed, g⟩ S3 H3 st3 I3 => by
      have st13 := st2.trans I2.h.w I3.h.w st3
      obtain ⟨a, xs, e, hx, t⟩ := (r1.step I1.h st13).lst ed
      have st03 := st1.trans I1.h.w I3.h.w st13
      refine ⟨a, xs, e, SqL.of hx, fun p np => ?_⟩
      exact g S3 p _ _ (st03.trans I3.h.w (I3.newO np).h.w (Step.same (same_upd np))) (I3.newO np) upd_same ((cut_tr t).same (same_upd np)) (c.back I3.h.w st03.k np) fun s => I3.h.trk p s np) q⟩) q⟩) q⟩,
   fun m q => he.mono (fun _ q => hl.mono (fun _ q => hh.mono (fun _ ⟨ds, ed, g⟩ => ⟨ds, ed, m _ g⟩) q) q) q⟩
theorem pd_slT {e : DE} {lo hi : Option Expr} {l h : DO} (hp : ∀ {t u w}, PE X x t → PO X lo u → PO X hi w → PE X x2 (tSl (rSlA K) t u w)) (he : PD X c x e) (hl : PDO X c lo l) (hh : PDO X c hi h) : PD X c x2 (dSlT e l h) :=
  ⟨pe_weak (hp he.run hl.run hh.run) fun σ H Q ⟨S, γ, ρ, I, q⟩ => ⟨S, γ, ρ, I, he.mono (fun av q S1 v H1 st1 I1 r1 => ⟨S1, γ, ρ, I1, hl.mono (fun i q S2 H2 st2 I2 => ⟨S2, γ, ρ, I2, hh.mono (fun j ⟨ds, ed, g⟩ S3 H3 st3 I3 => by
      subst ed
      have st13 := st2.trans I2.h.w I3.h.w st3
      obtain ⟨a, xs, e, hx, t⟩ := (r1.step I1.h st13).tup
      have st03 := st1.trans I1.h.w I3.h.w st13
      refine ⟨a, xs, e, SqT.of hx, fun z => ?_, fun _ p np => ?_⟩
      · have e1 : cutL ds i j = ds := by
          unfold cutL
          rw [← t.len, z.1, z.2, List.drop_zero, Nat.sub_zero, t.len]
          exact List.take_length ..
        rw [e1] at g
        exact g S3 _ H3 st03 I3 ⟨a, xs, rfl, hx, t⟩
      · exact g S3 (.ref p) _ (st03.trans I3.h.w (I3.newO np).h.w (Step.same (same_upd np))) (I3.newO np) ⟨p, _, rfl, upd_same, (cut_tr t).same (same_upd np)⟩) q⟩) q⟩) q⟩,
   fun m q => he.mono (fun _ q => hl.mono (fun _ q => hh.mono (fun _ ⟨ds, ed, g⟩ => ⟨ds, ed, m _ g⟩) q) q) q⟩
/-! ### promises by data -/
abbrev FD := List PyData → (PyData → Prop) → Prop
def spF (F : FD) : Sp := fun vs H Q _ => ∃ S ds, TrAll S H ds vs ∧ F ds fun d => ∀ v H', Same H H' → Tr (fun a => S a ∨ H a = none) H' d v → Q v H'
def spP (F : FD) : Sp := fun vs H Q _ => ∃ p L S ds us, vs = .ref p :: us ∧ Pool H p L ∧ (2 ≤ L ∧ L ≤ 64) ∧ ¬ S p ∧ TrAll S H ds us ∧ F ds fun d => ∀ v H', Kp p H H' → Pool H' p L → Tr (fun a => S a ∨ H a = none) H' d v → Q v H'
structure FMono (F : FD) : Prop where
  m : ∀ {ds P P'}, (∀ d, P d → P' d) → F ds P → F ds P'
structure DPl (c : DC) (p : Addr) (L : Nat) : Prop where
  m : c.M p
  pl : ∀ H, c.W H → Pool H p L
  keep : ∀ H H', c.W H → Kp p H H' → Pool H' p L → c.W H'
  lim : 2 ≤ L ∧ L ≤ 64
def dCallF (F : FD) (a : DA) : DE := fun ρ Q => a ρ fun avs => ∃ ds, avs = ds.map Av.d ∧ F ds fun d => Q (.d d)
def dCallP (p : Addr) (F : FD) (a : DA) : DE := fun ρ Q => a ρ fun avs => ∃ ds, avs = .v (.ref p) :: ds.map Av.d ∧ F ds fun d => Q (.d d)
theorem kpl_kp {p : Addr} {M : Addr → Prop} {H H' : Hp} (k : Kp p H H') (m : M p) (h : ∃ ys, H p = some (.lst ys)) : KpL M H H' := KpL.kp k m h
theorem pd_callF {F : FD} {es : List Expr} {a : DA} {E : XK} (hF : FMono F) (hp : ∀ {t}, PA X es t → PE X x (tCall (spF F) [] E t)) (ha : PDA X c es a) : PD X c x (dCallF F a) :=
  ⟨pe_weak (hp ha.run) fun σ H Q ⟨S, γ, ρ, I, q⟩ => ⟨S, γ, ρ, I, ha.mono (fun avs ⟨ds, e, q⟩ S1 vs H1 st1 I1 r1 => by
      subst e
      refine ⟨S1, ds, by rw [List.append_nil]; exact r1.all, hF.m (fun d g v H2 sm t => ?_) q⟩
      have w2 := c.same sm I1.h.w
      have st2 : Step c S1 H1 (fun a => (S1 a ∨ H1 a = none) ∧ H2 a ≠ none) H2 := ⟨fun a s => ⟨.inl s, c.fwd w2 (KpL.of sm) (I1.h.trk a s)⟩, KpL.of sm, fun a s => s.1.elim .inl fun z => .inr ⟨z, s.2⟩⟩
      exact g _ v H2 (st1.trans I1.h.w w2 st2) (I1.step st2 w2) (Tr.tracked _ _ t)) q⟩,
   fun m q => ha.mono (fun _ ⟨ds, e, g⟩ => ⟨ds, e, hF.m (fun _ z => m _ z) g⟩) q⟩
theorem pd_callP {F : FD} {es : List Expr} {a : DA} {E : XK} {p : Addr} {L : Nat} (hP : DPl c p L) (hF : FMono F) (hp : ∀ {t}, PA X es t → PE X x (tCall (spP F) [] E t)) (ha : PDA X c es a) : PD X c x (dCallP p F a) :=
  ⟨pe_weak (hp ha.run) fun σ H Q ⟨S, γ, ρ, I, q⟩ => ⟨S, γ, ρ, I, ha.mono (fun avs ⟨ds, e, q⟩ S1 vs H1 st1 I1 r1 => by
      subst e
      obtain ⟨v, us, e, r0, r1⟩ := r1
      subst e
      cases r0
      have np : ¬ S1 p := fun s => I1.h.notM s hP.m
      refine ⟨p, L, S1, ds, us, by rw [List.append_nil], hP.pl _ I1.h.w, hP.lim, np, r1.all, hF.m (fun d g v H2 k pl t => ?_) q⟩
      have w2 := hP.keep _ _ I1.h.w k pl
      have kl : KpL c.M H1 H2 := KpL.kp k hP.m (c.lst _ p I1.h.w hP.m)
      have st2 : Step c S1 H1 (fun a => (S1 a ∨ H1 a = none) ∧ H2 a ≠ none) H2 := ⟨fun a s => ⟨.inl s, c.fwd w2 kl (I1.h.trk a s)⟩, kl, fun a s => s.1.elim .inl fun z => .inr ⟨z, s.2⟩⟩
      exact g _ v H2 (st1.trans I1.h.w w2 st2) (I1.step st2 w2) (Tr.tracked _ _ t)) q⟩,
   fun m q => ha.mono (fun _ ⟨ds, e, g⟩ => ⟨ds, e, hF.m (fun _ z => m _ z) g⟩) q⟩
end
def pureC (S : Addr → Prop) (H : Hp) : DC := ⟨fun _ => False, fun _ => True, S, H, fun _ _ _ w => w, fun _ _ _ m => m.elim, True.intro, fun _ _ m => m⟩
theorem pool_lst {H : Hp} {p a : Addr} {L : Nat} (h : Pool H p L) (e : a = p) : ∃ xs, H a = some (.lst xs) := by
  obtain ⟨ns, h, _⟩ := h
  exact ⟨_, by rw [e]; exact h⟩
theorem pool_stab {H0 H H' : Hp} {p : Addr} {L : Nat} (h0 : Pool H0 p L) (k : ∀ b o, H0 b ≠ none → H b = some o → H' b = some o) (h : Pool H p L) : Pool H' p L := by
  obtain ⟨ns, h, e⟩ := h
  obtain ⟨ms, h0, _⟩ := h0
  exact ⟨ns, k _ _ (by rw [h0]; exact fun z => nomatch z) h, e⟩
def poolC (p : Addr) (L : Nat) (S : Addr → Prop) (H : Hp) (h : Pool H p L) (ns : ¬ S p) : DC :=
  ⟨fun a => a = p, fun H' => Pool H' p L, S, H, fun _ _ k w => pool_stab h k w, fun _ _ w m => pool_lst w m, h, fun a s m => ns (m ▸ s)⟩
theorem poolC_pl {p : Addr} {L : Nat} {S : Addr → Prop} {H : Hp} {h : Pool H p L} {ns : ¬ S p} (l : 2 ≤ L ∧ L ≤ 64) : DPl (poolC p L S H h ns) p L := ⟨rfl, fun _ w => w, fun _ _ _ _ w => w, l⟩
/-- the names at the start -/
def dstart (N : List Str) (avs : List Av) : DEnv := avs.map some ++ List.replicate (N.length - avs.length) none
theorem start_inv {c : DC} {S : Addr → Prop} {H : Hp} {N : List Str} : ∀ {avs : List Av} {vs : List V}, DH c S H → AvsR c S H avs vs → (∀ ds, Av.o ds ∉ avs) → DInv c S [] (dstart N avs) (L2.start N vs) H := by
  intro avs vs h r no
  have hl := r.len
  refine ⟨h, fun g m => absurd m List.not_mem_nil, ?_, fun i av e => ?_, fun i j ds es a e1 e2 e3 e4 => ?_⟩
  · unfold dstart L2.start
    rw [List.length_append, List.length_append, List.length_map, List.length_map, List.length_replicate, List.length_replicate, hl]
  · unfold dstart at e
    unfold L2.start
    rw [List.getElem?_append] at e ⊢
    rw [List.length_map] at e ⊢
    by_cases hi : i < avs.length
    · rw [if_pos hi] at e
      rw [if_pos (by omega)]
      have key : ∀ {avs : List Av} {vs : List V} {i : Nat}, AvsR c S H avs vs → (avs.map some)[i]? = some (some av) → ∃ v, (vs.map some)[i]? = some (some v) ∧ AvR c S H av v := by
        intro avs
        induction avs with
        | nil => intro vs i _ e; simp at e
        | cons a r ih =>
          intro vs i q e
          obtain ⟨v, us, e0, q1, q2⟩ := q
          subst e0
          cases i with
          | zero => simp at e; subst e; exact ⟨v, rfl, q1⟩
          | succ i => exact ih (i := i) q2 (by simpa using e)
      exact key r e
    · rw [if_neg hi] at e
      rw [List.getElem?_replicate] at e
      split at e <;> cases e
  · have key : some (Av.o ds) ∈ dstart N avs := List.mem_of_getElem? e1
    unfold dstart at key
    rcases List.mem_append.mp key with k | k
    · obtain ⟨x, hx, e⟩ := List.mem_map.mp k
      cases e
      exact absurd hx (no ds)
    · have := List.eq_of_mem_replicate k
      cases this
def retD (Q : PyData → Prop) : Av → Prop := fun av => ∃ d, av.dat = some d ∧ Q d
def fends (Q : PyData → Prop) : DEnds := ⟨fun _ => Q .none, retD Q, fun _ => False, fun _ => False⟩
theorem AvR.ret {c : DC} {S : Addr → Prop} {H : Hp} {av : Av} {v : V} {d : PyData} (h : DH c S H) (r : AvR c S H av v) (e : av.dat = some d) : Tr (fun a => c.S0 a ∨ c.H0 a = none) H d v := by
  cases av with
  | d y => cases e; exact Tr.mono h.sub _ _ r
  | v y => cases e
  | o ds =>
    cases e
    obtain ⟨D, xs, e, l, t, n, _⟩ := r
    exact ⟨D, xs, e, .inr n, l, TrAll.mono h.sub _ _ t⟩
section
variable {P : Program} {w : World} {K : PySem.W.Frag} {mg : Str → Option Value} {base : Heap} {x qual : Str} {st : Stmt} {f : Addr} {fd : FuncData} {N ps : List Str} {k : Nat}
theorem noO : ∀ {ds : List PyData} {es : List PyData}, Av.o es ∉ ds.map Av.d := fun {ds es} h => by
  obtain ⟨d, _, e⟩ := List.mem_map.mp h
  cases e
theorem avs_of {c : DC} {S : Addr → Prop} {H : Hp} : ∀ {ds : List PyData} {vs : List V}, TrAll S H ds vs → AvsR c S H (ds.map Av.d) vs
  | [], _, e => e
  | d :: r, _, ⟨v, us, e, t, q⟩ => ⟨v, us, e, t, avs_of q⟩
/-- a def by data -/
theorem fnF {F : FD} {s : DS} (hF : FMono F) (Fn : Fun K x qual st f fd) (sc : FnScope N ps (defScope st)) (hl : ∀ ds Q, F ds Q → ds.length = ps.length)
    (hb : ∀ (c : DC) (cdv : Value) (A : Around) (outer : List Env) (sh : Shared) (H : Hp) (E : XK), Room k (A.deeper (envOfC qual (defScope st) sh.heap.objs.size f cdv)) → PDSs (cxOf CX0 P w K mg base N qual (defScope st) f cdv A outer sh H E).nox c (defBody st) s)
    (hs : ∀ ds Q, F ds Q → s (fends Q) (dstart N (ds.map Av.d))) : FnOk P w K mg base CX0 (k + 1) f fd ps (spF F) := by
  refine Fn.ok sc (fun vs H Q E h => ?_) (fun cdv A outer sh H vs Q E hr h => ?_)
  · obtain ⟨S, ds, t, q⟩ := h
    rw [t.len]
    exact hl ds _ q
  · obtain ⟨S, ds, t, q⟩ := h
    have t := TrAll.tracked _ _ t
    refine ⟨_, (hb (pureC (fun a => S a ∧ H a ≠ none) H) cdv A outer sh H E hr).run, fun a => S a ∧ H a ≠ none, [], _, start_inv ⟨True.intro, KpL.refl, fun a s => .inl s, fun a s => s.2⟩ (avs_of t) (fun _ => noO), ?_⟩
    have key := hs ds _ q
    refine (hb (pureC (fun a => S a ∧ H a ≠ none) H) cdv A outer sh H E hr).mono (E := fends _) ⟨fun ρ q S' σ' H' I => ?_, fun av ⟨d, e, q⟩ S' v H' h' r => ?_, fun _ z => z.elim, fun _ z => z.elim⟩ key
    · exact q .non H' (I.h.k.same fun a z => z.elim) rfl
    · exact q v H' (h'.k.same fun a z => z.elim) (Tr.mono (fun a s => s.elim (fun s => .inl s.1) .inr) _ _ (r.ret h' e))
theorem fnP {F : FD} {s : Addr → DS} (hF : FMono F) (Fn : Fun K x qual st f fd) (sc : FnScope N ps (defScope st)) (hl : ∀ ds Q, F ds Q → ds.length + 1 = ps.length)
    (hb : ∀ (c : DC) (p : Addr) (L : Nat) (hP : DPl c p L) (cdv : Value) (A : Around) (outer : List Env) (sh : Shared) (H : Hp) (E : XK), Room k (A.deeper (envOfC qual (defScope st) sh.heap.objs.size f cdv)) → PDSs (cxOf CX0 P w K mg base N qual (defScope st) f cdv A outer sh H E).nox c (defBody st) (s p))
    (hs : ∀ p ds Q, F ds Q → s p (fends Q) (dstart N (.v (.ref p) :: ds.map Av.d))) : FnOk P w K mg base CX0 (k + 1) f fd ps (spP F) := by
  refine Fn.ok sc (fun vs H Q E h => ?_) (fun cdv A outer sh H vs Q E hr h => ?_)
  · obtain ⟨p, L, S, ds, us, rfl, _, _, _, t, q⟩ := h
    rw [List.length_cons, t.len]
    exact hl ds _ q
  · obtain ⟨p, L, S, ds, us, rfl, pl, lim, ns, t, q⟩ := h
    have t := TrAll.tracked _ _ t
    have ns' : ¬ (S p ∧ H p ≠ none) := fun z => ns z.1
    have b := hb (poolC p L (fun a => S a ∧ H a ≠ none) H pl ns') p L (poolC_pl lim) cdv A outer sh H E hr
    refine ⟨_, b.run, fun a => S a ∧ H a ≠ none, [], _, start_inv (avs := .v (.ref p) :: ds.map Av.d) ⟨pl, KpL.refl, fun a s => .inl s, fun a s => s.2⟩ ⟨_, _, rfl, rfl, avs_of t⟩ (fun es m => (List.mem_cons.mp m).elim (fun z => nomatch z) noO), ?_⟩
    have key := hs p ds _ q
    have toKp : ∀ {H' : Hp}, KpL (fun a => a = p) H H' → Kp p H H' := fun k b o n e => k b o (fun m => absurd m n) e
    refine b.mono (E := fends _) ⟨fun ρ q S' σ' H' I => ?_, fun av ⟨d, e, q⟩ S' v H' h' r => ?_, fun _ z => z.elim, fun _ z => z.elim⟩ key
    · exact q .non H' (toKp I.h.k) I.h.w rfl
    · exact q v H' (toKp h'.k) h'.w (Tr.mono (fun a s => s.elim (fun s => .inl s.1) .inr) _ _ (r.ret h' e))
end
section
variable {K : PySem.W.Frag} {X : Cx} {c : DC} {x x2 x3 x4 : Expr}
theorem op_notInDT {X : Cx} (hu : X.A.units + 65 < cLine) : OpR X (compareOp .NotIn) (rNotInDT X.K) := by
  intro pins s σ H x y v u Q I rx ry h
  obtain ⟨d, ds, hd, he, sd, se, q⟩ := h
  obtain ⟨as, r1⟩ := Dp.reads I d x v hd rx
  obtain ⟨bs, r2⟩ := Dp.reads I (.tuple ds) y u he ry
  exact SeqAt.notIn_tuple_reads r2 r1 (SeqAt.canLay_of_shaped se) (SeqAt.canLay_of_shaped sd) (room_in_shaped sd hu) ⟨.bl _, H, I, rfl, q⟩
def rNotInA (K : PySem.W.Frag) : R2 := fun x y H Q => rNotInD K x y H Q ∨ rNotInDT K x y H Q
theorem dk_notIn : DOp c (rNotInA K) kNotIn := ⟨fun I rx ry ⟨d, ds, h1, h2, s1, s2, q⟩ g => (in_dp ry h2 s2).elim (fun z => .inl ⟨d, ds, rx.dp h1 s1, z, s1, s2, g _ _ _ _ q Step.refl I rfl⟩) fun z => .inr ⟨d, ds, rx.dp h1 s1, z, s1, sh_lt s2, g _ _ _ _ q Step.refl I rfl⟩,
  fun m ⟨d, e, h1, h2, s1, s2, q⟩ => ⟨d, e, h1, h2, s1, s2, m _ q⟩⟩
theorem k_notInA (K : PySem.W.Frag) (hu : X.A.units + 65 < cLine) (hK : X.K = K := by rfl) : OpR X (compareOp .NotIn) (rNotInA K) := hK ▸ OpR.or (op_notInD hu) (op_notInDT hu)
theorem dk_ipadd : DOp c (ipI fun i j => i + j) (kI0 fun i j => .int (i + j)) := dk_i0
theorem dk_ipsub : DOp c (ipI fun i j => i - j) (kI0 fun i j => .int (i - j)) := dk_i0
theorem pd_callF0 {F : FD} {E : XK} (hF : FMono F) (hp : PE X x (tCall (spF F) [] E tNil)) : PD X c x (dCallF F dNil) :=
  ⟨pe_weak hp fun σ H Q ⟨S, γ, ρ, I, ds, e, q⟩ => by
      have e : ds = [] := by cases ds with | nil => rfl | cons d r => cases e
      subst e
      refine ⟨S, [], rfl, hF.m (fun d g v H2 sm t => ?_) q⟩
      have w2 := c.same sm I.h.w
      have st2 : Step c S H (fun a => (S a ∨ H a = none) ∧ H2 a ≠ none) H2 := ⟨fun a s => ⟨.inl s, c.fwd w2 (KpL.of sm) (I.h.trk a s)⟩, KpL.of sm, fun a s => s.1.elim .inl fun z => .inr ⟨z, s.2⟩⟩
      exact g _ v H2 st2 (I.step st2 w2) (Tr.tracked _ _ t),
   fun m ⟨ds, e, g⟩ => ⟨ds, e, hF.m (fun _ z => m _ z) g⟩⟩
theorem pd_chain {p q : Int → Int → Bool} {a b e : DE} (hp : ∀ {ta tb tc}, PE X x ta → PE X x2 tb → PE X x3 tc → PE X x4 (tChain (rI0 fun i j => .bl (p i j)) (rI0 fun i j => .bl (q i j)) ta tb tc)) (ha : PD X c x a) (hb : PD X c x2 b) (he : PD X c x3 e) : PD X c x4 (dChain p q a b e) :=
  ⟨pe_weak (hp ha.run hb.run he.run) fun σ H Q ⟨S, γ, ρ, I, h⟩ => ⟨S, γ, ρ, I, ha.mono (fun x h S1 v H1 st1 I1 r1 => ⟨S1, γ, ρ, I1, hb.mono (fun y ⟨i, j, e1, e2, h2⟩ S2 u H2 st2 I2 r2 => by
      subst e1 e2
      cases r1
      cases r2
      have st12 := st1.trans I1.h.w I2.h.w st2
      exact ⟨i, j, rfl, rfl, p i j, rfl, ifMono (fun h => ⟨S2, γ, ρ, I2, he.mono (fun z ⟨k, ez, h⟩ S3 w H3 st3 I3 r3 => by
        subst ez
        cases r3
        exact ⟨j, k, rfl, rfl, h S3 _ H3 (st12.trans I2.h.w I3.h.w st3) I3 rfl⟩) h⟩) (fun h => h S2 _ H2 st12 I2 rfl) h2⟩) h⟩) h⟩,
   fun m h => ha.mono (fun x h => hb.mono (fun y ⟨i, j, e1, e2, h⟩ => ⟨i, j, e1, e2, ifMono (fun h => he.mono (fun z ⟨k, ez, h⟩ => ⟨k, ez, m _ h⟩) h) (m _) h⟩) h) h⟩
theorem pdt_chain {p q : Int → Int → Bool} {a b e : DE} (hp : ∀ {ta tb tc}, PE X x ta → PE X x2 tb → PE X x3 tc → PT X x4 (tTest (tChain (rI0 fun i j => .bl (p i j)) (rI0 fun i j => .bl (q i j)) ta tb tc))) (ha : PD X c x a) (hb : PD X c x2 b) (he : PD X c x3 e) : PDT X c x4 (dTest (dChain p q a b e)) :=
  ⟨pt_weak (hp ha.run hb.run he.run) fun σ H Q ⟨S, γ, ρ, I, h⟩ => ⟨S, γ, ρ, I, ha.mono (fun x h S1 v H1 st1 I1 r1 => ⟨S1, γ, ρ, I1, hb.mono (fun y ⟨i, j, e1, e2, h2⟩ S2 u H2 st2 I2 r2 => by
      subst e1 e2
      cases r1
      cases r2
      have st12 := st1.trans I1.h.w I2.h.w st2
      exact ⟨i, j, rfl, rfl, p i j, rfl, ifMono (fun h => ⟨S2, γ, ρ, I2, he.mono (fun z ⟨k, ez, b, eb, h⟩ S3 w H3 st3 I3 r3 => by
        subst ez
        cases r3
        cases eb
        exact ⟨j, k, rfl, rfl, _, rfl, h S3 H3 (st12.trans I2.h.w I3.h.w st3) I3⟩) h⟩) (fun ⟨b, eb, h⟩ => by
        cases eb
        exact ⟨_, rfl, h S2 H2 st12 I2⟩) h2⟩) h⟩) h⟩,
   fun m h => ha.mono (fun x h => hb.mono (fun y ⟨i, j, e1, e2, h⟩ => ⟨i, j, e1, e2, ifMono (fun h => he.mono (fun z ⟨k, ez, b, eb, h⟩ => ⟨k, ez, b, eb, m _ h⟩) h) (fun ⟨b, eb, h⟩ => ⟨b, eb, m _ h⟩) h⟩) h) h⟩
/-- the law's draw -/
def F__law_draw : FD := fun ds Q => ∃ m : Int, ds = [.int m] ∧ 0 < m ∧ m ≤ 1000 ∧ ∀ r : Int, 0 ≤ r → r < m → Q (.int r)
theorem FM__law_draw : FMono F__law_draw := ⟨fun m ⟨k, e, h0, h1, q⟩ => ⟨k, e, h0, h1, fun r a b => m _ (q r a b)⟩⟩
end
def zipD (ds es : List PyData) : List PyData := List.zipWith (fun a b => .tuple [a, b]) ds es
def xsZ (a : DA) : DN := fun ρ Q => a ρ fun avs => ∃ ds es, avs = [.d (.list ds), .d (.list es)] ∧ Q (zipD ds es)
def enumD (ds : List PyData) : List PyData := List.zipWith (fun (i : Nat) b => .tuple [.int i, b]) (List.range ds.length) ds
def xsE (a : DA) : DN := fun ρ Q => a ρ fun avs => ∃ ds, avs = [.d (.list ds)] ∧ Q (enumD ds)
section
variable {K : PySem.W.Frag} {X : Cx} {c : DC} {x : Expr}
theorem pair_tr {S : Addr → Prop} {H H' : Hp} {T : Addr} {x y : V} {a b : PyData} (n : H T = none) (e : H' = upd H T (.tup [x, y])) (ta : Tr S H a x) (tb : Tr S H b y) : Same H H' ∧ Tr S H' (.tuple [a, b]) (.ref T) := by
  subst e
  exact ⟨same_upd n, T, [x, y], rfl, upd_same, .cons (ta.same (same_upd n)) (.cons (tb.same (same_upd n)) .nil)⟩
theorem pdi_zip {tg : Expr} {es : List Expr} {a : DA} (hp : ∀ {t}, PA X es t → PI X tg x (iZip K t)) (ha : PDA X c es a) : PDI X c tg x (iZip K (tDA c a)) (xsZ a) :=
  ⟨hp ha.run, fun {S γ ρ σ H P R} I q k => ⟨S, γ, ρ, I, ha.mono (fun avs ⟨ds, es, e, q⟩ S1 us H1 st1 I1 r1 => by
      subst e
      obtain ⟨v, us', e, r, r2⟩ := r1
      obtain ⟨v2, e2, r2⟩ := AvsR.one r2
      obtain ⟨p, xs, e3, s1, l1, t1⟩ := r
      obtain ⟨p2, ys, e4, s2, l2, t2⟩ := r2
      subst e3 e4 e2
      refine ⟨p, p2, xs, ys, e, SqL.of l1, SqL.of l2, k _ S1 H1 _ [.l p xs ds, .l p2 ys es] q st1 I1 (fun g m => ?_) ⟨_, _, walk_zip (xs := xs) (ys := ys) (by unfold zipD; rw [List.length_zipWith, t1.len, t2.len]), fun S H _ hg => ?_, fun i S H v H' hd hg hi y => ?_⟩⟩
      · rcases List.mem_cons.mp m with e | m
        · rw [e]
          exact ⟨s1, l1, t1⟩
        · rw [List.mem_singleton.mp m]
          exact ⟨s2, l2, t2⟩
      · exact ⟨SqL.of (hg _ List.mem_cons_self).2.1, SqL.of (hg _ (List.mem_cons_of_mem _ List.mem_cons_self)).2.1⟩
      · obtain ⟨T, x, y, e, n, e', hx, hy⟩ := y
        obtain ⟨d1, h1, h2⟩ := (hg _ List.mem_cons_self).2.2.get hx
        obtain ⟨d2, h3, h4⟩ := (hg _ (List.mem_cons_of_mem _ List.mem_cons_self)).2.2.get hy
        obtain ⟨sm, tr⟩ := pair_tr n e' h2 h4
        subst e
        exact ⟨.tuple [d1, d2], by unfold zipD; rw [List.getElem?_zipWith, h1, h3], sm, tr⟩) q⟩,
   fun m q => ha.mono (fun _ ⟨ds, es, e, q⟩ => ⟨ds, es, e, m _ q⟩) q⟩
theorem pdi_enum {tg : Expr} {es : List Expr} {a : DA} (hp : ∀ {t}, PA X es t → PI X tg x (iEnum K t)) (ha : PDA X c es a) : PDI X c tg x (iEnum K (tDA c a)) (xsE a) :=
  ⟨hp ha.run, fun {S γ ρ σ H P R} I q k => ⟨S, γ, ρ, I, ha.mono (fun avs ⟨ds, e, q⟩ S1 us H1 st1 I1 r1 => by
      subst e
      obtain ⟨v, e, r⟩ := r1.one
      obtain ⟨p, xs, e3, s1, l1, t1⟩ := r
      subst e3
      refine ⟨p, xs, e, SqL.of l1, k _ S1 H1 _ [.l p xs ds] q st1 I1 (fun g m => ?_) ⟨_, _, (by unfold enumD; rw [List.length_zipWith, List.length_range, Nat.min_self, ← t1.len]; exact walk_enum (xs := xs)), fun S H _ hg => ?_, fun i S H v H' hd hg hi y => ?_⟩⟩
      · rw [List.mem_singleton.mp m]
        exact ⟨s1, l1, t1⟩
      · exact SqL.of (hg _ List.mem_cons_self).2.1
      · obtain ⟨T, x, y, e, n, e', hx, hy⟩ := y
        cases hx
        obtain ⟨d2, h3, h4⟩ := (hg _ List.mem_cons_self).2.2.get hy
        obtain ⟨sm, tr⟩ := pair_tr (a := .int i) n e' rfl h4
        subst e
        have hlt := (List.getElem?_eq_some_iff.mp h3).1
        exact ⟨.tuple [.int i, d2], by unfold enumD; rw [List.getElem?_zipWith, List.getElem?_range hlt, h3], sm, tr⟩) q⟩,
   fun m q => ha.mono (fun _ ⟨ds, e, q⟩ => ⟨ds, e, m _ q⟩) q⟩
end
/-- a comprehension that gives f of each item -/
theorem lc_map {ds : List PyData} {Q : List PyData → Prop} {g : DG} {e : DE} {ρw : DEnv} (f : PyData → PyData) (hl : ds.length ≤ 1000) (he : ∀ d, d ∈ ds → ∀ P : Av → Prop, P (.d (f d)) → g d ρw fun ρ' => dtYes ρ' fun b => if b = true then e ρ' P else False) (q : Q (ds.map f))
    (mg : ∀ {d ρ} {P P' : DEnv → Prop}, (∀ ρ, P ρ → P' ρ) → g d ρ P → g d ρ P') :
    ∃ I : Nat → List PyData → Prop, I 0 [] ∧ (∀ i d acc, ds[i]? = some d → I i acc → g d ρw fun ρ' => dtYes ρ' fun b => if b = true then e ρ' (fun av => ∃ z, av = .d z ∧ acc.length < 1000 ∧ I (i + 1) (acc ++ [z])) else I (i + 1) acc) ∧ ∀ acc, I ds.length acc → Q acc := by
  refine ⟨fun i acc => acc = (ds.take i).map f, by simp, fun i d acc h ea => ?_, fun acc e => by rw [e, List.take_length]; exact q⟩
  have hi := (List.getElem?_eq_some_iff.mp h).1
  refine mg (P := fun ρ' => dtYes ρ' fun b => if b = true then e ρ' (fun av => ∃ z, av = .d z ∧ acc.length < 1000 ∧ (fun i acc => acc = (ds.take i).map f) (i + 1) (acc ++ [z])) else False) (fun ρ' z => z) (he d (List.mem_of_getElem? h) _ ⟨f d, rfl, ?_, ?_⟩)
  · rw [ea, List.length_map, List.length_take]
    omega
  · show acc ++ [f d] = (ds.take (i + 1)).map f
    rw [List.take_add_one, h, List.map_append, ← show acc = (ds.take i).map f from ea]
    rfl
theorem mgN {i : Nat} {d : PyData} {ρ : DEnv} {P P' : DEnv → Prop} (h : ∀ ρ, P ρ → P' ρ) (q : dgName i d ρ P) : dgName i d ρ P' := h _ q
/-- a list's method -/
def dMt (k : Av → List Av → (Av → Prop) → Prop) (e : DE) (a : DA) : DE := fun ρ Q => e ρ fun x => (∃ ds, x.dat = some (.list ds)) ∧ a ρ fun ys => k x ys Q
structure DMt (c : DC) (r : V → List V → Hp → VK → Prop) (k : Av → List Av → (Av → Prop) → Prop) : Prop where
  run : ∀ {S γ ρ σ H x v ys us P Q}, DInv c S γ ρ σ H → AvR c S H x v → AvsR c S H ys us → k x ys P → GE c S γ ρ σ H P Q → r v us H Q
  mono : ∀ {x ys P P'}, (∀ av, P av → P' av) → k x ys P → k x ys P'
def kIndex : Av → List Av → (Av → Prop) → Prop := fun x ys Q => ∃ ds y d j z, x.dat = some (.list ds) ∧ ys = [y] ∧ y.dat = some d ∧ SeqAt.shaped d = true ∧ SeqAt.shaped (.list ds) = true ∧ ds[j]? = some z ∧ PyData.eqv z d = true ∧ (∀ i w, i < j → ds[i]? = some w → PyData.eqv w d = false) ∧ Q (.d (.int (j : Nat)))
section
variable {K : PySem.W.Frag} {X : Cx} {c : DC} {x o : Expr} {es : List Expr}
theorem pd_mt {r : V → List V → Hp → VK → Prop} {k : Av → List Av → (Av → Prop) → Prop} {e : DE} {a : DA} (hp : ∀ {t u}, PE X o t → PA X es u → PE X x (tBM K "list" r t u)) (hk : DMt c r k) (he : PD X c o e) (ha : PDA X c es a) : PD X c x (dMt k e a) :=
  ⟨pe_weak (hp he.run ha.run) fun σ H Q ⟨S, γ, ρ, I, q⟩ => ⟨S, γ, ρ, I, he.mono (fun av ⟨⟨ds, ed⟩, q⟩ S1 v H1 st1 I1 r1 => by
      obtain ⟨p, xs, e1, l, t⟩ := r1.lst ed
      subst e1
      exact ⟨.inl ⟨rfl, _, SqL.of l⟩, S1, γ, ρ, I1, ha.mono (fun avs g S2 us H2 st2 I2 r2 => hk.run I2 (r1.step I1.h st2) r2 g fun av S3 w H3 g st3 I3 r3 => g S3 w H3 (st1.trans I1.h.w I3.h.w (st2.trans I2.h.w I3.h.w st3)) I3 r3) q⟩) q⟩,
   fun m q => he.mono (fun _ ⟨h, q⟩ => ⟨h, ha.mono (fun _ g => hk.mono m g) q⟩) q⟩
theorem dk_index : DMt c (rIndexD K) kIndex := ⟨fun I rx ry ⟨ds, y, d, j, z, e1, e2, e3, s1, s2, h1, h2, h3, q⟩ g => by
    subst e2
    obtain ⟨v, e, r⟩ := ry.one
    obtain ⟨p, xs, e4, l, t⟩ := rx.lst e1
    subst e4 e
    exact ⟨p, v, d, ds, j, z, rfl, rfl, rx.dp e1 s2, r.dp e3 s1, s2, s1, h1, h2, h3, g _ _ _ _ q Step.refl I rfl⟩,
  fun m ⟨ds, y, d, j, z, e1, e2, e3, s1, s2, h1, h2, h3, q⟩ => ⟨ds, y, d, j, z, e1, e2, e3, s1, s2, h1, h2, h3, m _ q⟩⟩
end
section
variable (K : PySem.W.Frag) {X : Cx}
theorem k_mtIndexD (hu : X.A.units + 65 < cLine) (hK : X.K = K := by rfl) : MtR X "list.index" (rIndexD K) := hK ▸ mt_indexD hu
end
theorem spP_draw {F : FD} {vs : List V} {H : Hp} {Q : VK} {E : XK} (hF : ∀ ds Q, F ds Q → ∃ m : Int, ds = [.int m] ∧ 0 < m ∧ m ≤ 1000 ∧ ∀ r : Int, 0 ≤ r → r < m → Q (.int r)) (h : spP F vs H Q E) :
    ∃ (p : Addr) (L : Nat) (m : Int), vs = [.ref p, .int m] ∧ Pool H p L ∧ 2 ≤ L ∧ L ≤ 64 ∧ 0 < m ∧ m ≤ 1000 ∧ ∀ (r : Int) (H' : Hp), 0 ≤ r → r < m → Kp p H H' → Pool H' p L → Q (.int r) H' := by
  obtain ⟨p, L, S, ds, us, rfl, pl, lim, ns, t, q⟩ := h
  obtain ⟨m, rfl, h0, h1, q⟩ := hF ds _ q
  obtain ⟨v, us', rfl, tv, tn⟩ := t
  cases tv
  cases tn
  exact ⟨p, L, m, rfl, pl, lim.1, lim.2, h0, h1, fun r H' r0 r1 k pl' => q r r0 r1 _ H' k pl' rfl⟩
theorem pd_dnew {X : Cx} {c : DC} {pos : Pos} : PD X c (.Dict [] [] pos) (dC (.dict [])) :=
  ⟨pe_weak pe_dnewK fun σ H Q ⟨S, γ, ρ, I, q⟩ => fun p np => q S (.ref p) _ (Step.same (same_upd np)) (I.newO np) ⟨p, [], rfl, upd_same, fun _ => rfl⟩, fun m q => m _ q⟩
/-- what a statement leaves is said once -/
def dCut (s t : DS) : DS := fun E ρ => ∃ P : DEnv → Prop, s { E with nx := P } ρ ∧ ∀ ρ', P ρ' → t E ρ'
theorem pdss_cut {X : Cx} {c : DC} {st : Stmt} {sts : List Stmt} {s t : DS} (h1 : PDS X c st s) (h2 : PDSs X c sts t) : PDSs X c (st :: sts) (dCut s t) :=
  ⟨pss_weak (pdss_cons h1 h2).run fun D σ H ⟨S, γ, ρ, I, P, q1, q2⟩ => ⟨S, γ, ρ, I, h1.mono (E := { dends c γ D with nx := P }) (E' := { dends c γ D with nx := fun ρ' => t (dends c γ D) ρ' }) ⟨q2, fun _ q => q, fun _ q => q, fun _ q => q⟩ q1⟩,
   fun {E E' ρ} h ⟨P, q1, q2⟩ => ⟨P, h1.mono (E := { E with nx := P }) (E' := { E' with nx := P }) ⟨fun _ q => q, h.rt, h.bk, h.ct⟩ q1, fun ρ' z => h2.mono h (q2 ρ' z)⟩⟩

theorem exm_of' {K : PySem.W.Frag} {R S : Addr} {b : Bool} (h0 : PySem.W.subIn K (.ref R) (.type "BaseException") = some true) (h1 : PySem.W.subIn K (.ref S) (.type "BaseException") = some true) (h2 : PySem.W.isClsIn K S = true) (h3 : PySem.W.typeIn K (.ref S) = some (.type "type")) (h4 : PySem.W.subIn K (.ref R) (.ref S) = some b) : PySem.W.exmOne K (.ref R) (.ref S) = some b := by
  have e1 : (PySem.W.subIn K (.ref S) (.type "BaseException") == some true) = true := by rw [h1] <;> rfl
  have e2 : ((PySem.W.clsIn K S).isSome && PySem.W.typeIn K (.ref S) == some (.type "type")) = true := by
    rw [show (PySem.W.clsIn K S).isSome = true from h2, h3] <;> rfl
  show (if (PySem.W.subIn K (.ref S) (.type "BaseException") == some true) = true then (if ((PySem.W.clsIn K S).isSome && PySem.W.typeIn K (.ref S) == some (.type "type")) = true then PySem.W.subIn K (.ref R) (.ref S) else none) else none) = some b
  rw [if_pos e1, if_pos e2]
  exact h4
theorem exm_of {K : PySem.W.Frag} {S : Addr} {b : Bool} (h1 : PySem.W.subIn K (.ref S) (.type "BaseException") = some true) (h2 : PySem.W.isClsIn K S = true) (h3 : PySem.W.typeIn K (.ref S) = some (.type "type")) (h4 : PySem.W.subIn K (.ref S) (.ref S) = some b) : PySem.W.exmOne K (.ref S) (.ref S) = some b := exm_of' h1 h1 h2 h3 h4

/-! ### own errors with fields of their own (NoBook: procedure, path) -/
theorem oex_cls {K : PySem.W.Frag} {C HE : Addr}
    (h : ∃ nm q N bs sn sub ab col dd k0 k1 k2 k3 k5, K.lookup C = some (excClassObj nm q C N bs [.ref HE, .type "ValueError", .type "Exception", .type "BaseException", .type "object"] true sn sub ab col dd k0 k1 k2 k3 k5 "ValueError.__new__")) :
    ∃ nm q N bs bm sn sub ab col dd k0 k1 k2 k3 k5, K.lookup C = some (excClassObj nm q C N bs bm true sn sub ab col dd k0 k1 k2 k3 k5 "ValueError.__new__") ∧ PySem.HandSPX.refsVE bm = true := by
  obtain ⟨nm, q, N, bs, sn, sub, ab, col, dd, k0, k1, k2, k3, k5, h⟩ := h
  exact ⟨nm, q, N, bs, _, sn, sub, ab, col, dd, k0, k1, k2, k3, k5, h, rfl⟩

/-! ### what is raised, by data -/
abbrev ES := List (Str × PyData)
abbrev EXD := Addr → ES → Prop
abbrev FX := List PyData → (PyData → Prop) → EXD → Prop
def XD (S : Addr → Prop) (H0 : Hp) (es : ES) (H' : Hp) (x : Option Addr) : Prop := (es = [] ∧ x = none) ∨ ∃ (a : Addr) (fs : List (Str × V)), x = some a ∧ H0 a = none ∧ H' a = some (.xd fs) ∧ fs.map (·.1) = es.map (·.1) ∧ TrAll (fun a => S a ∨ H0 a = none) H' (es.map (·.2)) (fs.map (·.2))
def spX (F : FX) : Sp := fun vs H Q E => ∃ S ds, TrAll S H ds vs ∧ F ds (fun d => ∀ v H', Same H H' → Tr (fun a => S a ∨ H a = none) H' d v → Q v H') fun C es => ∀ x H', Same H H' → XD S H es H' x → E (.ref C) x H'
structure XMono (F : FX) : Prop where
  m : ∀ {ds P P' X X'}, (∀ d, P d → P' d) → (∀ C es, X C es → X' C es) → F ds P X → F ds P' X'
def ExOk (c : DC) (Ex : EXD) (W : XK) : Prop := ∀ C es x H', Ex C es → KpL c.M c.H0 H' → c.W H' → XD c.S0 c.H0 es H' x → W (.ref C) x H'
def dRaise (C : Addr) (nm : List Str) (Ex : EXD) (a : DA) : DS := fun _ ρ => a ρ fun avs => ∃ ds, avs = ds.map Av.d ∧ ds.length = nm.length ∧ Ex C (nm.zip ds)
def dRaise0 (C : Addr) (Ex : EXD) : DS := fun _ _ => Ex C []
def dCallX (F : FX) (Ex : EXD) (a : DA) : DE := fun ρ Q => a ρ fun avs => ∃ ds, avs = ds.map Av.d ∧ F ds (fun d => Q (.d d)) Ex
/-- what a class with an own __init__ makes: its fields nm, the last one first in its dict -/
def Makes (C : Addr) (sp : Sp) (nm : List Str) : Prop := ∀ (vs : List V) (H1 : Hp) (W : XK), vs.length = nm.length →
  (∀ (d : Addr) (fs : List (Str × V)) (H' : Hp), Same H1 H' → H1 d = none → H' d = some (.xd fs) → fs = (nm.zip vs).reverse → W (.ref C) (some d) H') →
  ∀ a, H1 a = none → sp (.ref a :: (vs ++ [])) (upd H1 a (exo a C none)) (fun v H2 => v = .non ∧ ∃ (d : Addr) (fs : List (Str × V)), H2 a = some (exo a C (some d)) ∧ H2 d = some (exd d fs) ∧ H1 d = none ∧ W (.ref C) (some d) (upd (del H2 a) d (.xd fs))) (fun _ _ _ => False)
section
variable {X : Cx} {c : DC} {Ex : EXD} {W : XK} {es : List Expr} {st : Stmt} {a : DA} {x : Expr} {C : Addr}
theorem DH.ground {S : Addr → Prop} {H H' : Hp} (h : DH c S H) (s : Same H H') : KpL c.M c.H0 H' ∧ c.W H' := ⟨h.k.trans (KpL.of s), c.same s h.w⟩
theorem TrAll.zip2 {S : Addr → Prop} {H : Hp} : ∀ {nm : List Str} {ds : List PyData} {vs : List V}, ds.length = nm.length → TrAll S H ds vs → (nm.zip vs).map (·.1) = (nm.zip ds).map (·.1) ∧ TrAll S H ((nm.zip ds).map (·.2)) ((nm.zip vs).map (·.2))
  | [], [], _, _, t => by cases t; exact ⟨rfl, TrAll.nil⟩
  | n :: nm, d :: ds, _, e, ⟨v, us, e2, t, q⟩ => by
    subst e2
    obtain ⟨h1, h2⟩ := TrAll.zip2 (nm := nm) (by simpa using e) q
    exact ⟨by simp only [List.zip_cons_cons, List.map_cons]; rw [h1], .cons t h2⟩
  | [], d :: ds, _, e, _ => by simp at e
  | n :: nm, [], _, e, _ => by simp at e
theorem pds_raise {sp : Sp} {nm : List Str} (hm : Makes C sp nm) (h1 : nm.length = 1) (hE : ExOk c Ex W) (hp : ∀ {t}, PA X es t → PS X st (fun _ σ H => tMkO C sp [] t σ H fun cls d H' => W cls d H')) (ha : PDA X c es a) : PDS X c st (dRaise C nm Ex a) :=
  ⟨ps_weak (hp ha.run) fun D σ H ⟨S, γ, ρ, I, q⟩ => ⟨S, γ, ρ, I, ha.mono (fun avs ⟨ds, e, hl, q⟩ S1 vs H1 st1 I1 r1 => by
      subst e
      have t := r1.all
      have lv : vs.length = nm.length := by rw [t.len, hl]
      refine ⟨by omega, hm vs H1 _ lv fun d fs H' s nd hd ef => ?_⟩
      obtain ⟨k, w⟩ := I1.h.ground s
      refine hE C _ _ H' q k w (.inr ⟨d, fs, rfl, I1.h.free nd, hd, ?_⟩)
      have e1 : (nm.zip vs).reverse = nm.zip vs := by
        match nm, vs, h1, lv with
        | [n], [v], _, _ => rfl
      rw [ef, e1]
      obtain ⟨z1, z2⟩ := TrAll.zip2 hl (TrAll.mono (fun a s => I1.h.sub a s) _ _ (t.same s))
      exact ⟨z1, z2⟩) q⟩, fun h q => ha.mono (fun _ z => z) q⟩
theorem pds_raise0 (hE : ExOk c Ex W) (hp : PS X st (fun _ σ H => W (.ref C) none H)) : PDS X c st (dRaise0 C Ex) :=
  ⟨ps_weak hp fun D σ H ⟨S, γ, ρ, I, q⟩ => hE C [] none H q I.h.k I.h.w (.inl ⟨rfl, rfl⟩), fun _ q => q⟩
theorem pd_callX {F : FX} (hF : XMono F) (hE : ExOk c Ex W) (hp : ∀ {t}, PA X es t → PE X x (tCallS (spX F) (fun _ => W) t)) (ha : PDA X c es a) : PD X c x (dCallX F Ex a) :=
  ⟨pe_weak (hp ha.run) fun σ H Q ⟨S, γ, ρ, I, q⟩ => ⟨S, γ, ρ, I, ha.mono (fun avs ⟨ds, e, q⟩ S1 vs H1 st1 I1 r1 => by
      subst e
      refine ⟨S1, ds, r1.all, hF.m (fun d g v H2 sm t => ?_) (fun C es hx x H2 sm xd => ?_) q⟩
      · have w2 := c.same sm I1.h.w
        have st2 : Step c S1 H1 (fun a => (S1 a ∨ H1 a = none) ∧ H2 a ≠ none) H2 := ⟨fun a s => ⟨.inl s, c.fwd w2 (KpL.of sm) (I1.h.trk a s)⟩, KpL.of sm, fun a s => s.1.elim .inl fun z => .inr ⟨z, s.2⟩⟩
        exact g _ v H2 (st1.trans I1.h.w w2 st2) (I1.step st2 w2) (Tr.tracked _ _ t)
      · obtain ⟨k, w⟩ := I1.h.ground sm
        refine hE C es x H2 hx k w ?_
        rcases xd with ⟨e1, e2⟩ | ⟨a, fs, e1, na, ha, ef, t⟩
        · exact .inl ⟨e1, e2⟩
        · exact .inr ⟨a, fs, e1, I1.h.free na, ha, ef, TrAll.mono (fun a s => s.elim (I1.h.sub a) fun z => .inr (I1.h.free z)) _ _ t⟩) q⟩,
   fun m q => ha.mono (fun _ ⟨ds, e, g⟩ => ⟨ds, e, hF.m (fun _ z => m _ z) (fun _ _ z => z) g⟩) q⟩
end
section
variable {P : Program} {w : World} {K : PySem.W.Frag} {mg : Str → Option Value} {base : Heap} {x qual : Str} {st : Stmt} {f : Addr} {fd : FuncData} {N ps : List Str} {k : Nat}
/-- a def that may raise, by data -/
theorem fnX {F : FX} {s : EXD → DS} (Fn : Fun K x qual st f fd) (sc : FnScope N ps (defScope st)) (hl : ∀ ds Q Ex, F ds Q Ex → ds.length = ps.length)
    (hb : ∀ (c : DC) (Ex : EXD) (cdv : Value) (A : Around) (outer : List Env) (sh : Shared) (H : Hp) (E : XK), ExOk c Ex E → Room k (A.deeper (envOfC qual (defScope st) sh.heap.objs.size f cdv)) → PDSs (cxOf (L2.CX P w) P w K mg base N qual (defScope st) f cdv A outer sh H E) c (defBody st) (s Ex))
    (hs : ∀ ds Q Ex, F ds Q Ex → s Ex (fends Q) (dstart N (ds.map Av.d))) : FnOk P w K mg base (L2.CX P w) (k + 1) f fd ps (spX F) := by
  refine Fn.okX sc (fun vs H Q E h => ?_) (fun cdv A outer sh H vs Q E hr h => ?_)
  · obtain ⟨S, ds, t, q⟩ := h
    rw [t.len]
    exact hl ds _ _ q
  · obtain ⟨S, ds, t, q⟩ := h
    have t := TrAll.tracked _ _ t
    have key := hs ds _ _ q
    have sub : ∀ a, ((S a ∧ H a ≠ none) ∨ H a = none) → S a ∨ H a = none := fun a s => s.elim (fun s => .inl s.1) .inr
    have b := hb (pureC (fun a => S a ∧ H a ≠ none) H) (fun C es => ∀ x H', Same H H' → XD S H es H' x → E (.ref C) x H') cdv A outer sh H E (fun C es x H' hx k _ xd => hx x H' (k.same fun a z => z.elim) (xd.elim .inl fun ⟨a, fs, e1, na, ha, ef, t⟩ => .inr ⟨a, fs, e1, na, ha, ef, TrAll.mono sub _ _ t⟩)) hr
    refine ⟨_, b.run, fun a => S a ∧ H a ≠ none, [], _, start_inv ⟨True.intro, KpL.refl, fun a s => .inl s, fun a s => s.2⟩ (avs_of t) (fun _ => noO), ?_⟩
    refine b.mono (E := fends _) ⟨fun ρ q S' σ' H' I => ?_, fun av ⟨d, e, q⟩ S' v H' h' r => ?_, fun _ z => z.elim, fun _ z => z.elim⟩ key
    · exact q .non H' (I.h.k.same fun a z => z.elim) rfl
    · exact q v H' (h'.k.same fun a z => z.elim) (Tr.mono sub _ _ (r.ret h' e))
end

/-! ### own errors with one field -/
def sp1 (C : Addr) (f : Str) : Sp := fun vs H Q _ => ∃ (a : Addr) (x : V), vs = [.ref a, x] ∧ H a = some (exo a C none) ∧
  ∀ dx, H dx = none → dx ≠ a → Q .non (upd (upd H dx (exd dx [(f, x)])) a (exo a C (some dx)))
theorem mk1 {C : Addr} {f : Str} : Makes C (sp1 C f) [f] := fun vs H1 W l q a na => by
  match vs, l with
  | [x], _ =>
    refine ⟨a, x, rfl, upd_same, fun dx nd ne => ⟨rfl, dx, [(f, x)], upd_same, ?_, ?_, q dx _ _ (fun b o e => ?_) ?_ upd_same rfl⟩⟩
    · rw [upd_ne ne, upd_same]
    · rw [upd_ne ne] at nd
      exact nd
    · have hb : b ≠ a := ne_of_none e na
      have hd : b ≠ dx := fun z => by
        rw [upd_ne ne] at nd
        rw [z, nd] at e
        cases e
      rw [upd_ne hd, del_ne hb, upd_ne hb, upd_ne hd, upd_ne hb]
      exact e
    · rw [upd_ne ne] at nd
      exact nd

/-! ### the law's own comparison -/
mutual
def sameD : PyData → PyData → Bool
  | .list xs, .list ys => sameAll xs ys
  | .tuple xs, .tuple ys => sameAll xs ys
  | .bool a, .bool b => a == b
  | .int a, .int b => a == b
  | .str a, .str b => a == b
  | .none, .none => true
  | _, _ => false
def sameAll : List PyData → List PyData → Bool
  | [], [] => true
  | x :: xs, y :: ys => sameD x y && sameAll xs ys
  | _, _ => false
end
mutual
/-- nested below n, lists of at most a hundred -/
def Fit : PyData → Nat → Prop
  | _, 0 => False
  | .list ds, n + 1 => ds.length ≤ 100 ∧ FitAll ds n
  | .tuple ds, n + 1 => ds.length ≤ 100 ∧ FitAll ds n
  | .str s, _ + 1 => PyData.strOk s = true
  | .dict _, _ + 1 => False
  | _, _ + 1 => True
def FitAll : List PyData → Nat → Prop
  | [], _ => True
  | d :: r, n => Fit d n ∧ FitAll r n
end
theorem FitAll.get : ∀ {ds : List PyData} {n i : Nat} {d : PyData}, FitAll ds n → ds[i]? = some d → Fit d n
  | [], n, i, d, _, e => by simp at e
  | x :: r, n, 0, d, h, e => by cases e; exact h.1
  | x :: r, n, i + 1, d, h, e => FitAll.get (i := i) h.2 e
theorem FitAll.of : ∀ {ds : List PyData} {n : Nat}, (∀ d ∈ ds, Fit d n) → FitAll ds n
  | [], _, _ => True.intro
  | d :: r, n, h => ⟨h d List.mem_cons_self, FitAll.of fun x hx => h x (List.mem_cons_of_mem _ hx)⟩
mutual
theorem Fit.lay : ∀ (d : PyData) (n : Nat), Fit d n → d.canLay0 = true ∧ d.depth ≤ n
  | .none, n + 1, _ => by simp [PyData.canLay0, PyData.depth]
  | .bool b, n + 1, _ => by simp [PyData.canLay0, PyData.depth]
  | .int b, n + 1, _ => by simp [PyData.canLay0, PyData.depth]
  | .str s, n + 1, h => by
    have h : PyData.strOk s = true := h
    simp [PyData.canLay0, PyData.depth, h]
  | .list ds, n + 1, ⟨_, h⟩ => by
    have := FitAll.lay ds n h
    simp only [PyData.canLay0, PyData.depth]
    exact ⟨this.1, by have := this.2; omega⟩
  | .tuple ds, n + 1, ⟨_, h⟩ => by
    have := FitAll.lay ds n h
    simp only [PyData.canLay0, PyData.depth]
    exact ⟨this.1, by have := this.2; omega⟩
  | .dict _, n + 1, h => h.elim
  | .none, 0, h => h.elim
  | .bool _, 0, h => h.elim
  | .int _, 0, h => h.elim
  | .str _, 0, h => h.elim
  | .list _, 0, h => h.elim
  | .tuple _, 0, h => h.elim
  | .dict _, 0, h => h.elim
theorem FitAll.lay : ∀ (ds : List PyData) (n : Nat), FitAll ds n → PyData.canLayAll0 ds = true ∧ PyData.depthAll ds ≤ n
  | [], n, _ => by simp [PyData.canLayAll0, PyData.depthAll]
  | d :: r, n, h => by
    have h1 := Fit.lay d n h.1
    have h2 := FitAll.lay r n h.2
    simp only [PyData.canLayAll0, PyData.depthAll, h1.1, h2.1]
    refine ⟨rfl, ?_⟩
    omega
end
theorem Fit.shaped {d : PyData} {n : Nat} (h : Fit d n) (hn : n ≤ 64) : SeqAt.shaped d = true := by
  have := Fit.lay d n h
  simp only [SeqAt.shaped, this.1, Bool.true_and, decide_eq_true_eq]
  omega
theorem sameAll_zip : ∀ (xs ys : List PyData), xs.length = ys.length → sameAll xs ys = (List.zipWith sameD xs ys).all id
  | [], [], _ => by simp [sameAll]
  | x :: r, y :: q, h => by
    rw [sameAll, sameAll_zip r q (by simpa using h), List.zipWith_cons_cons, List.all_cons]
    rfl
theorem sameAll_len : ∀ (xs ys : List PyData), xs.length ≠ ys.length → sameAll xs ys = false
  | [], [], h => absurd rfl h
  | [], y :: q, _ => by simp [sameAll]
  | x :: r, [], _ => by simp [sameAll]
  | x :: r, y :: q, h => by
    rw [sameAll, sameAll_len r q (fun e => h (by simp [e])), Bool.and_false]
mutual
theorem same_refl : ∀ (d : PyData) (n : Nat), Fit d n → sameD d d = true
  | .none, _, _ => by simp [sameD]
  | .bool b, _, _ => by simp [sameD]
  | .int b, _, _ => by simp [sameD]
  | .str s, _, _ => by simp [sameD]
  | .list ds, n + 1, ⟨_, h⟩ => by simp only [sameD]; exact sameAll_refl ds n h
  | .tuple ds, n + 1, ⟨_, h⟩ => by simp only [sameD]; exact sameAll_refl ds n h
  | .dict _, n + 1, h => h.elim
  | .list _, 0, h => h.elim
  | .tuple _, 0, h => h.elim
  | .dict _, 0, h => h.elim
theorem sameAll_refl : ∀ (ds : List PyData) (n : Nat), FitAll ds n → sameAll ds ds = true
  | [], _, _ => by simp [sameAll]
  | d :: r, n, h => by
    simp only [sameAll, same_refl d n h.1, sameAll_refl r n h.2, Bool.and_self]
end

/-! ### values of the law's: nested below n, lists of at most a hundred -/
mutual
def Ok : PyData → Nat → Prop
  | _, 0 => False
  | .list ds, n + 1 => ds.length ≤ 100 ∧ OkAll ds n
  | .tuple ds, n + 1 => ds.length ≤ 100 ∧ OkAll ds n
  | .str s, _ + 1 => PyData.strOk s = true
  | _, _ + 1 => True
def OkAll : List PyData → Nat → Prop
  | [], _ => True
  | d :: r, n => Ok d n ∧ OkAll r n
end
theorem OkAll.mem : ∀ {ds : List PyData} {n : Nat} {d : PyData}, OkAll ds n → d ∈ ds → Ok d n
  | x :: r, n, d, h, m => (List.mem_cons.mp m).elim (fun e => e ▸ h.1) fun m => OkAll.mem h.2 m
theorem OkAll.of : ∀ {ds : List PyData} {n : Nat}, (∀ d ∈ ds, Ok d n) → OkAll ds n
  | [], _, _ => True.intro
  | d :: r, n, h => ⟨h d List.mem_cons_self, OkAll.of fun x hx => h x (List.mem_cons_of_mem _ hx)⟩
mutual
theorem Ok.mono : ∀ (d : PyData) (n : Nat), Ok d n → Ok d (n + 1)
  | .none, n + 1, _ => True.intro
  | .bool b, n + 1, _ => True.intro
  | .int b, n + 1, _ => True.intro
  | .dict b, n + 1, _ => True.intro
  | .str s, n + 1, h => h
  | .list ds, n + 1, ⟨l, h⟩ => ⟨l, OkAll.mono ds n h⟩
  | .tuple ds, n + 1, ⟨l, h⟩ => ⟨l, OkAll.mono ds n h⟩
  | .none, 0, h => h.elim
  | .bool _, 0, h => h.elim
  | .int _, 0, h => h.elim
  | .str _, 0, h => h.elim
  | .list _, 0, h => h.elim
  | .tuple _, 0, h => h.elim
  | .dict _, 0, h => h.elim
theorem OkAll.mono : ∀ (ds : List PyData) (n : Nat), OkAll ds n → OkAll ds (n + 1)
  | [], _, _ => True.intro
  | d :: r, n, h => ⟨Ok.mono d n h.1, OkAll.mono r n h.2⟩
end
theorem Ok.le {d : PyData} {n m : Nat} (h : Ok d n) (hm : n ≤ m) : Ok d m := by
  induction hm with
  | refl => exact h
  | step _ ih => exact Ok.mono _ _ ih
theorem shB (b : Bool) : SeqAt.shaped (.bool b) = true := by simp [SeqAt.shaped, PyData.canLay0, PyData.depth]
theorem shI (i : Int) : SeqAt.shaped (.int i) = true := by simp [SeqAt.shaped, PyData.canLay0, PyData.depth]
theorem atI_mem {ds : List PyData} {r : Int} (h0 : 0 ≤ r) (h1 : r < ds.length) : ∃ d, atI ds r = some d ∧ d ∈ ds := by
  have hi : r.toNat < ds.length := by omega
  refine ⟨ds[r.toNat], ?_, List.getElem_mem hi⟩
  have e : (r.toNat : Int) = r := Int.toNat_of_nonneg h0
  have h : atI ds (r.toNat : Int) = some ds[r.toNat] := atI_nat (List.getElem?_eq_getElem hi)
  rw [e] at h
  exact h
theorem eqvI (i j : Int) : PyData.eqv (.int i) (.int j) = decide (i = j) := by
  rw [PyData.eqv]
  by_cases h : i = j
  · subst h; simp
  · simp [h]
theorem eqvI2 (i j : Int) : PyData.eqv (.int i) (.int j) = (i == j) := by rw [PyData.eqv]
theorem eqvB (i j : Bool) : PyData.eqv (.bool i) (.bool j) = (i == j) := by rw [PyData.eqv]
theorem eqvS (i j : Str) : PyData.eqv (.str i) (.str j) = (i == j) := by rw [PyData.eqv]
/-- a copy -/
def F__law_copied (n : Nat) : FD := fun ds Q => ∃ d, ds = [d] ∧ Ok d n ∧ Q d
theorem FM__law_copied {n : Nat} : FMono (F__law_copied n) := ⟨fun m ⟨d, e, h, q⟩ => ⟨d, e, h, m _ q⟩⟩
def F__law_same (n : Nat) : FD := fun ds Q => ∃ d e, ds = [d, e] ∧ Ok d n ∧ Ok e n ∧ Q (.bool (sameD d e))
theorem FM__law_same {n : Nat} : FMono (F__law_same n) := ⟨fun m ⟨d, e, h, h1, h2, q⟩ => ⟨d, e, h, h1, h2, m _ q⟩⟩
/-- what the program does of two values of the same length, item by item -/
theorem lc_range_map {n : Nat} {f : Nat → PyData} {g : DG} {e : DE} {ρw : DEnv} {Q : List PyData → Prop} (hl : n ≤ 1000) (he : ∀ i, i < n → ∀ P : Av → Prop, P (.d (f i)) → g (.int (0 + (i : Int))) ρw fun ρ' => dtYes ρ' fun b => if b = true then e ρ' P else False) (q : Q ((List.range n).map f))
    (mg : ∀ {d ρ} {P P' : DEnv → Prop}, (∀ ρ, P ρ → P' ρ) → g d ρ P → g d ρ P') :
    ∃ I : Nat → List PyData → Prop, I 0 [] ∧ (∀ i d acc, (intsFrom 0 n)[i]? = some d → I i acc → g d ρw fun ρ' => dtYes ρ' fun b => if b = true then e ρ' (fun av => ∃ z, av = .d z ∧ acc.length < 1000 ∧ I (i + 1) (acc ++ [z])) else I (i + 1) acc) ∧ ∀ acc, I (intsFrom 0 n).length acc → Q acc := by
  have ln : (intsFrom 0 n).length = n := by unfold intsFrom; rw [List.length_map, List.length_range]
  refine ⟨fun i acc => acc = (List.range i).map f, rfl, fun i d acc h ea => ?_, fun acc e => by rw [e, ln]; exact q⟩
  have hi := (List.getElem?_eq_some_iff.mp h).1
  rw [ln] at hi
  have hd : d = .int (0 + (i : Int)) := by
    unfold intsFrom at h
    rw [List.getElem?_map, List.getElem?_range hi] at h
    exact (Option.some.inj h).symm
  subst hd
  refine mg (P := fun ρ' => dtYes ρ' fun b => if b = true then e ρ' (fun av => ∃ z, av = .d z ∧ acc.length < 1000 ∧ (fun i acc => acc = (List.range i).map f) (i + 1) (acc ++ [z])) else False) (fun ρ' z => z) (he i hi _ ⟨f i, rfl, ?_, ?_⟩)
  · rw [ea, List.length_map, List.length_range]
    omega
  · show acc ++ [f i] = (List.range (i + 1)).map f
    rw [List.range_succ, List.map_append, ← show acc = (List.range i).map f from ea]
    rfl
theorem same_range {xs ys : List PyData} (h : xs.length = ys.length) {f : Nat → Bool} (hf : ∀ i x y, xs[i]? = some x → ys[i]? = some y → f i = sameD x y) : ((List.range ys.length).map f).all id = sameAll xs ys := by
  rw [sameAll_zip _ _ h]
  congr 1
  refine List.ext_getElem? fun i => ?_
  rw [List.getElem?_map, List.getElem?_zipWith]
  by_cases hi : i < ys.length
  · have hx : i < xs.length := by omega
    rw [List.getElem?_range hi, List.getElem?_eq_getElem hx, List.getElem?_eq_getElem hi]
    exact congrArg some (hf i _ _ (List.getElem?_eq_getElem hx) (List.getElem?_eq_getElem hi))
  · rw [List.getElem?_eq_none (by rw [List.length_range]; omega), List.getElem?_eq_none (l := ys) (by omega)]
    cases xs[i]? <;> rfl

/-- f(e, .., k = v, ..) with all keyword-only values given -/
theorem kb_all {K : PySem.W.Frag} {x qual : Str} {st : Stmt} {f : Addr} {fd : FuncData} {ps ks : List Str} {n : Nat} (F : Fun K x qual st f fd)
    (h : ∀ (kV doc pm : Value) (an : Option Addr) (cdv ct : Value) (us ws : List Value), us.length = n → ws.length = ks.length → bindArgs (PySem.W.fnOf x qual (defArgs st) (defBody st) (defScope st) .none kV doc pm an cdv ct) ⟨us, ks.zip ws⟩ = pure (ps.zip (us ++ ws))) : KBn K fd ps n ks (fun us ws => us ++ ws) (fun us ws => us ++ ws) := by
  obtain ⟨oc, od, kV, doc, pm, an, cdv, ct, osl, rfl, lk, hcd⟩ := F.ex
  exact ⟨fun s us ws _ l1 l2 => .of_eq (h kV doc pm an cdv ct us ws l1 l2), fun r1 r2 => r1.append r2⟩
/-! ### f(e, .., k = v, ..) of a def that raises, the wish at the caller's slots -/
section
variable {X : Cx} {CX : CXT} {lv n : Nat} {f : Addr} {fd : FuncData} {ps ks : List Str} {sp : Sp} {x : Str} {p pos : Pos} {e : Expr} {es : List Expr} {kws : List Keyword} {ta tb : TA} {g : List Value → List Value → List Value} {gV : List V → List V → List V} {W : L2.St → XK}
def tCallNS (n m : Nat) (sp : Sp) (gV : List V → List V → List V) (W : L2.St → XK) (ta tb : TA) : TE := fun σ H Q => ta σ H fun vs H1 => tb σ H1 fun zs H2 => vs.length = n ∧ zs.length = m ∧ sp (gV vs zs) H2 Q (W σ)
theorem pe_callNS (F : FnOk X.prog X.w X.K X.mg X.base CX lv f fd ps sp) (hr : Room lv X.A) (hg : Gl X x) (hm : X.mg x = some (.ref f)) (hk : PySem.W.keepIn X.K (.ref f) = true) (hb : KBn X.K fd ps n ks g gV)
    (hx : ∀ σ, PassesAt CX X σ (W σ)) (ha : PA X (e :: es) ta) (hc : PK X kws tb)
    (hall : (backToKw pos (keywordEach kws X.env)).all (·.1.isSome) = true := by rfl)
    (hks : (backToKw pos (keywordEach kws X.env)).filterMap (·.1) = ks := by rfl) (hdb : (x == ("__debug__" : Str)) = false := by decide)
    (he : starEach (e :: es) X.env = (false, eval e X.env) :: starEach es X.env := by rfl)
    (hpl : ((backTo pos (starEach (e :: es) X.env)).any (·.1) || (backToKw pos (keywordEach kws X.env)).any (·.1.isNone)) = false := by rfl) :
    PE X (.Call (.Name x p) (e :: es) kws pos) (tCallNS n ks.length sp gV W ta tb) :=
  ⟨fun pins s σ H Q I h => wpAny_Call_Name_kw (ld_glob I hg hm (PySem.W.callWith_KW (h₀ := X.base) I.ok.mod.kin hk hall (thn (ha.run pos pins s σ H _ I h) fun us s1 ⟨vs, H1, I1, r1, q⟩ => thn (hc.run pos pins s1 σ H1 _ I1 q) fun ws s2 ⟨zs, H2, J, r2, l1, l2, q2⟩ => ⟨J.kIn, by
    rw [hks]
    refine wpAny_call (codeAny_mono (F.run X.A X.stack s2 H2 ⟨us, ks.zip ws⟩ (g us ws) (gV vs zs) Q (W σ) hr J.env0 (hb.to s2 us ws J.kIn (by rw [← r1.length, l1]) (by rw [← r2.length, l2])) (hb.rel r1 r2) q2) fun res t hq => ?_)
    match res, hq with
    | .error e, hq => exact hx σ pins H2 s2 e t J hq
    | .ok (.ret u), hq => exact J.after hq
    | .ok .next, hq => exact False.elim hq
    | .ok .brk, hq => exact False.elim hq
    | .ok .cont, hq => exact False.elim hq⟩) hpl he) hdb)⟩
end

/-! ### the dict WORDS: a tuple of a number and two tuples of numbers at each word -/
def tblW : List (Str × Int × List Int × List Int) := [("home", 1, [0], []), ("swap", 2, [0, 1], [1, 0]), ("undo", 2, [0, 1], []), ("first", 2, [0, 1], [0]), ("last", 2, [0, 1], [1]), ("ring", 3, [0, 1, 2], [1, 2, 0])]
def noWords : List Str := ["Home", "", "swap ", "rings", "las"]
def WRow (w : World) (K : PySem.W.Frag) (d : Addr) (s : Str) (m : Int) (l r : List Int) : Prop := ∃ ab x y : Addr, KDct K w d s (.ref ab) ∧ (∀ H, SqT K H ab [.int m, .ref x, .ref y]) ∧ (∀ H, SqT K H x (l.map V.int)) ∧ ∀ H, SqT K H y (r.map V.int)
theorem words_of {w : World} {K : PySem.W.Frag} {d : Addr} (w0 : WRow w K d "home" 1 [0] []) (w1 : WRow w K d "swap" 2 [0, 1] [1, 0]) (w2 : WRow w K d "undo" 2 [0, 1] []) (w3 : WRow w K d "first" 2 [0, 1] [0]) (w4 : WRow w K d "last" 2 [0, 1] [1]) (w5 : WRow w K d "ring" 3 [0, 1, 2] [1, 2, 0]) : ∀ t ∈ tblW, WRow w K d t.1 t.2.1 t.2.2.1 t.2.2.2 := fun t h => by
  simp only [tblW, List.mem_cons, List.not_mem_nil, or_false] at h
  rcases h with rfl | rfl | rfl | rfl | rfl | rfl
  · exact w0
  · exact w1
  · exact w2
  · exact w3
  · exact w4
  · exact w5
theorem nowords {K : PySem.W.Frag} {d : Addr} (w0 : PySem.W.nsIn K d "Home" = some none) (w1 : PySem.W.nsIn K d "" = some none) (w2 : PySem.W.nsIn K d "swap " = some none) (w3 : PySem.W.nsIn K d "rings" = some none) (w4 : PySem.W.nsIn K d "las" = some none) : ∀ s ∈ noWords, PySem.W.nsIn K d s = some none := fun t h => by
  simp only [noWords, List.mem_cons, List.not_mem_nil, or_false] at h
  rcases h with rfl | rfl | rfl | rfl | rfl
  · exact w0
  · exact w1
  · exact w2
  · exact w3
  · exact w4

/-! ### isinstance(e, c), e a caught error of an own class that has fields -/
structure IsX (K : PySem.W.Frag) (C : Addr) : Prop where
  ha : PySem.W.findIn K (.ref C) "__class__" = some (some (.builtin "object.__class__"))
  hn : PySem.W.specialIn K (.builtin "object.__class__") "__get__" = some (some (.builtin "getset_descriptor.__get__"))
  ht : PySem.W.takesIn K (.builtin "object.__class__") = some true
  hm : PySem.W.mroIn K C (.type "object") = some true
  hc : PySem.W.isClsIn K C = true
theorem kit_ref {K : PySem.W.Frag} {t : Value} {C : Addr} (hc : PySem.W.isClsIn K C = true) (ht : PySem.W.typeIn K (.ref C) = some (.type "type")) (h : PySem.W.subIn K t (.ref C) = some true) : PySem.W.kitOne K t (.ref C) = some true := by
  have e : ((PySem.W.clsIn K C).isSome && PySem.W.typeIn K (.ref C) == some (.type "type")) = true := by
    rw [ht, show (PySem.W.clsIn K C).isSome = true from hc]
    rfl
  unfold PySem.W.kitOne PySem.W.kitCls
  split
  · rfl
  · show (if ((PySem.W.clsIn K C).isSome && PySem.W.typeIn K (.ref C) == some (.type "type")) = true then PySem.W.subIn K t (.ref C) else none) = some true
    rw [if_pos e]
    exact h
theorem kit_typ {K : PySem.W.Frag} {t : Value} {T : String} (hk : PySem.W.kitMeta T = true) (h : PySem.W.subIn K t (.type T) = some true) : PySem.W.kitOne K t (.type T) = some true := by
  unfold PySem.W.kitOne PySem.W.kitCls
  split
  · rfl
  · show (if PySem.W.kitMeta T = true then PySem.W.subIn K t (.type T) else none) = some true
    rw [if_pos hk]
    exact h
def rIsX (K : PySem.W.Frag) (C a : Addr) (cls : Value) (d : Option Addr) : List V → Hp → VK → Prop := fun xs H Q => ∃ (c : V) (cv : Value) (b : Bool) (dd : Addr) (fs : List (Str × V)), xs = [.ref a, c] ∧ cls = .ref C ∧ d = some dd ∧ H dd = some (.xd fs) ∧ (∀ u, RelV c u → u = cv) ∧ PySem.W.kitOne K (.ref C) cv = some b ∧ Q (.bl b) H
theorem call_isX {X : Cx} {a C : Addr} {oe : Obj} {cls : Value} {d : Option Addr} {pn : List (Addr × Obj)} (T : XfC X.K C) (I2 : IsX X.K C) (hz : Zc cls d oe) (hf : ∃ vs, oe.data = .fields vs) : CallR (X.suite a ((a, oe) :: pn)) (.builtin "isinstance") (rIsX X.K C a cls d) := by
  intro pins s σ H xs us Q I r h
  obtain ⟨c, cv, b, dd, fs, rfl, ec, ed, l, hcv, e, q⟩ := h
  subst ec ed
  match us, r with
  | [u1, u2], .cons rx (.cons rc .nil) =>
  obtain rfl : u1 = Value.ref a := rx
  obtain rfl := hcv _ rc
  obtain ⟨g, _⟩ := I.pin (a, oe) (List.mem_append_left _ List.mem_cons_self)
  obtain ⟨vs, hd⟩ := hf
  have hx : ObjOk X.prog X.w H s.heap dd (.xd fs) := I.hok dd _ l
  obtain ⟨_, hns, _⟩ := hx
  obtain ⟨od, ho, _⟩ := lookIn_ns hns
  have J : PySem.W.InstAt s.heap a oe C (some od) := ⟨g, hz.1, by unfold PySem.W.notCls; rw [hd] <;> rfl, by rw [hz.2]; exact ho⟩
  exact PySem.W.kia_one (PySem.W.kitx_exc I2.hc T.ga T.gg T.exC I2.ha I2.hn I2.ht I2.hm) I.kIn J e (fun z => nomatch z) fun tk => ⟨.bl b, H, I.kept (t' := tk) fun _ _ z => z, rfl, q⟩


section
variable {P : Program} {w : World} {K : PySem.W.Frag} {mg : Str → Option Value} {base : Heap}
--SPLIT
def topS (i : Nat) : Stmt := PySem.Challenge.pw_penhome_k60_named_equations.main.body.getD i (.Pass ⟨0, 0, 0, 0⟩)
theorem bt_all : bootBuiltins "all" = some (.builtin "all") := by decide +kernel
theorem bt_bool : bootBuiltins "bool" = some (.type "bool") := by decide +kernel
theorem bt_int : bootBuiltins "int" = some (.type "int") := by decide +kernel
theorem bt_isinstance : bootBuiltins "isinstance" = some (.builtin "isinstance") := by decide +kernel
theorem bt_len : bootBuiltins "len" = some (.builtin "len") := by decide +kernel
theorem bt_list : bootBuiltins "list" = some (.type "list") := by decide +kernel
theorem bt_range : bootBuiltins "range" = some (.type "range") := by decide +kernel
theorem bt_str : bootBuiltins "str" = some (.type "str") := by decide +kernel
theorem bt_tuple : bootBuiltins "tuple" = some (.type "tuple") := by decide +kernel
theorem bt_zip : bootBuiltins "zip" = some (.type "zip") := by decide +kernel
abbrev s_NoEquation___init__ : Stmt := inClass (topS 2) 0
abbrev N_NoEquation___init__ : List Str := ["self", "place"]
theorem sc_NoEquation___init__ : FnScope N_NoEquation___init__ ["self", "place"] (defScope s_NoEquation___init__) := ⟨rfl, rfl, rfl, by decide +kernel, rfl, by decide +kernel, by decide +kernel⟩
abbrev s_is_integer : Stmt := topS 4
abbrev N_is_integer : List Str := ["thing"]
theorem sc_is_integer : FnScope N_is_integer ["thing"] (defScope s_is_integer) := ⟨rfl, rfl, rfl, by decide +kernel, rfl, by decide +kernel, by decide +kernel⟩
abbrev s_is_within : Stmt := topS 5
abbrev N_is_within : List Str := ["thing", "bounds", "low", "high"]
theorem sc_is_within : FnScope N_is_within ["thing", "bounds"] (defScope s_is_within) := ⟨rfl, rfl, rfl, by decide +kernel, rfl, by decide +kernel, by decide +kernel⟩
abbrev s_is_bit : Stmt := topS 6
abbrev N_is_bit : List Str := ["thing"]
theorem sc_is_bit : FnScope N_is_bit ["thing"] (defScope s_is_bit) := ⟨rfl, rfl, rfl, by decide +kernel, rfl, by decide +kernel, by decide +kernel⟩
abbrev s_is_index : Stmt := topS 9
abbrev N_is_index : List Str := ["thing", "many"]
theorem sc_is_index : FnScope N_is_index ["thing", "many"] (defScope s_is_index) := ⟨rfl, rfl, rfl, by decide +kernel, rfl, by decide +kernel, by decide +kernel⟩
abbrev s_is_key : Stmt := topS 13
abbrev N_is_key : List Str := ["thing", "procedures"]
theorem sc_is_key : FnScope N_is_key ["thing", "procedures"] (defScope s_is_key) := ⟨rfl, rfl, rfl, by decide +kernel, rfl, by decide +kernel, by decide +kernel⟩
abbrev s_are_keys : Stmt := topS 14
abbrev N_are_keys : List Str := ["thing", "procedures", "least", "most", "item"]
theorem sc_are_keys : FnScope N_are_keys ["thing", "procedures", "least", "most"] (defScope s_are_keys) := ⟨rfl, rfl, rfl, by decide +kernel, rfl, by decide +kernel, by decide +kernel⟩
abbrev s_are_parts : Stmt := topS 15
abbrev N_are_parts : List Str := ["thing", "one", "other", "item"]
theorem sc_are_parts : FnScope N_are_parts ["thing"] (defScope s_are_parts) := ⟨rfl, rfl, rfl, by decide +kernel, rfl, by decide +kernel, by decide +kernel⟩
abbrev s_named : Stmt := topS 16
abbrev N_named : List Str := ["word", "variables", "parts", "many", "left", "right"]
theorem sc_named : FnScope N_named ["word", "variables", "parts"] (defScope s_named) := ⟨rfl, rfl, rfl, by decide +kernel, rfl, by decide +kernel, by decide +kernel⟩
abbrev s__law_pool : Stmt := topS 18
abbrev N__law_pool : List Str := ["_law_script", "_law_cell"]
theorem sc__law_pool : FnScope N__law_pool ["_law_script"] (defScope s__law_pool) := ⟨rfl, rfl, rfl, by decide +kernel, rfl, by decide +kernel, by decide +kernel⟩
abbrev s__law_draw : Stmt := topS 19
abbrev N__law_draw : List Str := ["_law_pool_here", "_law_many", "_law_at", "_law_cell", "_law_number_here"]
theorem sc__law_draw : FnScope N__law_draw ["_law_pool_here", "_law_many"] (defScope s__law_draw) := ⟨rfl, rfl, rfl, by decide +kernel, rfl, by decide +kernel, by decide +kernel⟩
abbrev s__law_copied : Stmt := topS 20
abbrev N__law_copied : List Str := ["_law_value", "_law_item"]
theorem sc__law_copied : FnScope N__law_copied ["_law_value"] (defScope s__law_copied) := ⟨rfl, rfl, rfl, by decide +kernel, rfl, by decide +kernel, by decide +kernel⟩
abbrev s__law_same : Stmt := topS 21
abbrev N__law_same : List Str := ["_law_one", "_law_other", "_law_k"]
theorem sc__law_same : FnScope N__law_same ["_law_one", "_law_other"] (defScope s__law_same) := ⟨rfl, rfl, rfl, by decide +kernel, rfl, by decide +kernel, by decide +kernel⟩
abbrev s__law_words : Stmt := topS 22
abbrev N__law_words : List Str := []
theorem sc__law_words : FnScope N__law_words [] (defScope s__law_words) := ⟨rfl, rfl, rfl, by decide +kernel, rfl, by decide +kernel, by decide +kernel⟩
abbrev s__law_integer : Stmt := topS 23
abbrev N__law_integer : List Str := ["_law_thing", "_law_low", "_law_high"]
theorem sc__law_integer : FnScope N__law_integer ["_law_thing", "_law_low", "_law_high"] (defScope s__law_integer) := ⟨rfl, rfl, rfl, by decide +kernel, rfl, by decide +kernel, by decide +kernel⟩
abbrev s__law_variable : Stmt := topS 24
abbrev N__law_variable : List Str := ["_law_thing"]
theorem sc__law_variable : FnScope N__law_variable ["_law_thing"] (defScope s__law_variable) := ⟨rfl, rfl, rfl, by decide +kernel, rfl, by decide +kernel, by decide +kernel⟩
abbrev s__law_row : Stmt := topS 25
abbrev N__law_row : List Str := ["_law_thing", "_law_k"]
theorem sc__law_row : FnScope N__law_row ["_law_thing"] (defScope s__law_row) := ⟨rfl, rfl, rfl, by decide +kernel, rfl, by decide +kernel, by decide +kernel⟩
abbrev s__law_due : Stmt := topS 26
abbrev N__law_due : List Str := ["_law_word_here", "_law_variables_here", "_law_row_here", "_law_sizes", "_law_lefts", "_law_rights", "_law_at", "_law_item"]
theorem sc__law_due : FnScope N__law_due ["_law_word_here", "_law_variables_here", "_law_row_here"] (defScope s__law_due) := ⟨rfl, rfl, rfl, by decide +kernel, rfl, by decide +kernel, by decide +kernel⟩
abbrev s__law_number : Stmt := topS 27
abbrev N__law_number : List Str := ["_law_pool_here", "_law_low", "_law_high", "_law_odd", "_law_number_here"]
theorem sc__law_number : FnScope N__law_number ["_law_pool_here", "_law_low", "_law_high", "_law_odd"] (defScope s__law_number) := ⟨rfl, rfl, rfl, by decide +kernel, rfl, by decide +kernel, by decide +kernel⟩
abbrev s__law_word : Stmt := topS 28
abbrev N__law_word : List Str := ["_law_pool_here", "_law_kind"]
theorem sc__law_word : FnScope N__law_word ["_law_pool_here"] (defScope s__law_word) := ⟨rfl, rfl, rfl, by decide +kernel, rfl, by decide +kernel, by decide +kernel⟩
abbrev s__law_variables : Stmt := topS 29
abbrev N__law_variables : List Str := ["_law_pool_here", "_law_word_here", "_law_odd", "_law_many", "_law_rows", "_law_turn", "_law_pair", "_law_spoil", "_law_at"]
theorem sc__law_variables : FnScope N__law_variables ["_law_pool_here", "_law_word_here"] (defScope s__law_variables) := ⟨rfl, rfl, rfl, by decide +kernel, rfl, by decide +kernel, by decide +kernel⟩
abbrev s__law_chosen : Stmt := topS 30
abbrev N__law_chosen : List Str := ["_law_pool_here", "_law_kind", "_law_turn"]
theorem sc__law_chosen : FnScope N__law_chosen ["_law_pool_here"] (defScope s__law_chosen) := ⟨rfl, rfl, rfl, by decide +kernel, rfl, by decide +kernel, by decide +kernel⟩
abbrev s__law_asked : Stmt := topS 31
abbrev N__law_asked : List Str := ["_law_word_here", "_law_variables_here", "_law_row_here", "_law_plain", "_law_place", "_law_found", "_law_above", "e"]
theorem sc__law_asked : FnScope N__law_asked ["_law_word_here", "_law_variables_here", "_law_row_here", "_law_plain"] (defScope s__law_asked) := ⟨rfl, rfl, rfl, by decide +kernel, rfl, by decide +kernel, by decide +kernel⟩
abbrev s_law : Stmt := topS 32
abbrev N_law : List Str := ["_law_script", "_law_pool_here", "_law_turn", "_law_word_here", "_law_variables_here", "_law_row_here", "_law_plain", "_law_due_here", "_law_passed", "_law_told", "_law_part"]
theorem sc_law : FnScope N_law ["_law_script"] (defScope s_law) := ⟨rfl, rfl, rfl, by decide +kernel, rfl, by decide +kernel, by decide +kernel⟩
structure Top (w : World) (K : PySem.W.Frag) (mg : Str → Option Value) where
  C_NoEquation : Addr
  g_NoEquation : mg "NoEquation" = some (.ref C_NoEquation)
  O_NoEquation : OexC K C_NoEquation
  x_NoEquation : PySem.W.exmOne K (.ref C_NoEquation) (.ref C_NoEquation) = some true
  xf_NoEquation : XfC K C_NoEquation
  no_NoEquation_place : PySem.W.findIn K (.ref C_NoEquation) "place" = some none
  a_NoEquation___init__ : Addr
  d_NoEquation___init__ : FuncData
  F_NoEquation___init__ : Fun K "__init__" "NoEquation.__init__" s_NoEquation___init__ a_NoEquation___init__ d_NoEquation___init__
  io_NoEquation : PySem.W.findIn K (.ref C_NoEquation) "__init__" = some (some (.ref a_NoEquation___init__))
  to_NoEquation : PySem.W.typeIn K (.ref a_NoEquation___init__) = some (.type "function")
  a_is_integer : Addr
  d_is_integer : FuncData
  F_is_integer : Fun K "is_integer" "is_integer" s_is_integer a_is_integer d_is_integer
  g_is_integer : mg "is_integer" = some (.ref a_is_integer)
  a_is_within : Addr
  d_is_within : FuncData
  F_is_within : Fun K "is_within" "is_within" s_is_within a_is_within d_is_within
  g_is_within : mg "is_within" = some (.ref a_is_within)
  a_is_bit : Addr
  d_is_bit : FuncData
  F_is_bit : Fun K "is_bit" "is_bit" s_is_bit a_is_bit d_is_bit
  g_is_bit : mg "is_bit" = some (.ref a_is_bit)
  a_is_index : Addr
  d_is_index : FuncData
  F_is_index : Fun K "is_index" "is_index" s_is_index a_is_index d_is_index
  g_is_index : mg "is_index" = some (.ref a_is_index)
  a_is_key : Addr
  d_is_key : FuncData
  F_is_key : Fun K "is_key" "is_key" s_is_key a_is_key d_is_key
  g_is_key : mg "is_key" = some (.ref a_is_key)
  a_are_keys : Addr
  d_are_keys : FuncData
  F_are_keys : Fun K "are_keys" "are_keys" s_are_keys a_are_keys d_are_keys
  g_are_keys : mg "are_keys" = some (.ref a_are_keys)
  a_are_parts : Addr
  d_are_parts : FuncData
  F_are_parts : Fun K "are_parts" "are_parts" s_are_parts a_are_parts d_are_parts
  g_are_parts : mg "are_parts" = some (.ref a_are_parts)
  a_named : Addr
  d_named : FuncData
  F_named : Fun K "named" "named" s_named a_named d_named
  FD_named : FunD K "named" "named" (defArgs s_named) (defBody s_named) (defScope s_named) [] [("parts", .non)] a_named d_named
  g_named : mg "named" = some (.ref a_named)
  a__law_pool : Addr
  d__law_pool : FuncData
  F__law_pool : Fun K "_law_pool" "_law_pool" s__law_pool a__law_pool d__law_pool
  g__law_pool : mg "_law_pool" = some (.ref a__law_pool)
  a__law_draw : Addr
  d__law_draw : FuncData
  F__law_draw : Fun K "_law_draw" "_law_draw" s__law_draw a__law_draw d__law_draw
  g__law_draw : mg "_law_draw" = some (.ref a__law_draw)
  a__law_copied : Addr
  d__law_copied : FuncData
  F__law_copied : Fun K "_law_copied" "_law_copied" s__law_copied a__law_copied d__law_copied
  g__law_copied : mg "_law_copied" = some (.ref a__law_copied)
  a__law_same : Addr
  d__law_same : FuncData
  F__law_same : Fun K "_law_same" "_law_same" s__law_same a__law_same d__law_same
  g__law_same : mg "_law_same" = some (.ref a__law_same)
  a__law_words : Addr
  d__law_words : FuncData
  F__law_words : Fun K "_law_words" "_law_words" s__law_words a__law_words d__law_words
  g__law_words : mg "_law_words" = some (.ref a__law_words)
  a__law_integer : Addr
  d__law_integer : FuncData
  F__law_integer : Fun K "_law_integer" "_law_integer" s__law_integer a__law_integer d__law_integer
  g__law_integer : mg "_law_integer" = some (.ref a__law_integer)
  a__law_variable : Addr
  d__law_variable : FuncData
  F__law_variable : Fun K "_law_variable" "_law_variable" s__law_variable a__law_variable d__law_variable
  g__law_variable : mg "_law_variable" = some (.ref a__law_variable)
  a__law_row : Addr
  d__law_row : FuncData
  F__law_row : Fun K "_law_row" "_law_row" s__law_row a__law_row d__law_row
  g__law_row : mg "_law_row" = some (.ref a__law_row)
  a__law_due : Addr
  d__law_due : FuncData
  F__law_due : Fun K "_law_due" "_law_due" s__law_due a__law_due d__law_due
  g__law_due : mg "_law_due" = some (.ref a__law_due)
  a__law_number : Addr
  d__law_number : FuncData
  F__law_number : Fun K "_law_number" "_law_number" s__law_number a__law_number d__law_number
  g__law_number : mg "_law_number" = some (.ref a__law_number)
  a__law_word : Addr
  d__law_word : FuncData
  F__law_word : Fun K "_law_word" "_law_word" s__law_word a__law_word d__law_word
  g__law_word : mg "_law_word" = some (.ref a__law_word)
  a__law_variables : Addr
  d__law_variables : FuncData
  F__law_variables : Fun K "_law_variables" "_law_variables" s__law_variables a__law_variables d__law_variables
  g__law_variables : mg "_law_variables" = some (.ref a__law_variables)
  a__law_chosen : Addr
  d__law_chosen : FuncData
  F__law_chosen : Fun K "_law_chosen" "_law_chosen" s__law_chosen a__law_chosen d__law_chosen
  g__law_chosen : mg "_law_chosen" = some (.ref a__law_chosen)
  a__law_asked : Addr
  d__law_asked : FuncData
  F__law_asked : Fun K "_law_asked" "_law_asked" s__law_asked a__law_asked d__law_asked
  g__law_asked : mg "_law_asked" = some (.ref a__law_asked)
  a_law : Addr
  d_law : FuncData
  F_law : Fun K "law" "law" s_law a_law d_law
  g_law : mg "law" = some (.ref a_law)
  c_MOST_PARTS : ∃ u, mg "MOST_PARTS" = some u ∧ RelV (.int 3) u
  c_MOST_PROCEDURES : ∃ u, mg "MOST_PROCEDURES" = some u ∧ RelV (.int 3) u
  z_ValueError : mg "ValueError" = none
  z_all : mg "all" = none
  z_bool : mg "bool" = none
  z_int : mg "int" = none
  z_isinstance : mg "isinstance" = none
  z_len : mg "len" = none
  z_list : mg "list" = none
  z_range : mg "range" = none
  z_str : mg "str" = none
  z_tuple : mg "tuple" = none
  z_zip : mg "zip" = none
  a_WORDS : Addr
  c_WORDS : ∃ u, mg "WORDS" = some u ∧ RelV (.ref a_WORDS) u
  e_W : Array DictEntry
  n_W : Nat
  D_W : KDict K w a_WORDS e_W n_W
  W_ok : ∀ t ∈ tblW, WRow w K a_WORDS t.1 t.2.1 t.2.2.1 t.2.2.2
  W_no : ∀ s ∈ noWords, PySem.W.nsIn K a_WORDS s = some none
  a_HomeError : Addr
  c_HomeError : ∃ u, mg "HomeError" = some u ∧ RelV (.ref a_HomeError) u
  IX : IsX K C_NoEquation
  KH : PySem.W.kitOne K (.ref C_NoEquation) (.ref a_HomeError) = some true
  KV : PySem.W.kitOne K (.ref C_NoEquation) (.type "ValueError") = some true
theorem b_NoEquation___init__ {w : World} {K : PySem.W.Frag} {mg : Str → Option Value} (T : Top w K mg) : Binds K T.d_NoEquation___init__ ["self", "place"] [] := T.F_NoEquation___init__.binds (ps := ["self", "place"]) fun _ _ _ _ _ _ us hl => match us, hl with | [_, _], _ => rfl
theorem b_is_integer {w : World} {K : PySem.W.Frag} {mg : Str → Option Value} (T : Top w K mg) : Binds K T.d_is_integer ["thing"] [] := T.F_is_integer.binds (ps := ["thing"]) fun _ _ _ _ _ _ us hl => match us, hl with | [_], _ => rfl
theorem b_is_within {w : World} {K : PySem.W.Frag} {mg : Str → Option Value} (T : Top w K mg) : Binds K T.d_is_within ["thing", "bounds"] [] := T.F_is_within.binds (ps := ["thing", "bounds"]) fun _ _ _ _ _ _ us hl => match us, hl with | [_, _], _ => rfl
theorem b_is_bit {w : World} {K : PySem.W.Frag} {mg : Str → Option Value} (T : Top w K mg) : Binds K T.d_is_bit ["thing"] [] := T.F_is_bit.binds (ps := ["thing"]) fun _ _ _ _ _ _ us hl => match us, hl with | [_], _ => rfl
theorem b_is_index {w : World} {K : PySem.W.Frag} {mg : Str → Option Value} (T : Top w K mg) : Binds K T.d_is_index ["thing", "many"] [] := T.F_is_index.binds (ps := ["thing", "many"]) fun _ _ _ _ _ _ us hl => match us, hl with | [_, _], _ => rfl
theorem b_is_key {w : World} {K : PySem.W.Frag} {mg : Str → Option Value} (T : Top w K mg) : Binds K T.d_is_key ["thing", "procedures"] [] := T.F_is_key.binds (ps := ["thing", "procedures"]) fun _ _ _ _ _ _ us hl => match us, hl with | [_, _], _ => rfl
theorem b_are_keys {w : World} {K : PySem.W.Frag} {mg : Str → Option Value} (T : Top w K mg) : Binds K T.d_are_keys ["thing", "procedures", "least", "most"] [] := T.F_are_keys.binds (ps := ["thing", "procedures", "least", "most"]) fun _ _ _ _ _ _ us hl => match us, hl with | [_, _, _, _], _ => rfl
theorem b_are_parts {w : World} {K : PySem.W.Frag} {mg : Str → Option Value} (T : Top w K mg) : Binds K T.d_are_parts ["thing"] [] := T.F_are_parts.binds (ps := ["thing"]) fun _ _ _ _ _ _ us hl => match us, hl with | [_], _ => rfl
theorem bd_named {w : World} {K : PySem.W.Frag} {mg : Str → Option Value} (T : Top w K mg) : ∃ ds, Vals [.non] ds ∧ Binds K T.d_named ["word", "variables", "parts"] ds := T.FD_named.binds0 (ps := ["word", "variables", "parts"]) 2 (by decide) rfl fun _ _ _ _ _ _ us ks hl hk => match us, ks, hl, hk with | [_, _], [_], _, _ => ⟨_, _, _, _, _, _, rfl, rfl, rfl⟩
theorem bk_named {w : World} {K : PySem.W.Frag} {mg : Str → Option Value} (T : Top w K mg) : KBn K T.d_named ["word", "variables", "parts"] 2 ["parts"] (fun us ws => us ++ ws) (fun us ws => us ++ ws) := kb_all T.F_named fun _ _ _ _ _ _ us ws hl hk => match us, ws, hl, hk with | [_, _], [_], _, _ => rfl
theorem b__law_pool {w : World} {K : PySem.W.Frag} {mg : Str → Option Value} (T : Top w K mg) : Binds K T.d__law_pool ["_law_script"] [] := T.F__law_pool.binds (ps := ["_law_script"]) fun _ _ _ _ _ _ us hl => match us, hl with | [_], _ => rfl
theorem b__law_draw {w : World} {K : PySem.W.Frag} {mg : Str → Option Value} (T : Top w K mg) : Binds K T.d__law_draw ["_law_pool_here", "_law_many"] [] := T.F__law_draw.binds (ps := ["_law_pool_here", "_law_many"]) fun _ _ _ _ _ _ us hl => match us, hl with | [_, _], _ => rfl
theorem b__law_copied {w : World} {K : PySem.W.Frag} {mg : Str → Option Value} (T : Top w K mg) : Binds K T.d__law_copied ["_law_value"] [] := T.F__law_copied.binds (ps := ["_law_value"]) fun _ _ _ _ _ _ us hl => match us, hl with | [_], _ => rfl
theorem b__law_same {w : World} {K : PySem.W.Frag} {mg : Str → Option Value} (T : Top w K mg) : Binds K T.d__law_same ["_law_one", "_law_other"] [] := T.F__law_same.binds (ps := ["_law_one", "_law_other"]) fun _ _ _ _ _ _ us hl => match us, hl with | [_, _], _ => rfl
theorem b__law_words {w : World} {K : PySem.W.Frag} {mg : Str → Option Value} (T : Top w K mg) : Binds K T.d__law_words [] [] := T.F__law_words.binds (ps := []) fun _ _ _ _ _ _ us hl => match us, hl with | [], _ => rfl
theorem b__law_integer {w : World} {K : PySem.W.Frag} {mg : Str → Option Value} (T : Top w K mg) : Binds K T.d__law_integer ["_law_thing", "_law_low", "_law_high"] [] := T.F__law_integer.binds (ps := ["_law_thing", "_law_low", "_law_high"]) fun _ _ _ _ _ _ us hl => match us, hl with | [_, _, _], _ => rfl
theorem b__law_variable {w : World} {K : PySem.W.Frag} {mg : Str → Option Value} (T : Top w K mg) : Binds K T.d__law_variable ["_law_thing"] [] := T.F__law_variable.binds (ps := ["_law_thing"]) fun _ _ _ _ _ _ us hl => match us, hl with | [_], _ => rfl
theorem b__law_row {w : World} {K : PySem.W.Frag} {mg : Str → Option Value} (T : Top w K mg) : Binds K T.d__law_row ["_law_thing"] [] := T.F__law_row.binds (ps := ["_law_thing"]) fun _ _ _ _ _ _ us hl => match us, hl with | [_], _ => rfl
theorem b__law_due {w : World} {K : PySem.W.Frag} {mg : Str → Option Value} (T : Top w K mg) : Binds K T.d__law_due ["_law_word_here", "_law_variables_here", "_law_row_here"] [] := T.F__law_due.binds (ps := ["_law_word_here", "_law_variables_here", "_law_row_here"]) fun _ _ _ _ _ _ us hl => match us, hl with | [_, _, _], _ => rfl
theorem b__law_number {w : World} {K : PySem.W.Frag} {mg : Str → Option Value} (T : Top w K mg) : Binds K T.d__law_number ["_law_pool_here", "_law_low", "_law_high", "_law_odd"] [] := T.F__law_number.binds (ps := ["_law_pool_here", "_law_low", "_law_high", "_law_odd"]) fun _ _ _ _ _ _ us hl => match us, hl with | [_, _, _, _], _ => rfl
theorem b__law_word {w : World} {K : PySem.W.Frag} {mg : Str → Option Value} (T : Top w K mg) : Binds K T.d__law_word ["_law_pool_here"] [] := T.F__law_word.binds (ps := ["_law_pool_here"]) fun _ _ _ _ _ _ us hl => match us, hl with | [_], _ => rfl
theorem b__law_variables {w : World} {K : PySem.W.Frag} {mg : Str → Option Value} (T : Top w K mg) : Binds K T.d__law_variables ["_law_pool_here", "_law_word_here"] [] := T.F__law_variables.binds (ps := ["_law_pool_here", "_law_word_here"]) fun _ _ _ _ _ _ us hl => match us, hl with | [_, _], _ => rfl
theorem b__law_chosen {w : World} {K : PySem.W.Frag} {mg : Str → Option Value} (T : Top w K mg) : Binds K T.d__law_chosen ["_law_pool_here"] [] := T.F__law_chosen.binds (ps := ["_law_pool_here"]) fun _ _ _ _ _ _ us hl => match us, hl with | [_], _ => rfl
theorem b__law_asked {w : World} {K : PySem.W.Frag} {mg : Str → Option Value} (T : Top w K mg) : Binds K T.d__law_asked ["_law_word_here", "_law_variables_here", "_law_row_here", "_law_plain"] [] := T.F__law_asked.binds (ps := ["_law_word_here", "_law_variables_here", "_law_row_here", "_law_plain"]) fun _ _ _ _ _ _ us hl => match us, hl with | [_, _, _, _], _ => rfl
theorem b_law {w : World} {K : PySem.W.Frag} {mg : Str → Option Value} (T : Top w K mg) : Binds K T.d_law ["_law_script"] [] := T.F_law.binds (ps := ["_law_script"]) fun _ _ _ _ _ _ us hl => match us, hl with | [_], _ => rfl
def sp__law_pool (K : PySem.W.Frag) : Sp := fun vs H Q _ => ∃ (a : Addr) (ns : List Int), vs = [.ref a] ∧ SqL K H a (ns.map V.int) ∧ ns.length ≤ 63 ∧
  ∀ (H' : Hp) (p : Addr) (L : Nat), Same H H' → H p = none → Pool H' p L → 2 ≤ L → L ≤ 64 → Q (.ref p) H'
theorem cut63 {ns : List Int} (h : ns.length ≤ 63) : cutV (ns.map V.int) none (some 63) = ns.map V.int := by
  unfold cutV
  rw [HT.sIx_none, show HT.sIx (ns.map V.int).length (ns.map V.int).length (some 63) = min 63 (ns.map V.int).length from HT.sIx_nat _ _ 63, List.drop_zero, Nat.sub_zero]
  refine List.take_of_length_le ?_
  rw [List.length_map]
  omega
theorem ok__law_pool (T : Top w K mg) : FnOk P w K mg base CX0 1 T.a__law_pool T.d__law_pool ["_law_script"] (sp__law_pool K) := by
  refine T.F__law_pool.ok sc__law_pool (fun vs H Q E h => ?_) (fun cdv A outer s H vs Q E hr h => ?_)
  · obtain ⟨a, ns, rfl, _⟩ := h
    rfl
  · obtain ⟨a, ns, rfl, hS, hlen, q⟩ := h
    refine ⟨_, (pss_one (ps_ret (pe_op op_cat (pe_lst (pa_cons pe_int pa_nil)) (pe_orT (pe_lc (own := [("_law_cell", 1)]) (g := (gName 1)) (tt := tYes) rfl sc__law_pool.nd (k_piL K (pe_slice (k_slL K) (pv 0) po_none (po_some pe_int))) (blkOk_by (N := N__law_pool) (sc := defScope s__law_pool) (by decide +kernel)) (fun _ _ _ _ _ => (pg_name (i := 1) sc__law_pool.nd rfl (Or.inl rfl))) (fun _ _ _ _ _ => pts_nil) (fun _ _ _ _ _ => (pe_callTy call_intI (by rfl) T.z_int bt_int (pa_cons (pv 1) pa_nil)))) (pe_one (pe_lst (pa_cons pe_int pa_nil))))))), ?_⟩
    refine ⟨small100 (n := 1) (by decide), fun l0 n0 => ?_⟩
    have s1 : Same H (upd H l0 (.lst [.int 0])) := same_upd n0
    refine ⟨_, rfl, 63, rfl, a, _, rfl, s1.seq hS, fun c nc => ?_⟩
    rw [cut63 hlen]
    have s2 := s1.trans (same_upd (o := .lst (ns.map V.int)) nc)
    have hl0 : (upd (upd H l0 (.lst [.int 0])) c (.lst (ns.map V.int))) l0 = some (.lst [.int 0]) := by
      rw [upd_ne (ne_of_none upd_same nc), upd_same]
    refine ⟨c, rfl, ⟨_, SqL.of upd_same⟩, fun D nD => ?_⟩
    refine lc_list (xs := ns.map V.int) (fun i H' => Same (upd (upd H l0 (.lst [.int 0])) c (.lst (ns.map V.int))) H' ∧ H' D = some (.lst ((ns.take i).map V.int))) ⟨same_upd nD, ?_⟩ (fun i H' _ h => h.1.seq (SqL.of upd_same)) (fun i x H' hx h => ?_) (fun H' h => ?_)
    · rw [upd_same]
      rfl
    · obtain ⟨hs, hD⟩ := h
      rw [List.getElem?_map] at hx
      cases e : ns[i]? with
      | none =>
        rw [e] at hx
        cases hx
      | some n =>
        rw [e] at hx
        cases hx
        refine ⟨rfl, _, rfl, n, rfl, _, hD, ?_, same_new hs nD, ?_⟩
        · rw [List.length_map, List.length_take]
          exact small1000 (by omega)
        · rw [upd_same, List.take_add_one, e, List.map_append]
          rfl
    · obtain ⟨hs, hD⟩ := h
      rw [len_map, List.take_length] at hD
      have hl0' := hs _ _ hl0
      have hD0 : H D = none := s2.free nD
      refine ⟨!(ns.map V.int).isEmpty, .inl ⟨_, SqL.of hD, rfl⟩, ?_⟩
      have hne : D ≠ l0 := (ne_of_none hl0 nD).symm
      cases ns with
      | nil =>
        refine ⟨small100 (n := 1) (by decide), fun l2 n2 => ?_⟩
        have hl2 : (upd H' l2 (.lst [.int 0])) l0 = some (.lst [.int 0]) := by
          rw [upd_ne (ne_of_none hl0' n2)]
          exact hl0'
        refine ⟨l0, l2, _, _, rfl, rfl, hl2, upd_same, small100 (n := 2) (by decide), fun p np => ?_⟩
        have s3 := same_new (s2.trans hs) (o := .lst [.int 0]) ((s2.trans hs).free n2)
        exact q _ p 2 (same_new s3 (s3.free np)) (s3.free np) ⟨[0, 0], upd_same, rfl⟩ (by decide) (by decide)
      | cons n r =>
        refine ⟨l0, D, _, _, rfl, rfl, hl0', hD, ?_, fun p np => ?_⟩
        · show 1 + ((n :: r).map V.int).length ≤ sizeLine
          rw [len_map]
          exact small100 (by omega)
        · have s3 := s2.trans hs
          refine q _ p (1 + (n :: r).length) (same_new s3 (s3.free np)) (s3.free np) ⟨0 :: n :: r, upd_same, ?_⟩ ?_ ?_
          · rw [List.length_cons]
            omega
          · rw [List.length_cons]
            omega
          · omega
def sp__law_draw (K : PySem.W.Frag) : Sp := fun vs H Q _ => ∃ (p : Addr) (L : Nat) (m : Int), vs = [.ref p, .int m] ∧ Pool H p L ∧ 2 ≤ L ∧ L ≤ 64 ∧ 0 < m ∧ m ≤ 1000 ∧
  ∀ (r : Int) (H' : Hp), 0 ≤ r → r < m → Kp p H H' → Pool H' p L → Q (.int r) H'
theorem ok__law_draw (T : Top w K mg) : FnOk P w K mg base CX0 1 T.a__law_draw T.d__law_draw ["_law_pool_here", "_law_many"] (sp__law_draw K) := by
  refine T.F__law_draw.ok sc__law_draw (fun vs H Q E h => ?_) (fun cdv A outer s H vs Q E hr h => ?_)
  · obtain ⟨p, L, m, rfl, _⟩ := h
    rfl
  · obtain ⟨p, L, m, rfl, ⟨ns, hp, hL⟩, h2, h64, hm0, hm1, q⟩ := h
    refine ⟨_, (pss_cons (ps_augS (pv 0) pe_int (k_getL K) pe_int ip_add set_list)
      (pss_cons (ps_set (i := 2) sc__law_draw.nd rfl (Or.inl rfl) (pe_op op_add pe_int (pe_op op_mod (pe_callTy call_intI (by rfl) T.z_int bt_int (pa_cons (pe_ix (k_ixL K) (pv 0) pe_int (fun _ _ => rfl)) pa_nil)) (pe_op op_sub (pe_callB (k_len K) (by rfl) T.z_len bt_len (pa_cons (pv 0) pa_nil)) pe_int))))
      (pss_cons (ps_set (i := 3) sc__law_draw.nd rfl (Or.inl rfl) (pe_callTy call_intI (by rfl) T.z_int bt_int (pa_cons (pe_ix (k_ixL K) (pv 0) (pv 2) (fun _ _ => rfl)) pa_nil)))
      (pss_cons (ps_if (pt_cmpR op_ge (pv 3) (pe_op op_pow pe_int pe_int) (nomark _)) (pss_cons (ps_asg (pe_op op_fdiv (pv 3) (pv 1)) (pg_sub (pv 0) (pv 2) set_list))
        (pss_one (ps_ret (pe_op op_mod (pv 3) (pv 1))))) pss_nil)
      (pss_cons (ps_set (i := 4) sc__law_draw.nd rfl (Or.inl rfl) (pe_op op_mod (pe_op op_mul (pe_callTy call_intI (by rfl) T.z_int bt_int (pa_cons (pe_op op_add (pe_op op_add (pv 3) (pe_op op_mul pe_int (pe_ix (k_ixL K) (pv 0) pe_int (fun _ _ => rfl)))) pe_int) pa_nil)) pe_int) pe_int))
      (pss_cons (ps_set (i := 4) sc__law_draw.nd rfl (Or.inl rfl) (pe_op op_mod (pe_op op_mul (pv 4) (pe_op op_add (pe_op op_fdiv (pv 4) pe_int) pe_int)) pe_int))
      (pss_cons (ps_set (i := 4) sc__law_draw.nd rfl (Or.inl rfl) (pe_op op_mod (pe_op op_mul (pv 4) (pe_op op_add (pe_op op_fdiv (pv 4) pe_int) pe_int)) pe_int))
      (pss_one (ps_ret (pe_op op_mod (pe_op op_fdiv (pv 4) pe_int) (pv 1))))))))))), ?_⟩
    obtain ⟨c0, g0, _⟩ := at_map (ns := ns) (i := 0) (by decide) (by omega)
    refine ⟨_, rfl, p, ns.map V.int, 0, .int c0, rfl, rfl, by decide, SqL.of hp, get_map g0, c0, 1, rfl, rfl, p, _, 0, 0, rfl, rfl, hp, ixN_in (by decide) (by rw [len_map]; omega), ?_⟩
    rw [set_map]
    generalize e1 : ns.set 0 (c0 + 1) = ms
    have hms : ms.length = L := by
      rw [← e1, List.length_set]
      exact hL
    clear e1
    have k1 : Kp p H (upd H p (.lst (ms.map V.int))) := Kp.upd
    have hp1 : (upd H p (.lst (ms.map V.int))) p = some (.lst (ms.map V.int)) := upd_same
    generalize upd H p (.lst (ms.map V.int)) = H1 at *
    obtain ⟨c1, _, g1⟩ := at_map (ns := ms) (i := 0) (by decide) (by omega)
    have hL1 : (0 : Int) < ((ms.map V.int).length : Int) - 1 := by
      rw [len_map]
      omega
    refine ⟨_, rfl, p, _, 0, _, rfl, rfl, SqL.of hp1, g1, c1, rfl, _, rfl, p, _, rfl, .inl (SqL.of hp1), _, _, rfl, rfl, _, _, rfl, rfl, hL1, _, _, rfl, rfl, ?_⟩
    have b0 : 0 ≤ 1 + c1 % (((ms.map V.int).length : Int) - 1) := by
      have := Int.emod_nonneg c1 (Int.ne_of_gt hL1)
      omega
    have b1 : 1 + c1 % (((ms.map V.int).length : Int) - 1) < ms.length := by
      have := Int.emod_lt_of_pos c1 hL1
      rw [len_map] at this ⊢
      omega
    dsimp only
    generalize 1 + c1 % (((ms.map V.int).length : Int) - 1) = j at *
    obtain ⟨c2, _, g2⟩ := at_map (ns := ms) (i := j) b0 b1
    refine ⟨_, rfl, _, rfl, p, _, j, _, rfl, rfl, SqL.of hp1, g2, c2, rfl, ?_⟩
    refine ⟨_, rfl, 10, 18, rfl, rfl, ⟨by decide, by decide, by decide⟩, _, _, rfl, rfl, _, rfl, ite2 (fun _ => ?_) (fun _ => ?_)⟩
    · refine ⟨_, rfl, _, rfl, _, _, rfl, rfl, ⟨hm0, by omega⟩, _, rfl, _, rfl, p, _, j, j.toNat, rfl, rfl, hp1, ixN_in b0 (by rw [len_map]; exact b1), ?_⟩
      rw [set_map]
      refine ⟨_, rfl, _, rfl, _, _, rfl, rfl, hm0, ?_⟩
      exact q _ _ (Int.emod_nonneg _ (Int.ne_of_gt hm0)) (Int.emod_lt_of_pos _ hm0) (k1.trans Kp.upd) ⟨_, upd_same, by rw [List.length_set]; exact hms⟩
    · obtain ⟨c3, _, g3⟩ := at_map (ns := ms) (i := 0) (by decide) (by omega)
      refine ⟨_, rfl, _, rfl, p, _, 0, _, rfl, rfl, SqL.of hp1, g3, _, c3, rfl, rfl, .inl ⟨by decide, by decide⟩, _, _, rfl, rfl, _, _, rfl, rfl, _, rfl, _, _, rfl, rfl, .inr ⟨by decide, by decide⟩, _, _, rfl, rfl, (show (0 : Int) < 2147483647 by decide), ?_⟩
      dsimp only
      generalize ez : (c2 + 7919 * c3 + 1) * 48271 % 2147483647 = z
      have z0 : 0 ≤ z := by rw [← ez]; exact Int.emod_nonneg _ (by decide)
      have z1 : z < 2147483647 := by rw [← ez]; exact Int.emod_lt_of_pos _ (by decide)
      refine ⟨_, rfl, _, rfl, _, _, rfl, rfl, ⟨by decide, by decide⟩, _, _, rfl, rfl, _, _, rfl, rfl, .inl ⟨by omega, by omega⟩, _, _, rfl, rfl, (show (0 : Int) < 2147483647 by decide), ?_⟩
      dsimp only
      generalize ey : z * (z / 1009 + 69621) % 2147483647 = y
      have y0 : 0 ≤ y := by rw [← ey]; exact Int.emod_nonneg _ (by decide)
      have y1 : y < 2147483647 := by rw [← ey]; exact Int.emod_lt_of_pos _ (by decide)
      refine ⟨_, rfl, _, rfl, _, _, rfl, rfl, ⟨by decide, by decide⟩, _, _, rfl, rfl, _, _, rfl, rfl, .inl ⟨by omega, by omega⟩, _, _, rfl, rfl, (show (0 : Int) < 2147483399 by decide), ?_⟩
      refine ⟨_, rfl, _, _, rfl, rfl, ⟨by decide, by decide⟩, _, rfl, _, _, rfl, rfl, hm0, ?_⟩
      exact q _ _ (Int.emod_nonneg _ (Int.ne_of_gt hm0)) (Int.emod_lt_of_pos _ hm0) k1 ⟨_, hp1, hms⟩

--SPLIT
def F_is_integer : FD := fun ds Q => ∃ d, ds = [d] ∧ Q (.bool (isI d))
theorem FM_is_integer : FMono F_is_integer := ⟨fun m ⟨d, e, q⟩ => ⟨d, e, m _ q⟩⟩
theorem ok_is_integer (T : Top w K mg) : FnOk P w K mg base CX0 1 T.a_is_integer T.d_is_integer ["thing"] (spF F_is_integer) := by
  refine fnF FM_is_integer T.F_is_integer sc_is_integer (fun ds Q ⟨d, e, _⟩ => by rw [e]; rfl) (fun c cdv A outer s H E hr => (pdss_one (pds_ret (pd_and (pd_isi (ki_int K) (fun h => pe_callB (k_isi K) (by rfl) T.z_isinstance bt_isinstance (pa_cons h (pa_cons (pe_bltn (v := .ty "int") (by rfl) T.z_int bt_int rfl) pa_nil))) (pd_name (pv 0))) (pd_one (pd_not (pd_isi (ki_bool K) (fun h => pe_callB (k_isi K) (by rfl) T.z_isinstance bt_isinstance (pa_cons h (pa_cons (pe_bltn (v := .ty "bool") (by rfl) T.z_bool bt_bool rfl) pa_nil))) (pd_name (pv 0))))))))) (fun ds Q ⟨d, e, q⟩ => ?_)
  subst e
  refine ⟨_, rfl, d, rfl, _, rfl, ?_⟩
  cases d <;> first | exact ⟨_, q⟩ | exact ⟨_, rfl, q⟩ | exact ⟨_, rfl, _, rfl, _, rfl, _, rfl, q⟩
def F_is_within : FD := fun ds Q => ∃ d lo hi, ds = [d, .tuple [.int lo, .int hi]] ∧ Q (.bool (inD d (lo, hi)))
theorem FM_is_within : FMono F_is_within := ⟨fun m ⟨d, lo, hi, e, q⟩ => ⟨d, lo, hi, e, m _ q⟩⟩
theorem ok_is_within (T : Top w K mg) : FnOk P w K mg base CX0 2 T.a_is_within T.d_is_within ["thing", "bounds"] (spF F_is_within) := by
  refine fnF FM_is_within T.F_is_within sc_is_within (fun ds Q ⟨d, lo, hi, e, _⟩ => by rw [e]; rfl) (fun c cdv A outer s H E hr => (pdss_cons (pds_asg (vs := [2, 3]) (fun h g => ps_asg h g) (pd_name (pv 1)) (pdg_tup (K := K) (n := 2) (fun h => pg_tup rfl h) (pdgs_cons (fun h1 h2 => pgs_cons h1 h2) (pdg_name (pg_name (i := 2) sc_is_within.nd rfl (Or.inl rfl)) (by decide)) (pdgs_cons (fun h1 h2 => pgs_cons h1 h2) (pdg_name (pg_name (i := 3) sc_is_within.nd rfl (Or.inl rfl)) (by decide)) pdgs_nil))))
      (pdss_one (pds_ret (pd_and (pd_callF FM_is_integer (fun h => pe_call (ok_is_integer T) hr (by rfl) T.g_is_integer T.F_is_integer.kp (b_is_integer T) .nil pass0 h) (pda_cons (pd_name (pv 0)) pda_nil)) (pd_one (pd_chain (fun ha hb hc => pe_chain op_le op_le ha hb hc) (pd_name (pv 2)) (pd_name (pv 0)) (pd_name (pv 3))))))))) (fun ds Q ⟨d, lo, hi, e, q⟩ => ?_)
  subst e
  refine ⟨_, rfl, _, rfl, _, rfl, rfl, _, _, rfl, _, _, rfl, rfl, ?_⟩
  refine ⟨_, rfl, [d], rfl, d, rfl, _, rfl, ?_⟩
  cases d with
  | int z =>
    refine ⟨_, rfl, _, rfl, lo, z, rfl, rfl, ?_⟩
    by_cases h : lo ≤ z
    · refine iteP h ⟨_, rfl, hi, rfl, _, rfl, ?_⟩
      simpa [inD, h] using q
    · refine iteN h ⟨_, rfl, ?_⟩
      simpa [inD, h] using q
  | _ => exact ⟨_, rfl, q⟩
def F_is_bit : FD := fun ds Q => ∃ d, ds = [d] ∧ Q (.bool (inD d (0, 1)))
theorem FM_is_bit : FMono F_is_bit := ⟨fun m ⟨d, e, q⟩ => ⟨d, e, m _ q⟩⟩
theorem ok_is_bit (T : Top w K mg) : FnOk P w K mg base CX0 3 T.a_is_bit T.d_is_bit ["thing"] (spF F_is_bit) := by
  refine fnF FM_is_bit T.F_is_bit sc_is_bit (fun ds Q ⟨d, e, _⟩ => by rw [e]; rfl) (fun c cdv A outer s H E hr => (pdss_one (pds_ret (pd_callF FM_is_within (fun h => pe_call (ok_is_within T) hr (by rfl) T.g_is_within T.F_is_within.kp (b_is_within T) .nil pass0 h) (pda_cons (pd_name (pv 0)) (pda_cons (pd_tup (pda_cons pd_int (pda_cons pd_int pda_nil))) pda_nil)))))) (fun ds Q ⟨d, e, q⟩ => ?_)
  subst e
  exact ⟨_, rfl, [.int 0, .int 1], rfl, by decide, [d, .tuple [.int 0, .int 1]], rfl, d, 0, 1, rfl, _, rfl, q⟩
def F_is_index : FD := fun ds Q => ∃ d m, ds = [d, .int m] ∧ Q (.bool (inD d (0, m - 1)))
theorem FM_is_index : FMono F_is_index := ⟨fun m ⟨d, n, e, q⟩ => ⟨d, n, e, m _ q⟩⟩
theorem ok_is_index (T : Top w K mg) : FnOk P w K mg base CX0 3 T.a_is_index T.d_is_index ["thing", "many"] (spF F_is_index) := by
  refine fnF FM_is_index T.F_is_index sc_is_index (fun ds Q ⟨d, m, e, _⟩ => by rw [e]; rfl) (fun c cdv A outer s H E hr => (pdss_one (pds_ret (pd_callF FM_is_within (fun h => pe_call (ok_is_within T) hr (by rfl) T.g_is_within T.F_is_within.kp (b_is_within T) .nil pass0 h) (pda_cons (pd_name (pv 0)) (pda_cons (pd_tup (pda_cons pd_int (pda_cons (pd_op (fun ha hb => pe_op op_sub ha hb) dk_i0 (pd_name (pv 1)) pd_int) pda_nil))) pda_nil)))))) (fun ds Q ⟨d, m, e, q⟩ => ?_)
  subst e
  exact ⟨_, rfl, _, rfl, m, 1, rfl, rfl, [.int 0, .int (m - 1)], rfl, (show 2 ≤ 1000 by decide), [d, .tuple [.int 0, .int (m - 1)]], rfl, d, 0, m - 1, rfl, _, rfl, q⟩
def keyD (d : PyData) (n : Int) : Bool := match d with
  | .tuple [a, b] => inD a (0, n - 1) && inD b (0, 1)
  | _ => false
def F_is_key : FD := fun ds Q => ∃ d n, ds = [d, .int n] ∧ Q (.bool (keyD d n))
theorem FM_is_key : FMono F_is_key := ⟨fun m ⟨d, n, e, q⟩ => ⟨d, n, e, m _ q⟩⟩
theorem keyD_no {ds : List PyData} (h : ds.length ≠ 2) (n : Int) : keyD (.tuple ds) n = false := by
  match ds, h with
  | [], _ => rfl
  | [_], _ => rfl
  | [_, _], h => exact absurd rfl h
  | _ :: _ :: _ :: _, _ => rfl
theorem ok_is_key (T : Top w K mg) : FnOk P w K mg base CX0 4 T.a_is_key T.d_is_key ["thing", "procedures"] (spF F_is_key) := by
  refine fnF FM_is_key T.F_is_key sc_is_key (fun ds Q ⟨d, m, e, _⟩ => by rw [e]; rfl) (fun c cdv A outer s H E hr => (pdss_one (pds_ret (pd_and (pd_isi (ki_tuple K) (fun h => pe_callB (k_isi K) (by rfl) T.z_isinstance bt_isinstance (pa_cons h (pa_cons (pe_bltn (v := .ty "tuple") (by rfl) T.z_tuple bt_tuple rfl) pa_nil))) (pd_name (pv 0))) (pd_and (pd_op (fun ha hb => pe_cmpR (k_eqD K (hu64 hr)) ha hb (nomark _)) dk_eq (pd_cl (fun h => pe_callB (k_len K) (by rfl) T.z_len bt_len h) dk_len (pda_cons (pd_name (pv 0)) pda_nil)) pd_int) (pd_and (pd_callF FM_is_index (fun h => pe_call (ok_is_index T) hr (by rfl) T.g_is_index T.F_is_index.kp (b_is_index T) .nil pass0 h) (pda_cons (pd_op (fun ha hb => pe_ix (k_ixQ K) ha hb (fun _ _ => rfl)) dk_ix (pd_name (pv 0)) pd_int) (pda_cons (pd_name (pv 1)) pda_nil))) (pd_one (pd_callF FM_is_bit (fun h => pe_call (ok_is_bit T) hr (by rfl) T.g_is_bit T.F_is_bit.kp (b_is_bit T) .nil pass0 h) (pda_cons (pd_op (fun ha hb => pe_ix (k_ixQ K) ha hb (fun _ _ => rfl)) dk_ix (pd_name (pv 0)) pd_int) pda_nil))))))))) (fun ds Q ⟨d, n, e, q⟩ => ?_)
  subst e
  refine ⟨_, rfl, d, rfl, _, rfl, ?_⟩
  cases d with
  | tuple ts =>
    refine ⟨_, rfl, _, ts, rfl, rfl, _, _, rfl, rfl, shI _, shI _, _, rfl, ?_⟩
    rw [eqvI]
    by_cases h : ts.length = 2
    · match ts, h with
      | [a, b], _ =>
        refine iteP rfl ⟨_, rfl, [a, b], 0, a, rfl, rfl, rfl, _, rfl, [a, .int n], rfl, a, n, rfl, _, rfl, ?_⟩
        refine ifB (fun h => ?_) (fun h => ?_)
        · refine ⟨_, rfl, [a, b], 1, b, rfl, rfl, rfl, [b], rfl, b, rfl, _, rfl, ?_⟩
          simpa [keyD, h] using q
        · refine ⟨_, rfl, ?_⟩
          simpa [keyD, h] using q
    · rw [keyD_no h] at q
      refine iteN (by omega) ⟨_, rfl, q⟩
  | _ => exact ⟨_, rfl, q⟩
def keysD (d : PyData) (n a b : Int) : Bool := match d with
  | .list ds => decide (a ≤ ds.length) && decide ((ds.length : Int) ≤ b) && ds.all fun x => keyD x n
  | _ => false
def F_are_keys : FD := fun ds Q => ∃ d n a b, ds = [d, .int n, .int a, .int b] ∧ b ≤ 1000 ∧ Q (.bool (keysD d n a b))
theorem FM_are_keys : FMono F_are_keys := ⟨fun m ⟨d, n, a, b, e, l, q⟩ => ⟨d, n, a, b, e, l, m _ q⟩⟩
theorem all_map {ds : List PyData} {f : PyData → Bool} : ds.map (fun x => PyData.bool (f x)) = (ds.map f).map PyData.bool := by rw [List.map_map]; rfl
theorem ok_are_keys (T : Top w K mg) : FnOk P w K mg base CX0 5 T.a_are_keys T.d_are_keys ["thing", "procedures", "least", "most"] (spF F_are_keys) := by
  refine fnF FM_are_keys T.F_are_keys sc_are_keys (fun ds Q ⟨d, n, a, b, e, _⟩ => by rw [e]; rfl) (fun c cdv A outer s H E hr => (pdss_cons (pds_if (pdw_t (pdw_or (pdt_not (pdt_val (fun h => pt_val h) (pd_isi (ki_list K) (fun h => pe_callB (k_isi K) (by rfl) T.z_isinstance bt_isinstance (pa_cons h (pa_cons (pe_bltn (v := .ty "list") (by rfl) T.z_list bt_list rfl) pa_nil))) (pd_name (pv 0))))) (pdw_or1 (pdt_not (pdt_chain (fun ha hb hc => pt_chain op_le op_le ha hb hc) (pd_name (pv 2)) (pd_cl (fun h => pe_callB (k_len K) (by rfl) T.z_len bt_len h) dk_len (pda_cons (pd_name (pv 0)) pda_nil)) (pd_name (pv 3))))))) (pdss_one (pds_ret pd_bl)) pdss_nil)
      (pdss_one (pds_ret (pd_cl (fun h => pe_callB (k_all K) (by rfl) T.z_all bt_all h) dk_all (pda_cons (pdn (pn_lc (vs := [4]) (fun hi hg ht he => pe_lc (own := [("item", 4)]) rfl sc_are_keys.nd hi (blkOk_by (N := N_are_keys) (sc := defScope s_are_keys) (by decide +kernel)) hg ht he) (pdi_list (K := K) (fun h => k_piL K h) (pd_name (pv 0))) (fun _ _ _ _ _ => (pdg_name (pg_name (i := 4) sc_are_keys.nd rfl (Or.inl rfl)) (by decide))) (fun _ _ _ _ _ => pdts_nil) (fun _ _ _ _ _ => (pd_callF FM_is_key (fun h => pe_call (ok_is_key T) hr (by rfl) T.g_is_key T.F_is_key.kp (b_is_key T) .nil pass0 h) (pda_cons (pd_name (pv 4)) (pda_cons (pd_name (pv 1)) pda_nil)))))) pda_nil)))))) (fun ds Q ⟨d, n, a, b, e, hb, q⟩ => ?_)
  subst e
  refine ⟨_, rfl, d, rfl, _, rfl, ?_⟩
  cases d with
  | list ds =>
    refine ⟨_, rfl, _, rfl, _, ds, rfl, rfl, a, ds.length, rfl, rfl, ?_⟩
    have no : ¬ (a ≤ ds.length ∧ (ds.length : Int) ≤ b) → retD Q (.d (.bool false)) := fun h => by
      refine ⟨_, rfl, ?_⟩
      have e : keysD (.list ds) n a b = false := by
        unfold keysD
        dsimp only
        rw [← Bool.decide_and, decide_eq_false h]
        rfl
      rw [e] at q
      exact q
    by_cases h1 : a ≤ ds.length
    · refine iteP h1 ⟨_, rfl, b, rfl, _, rfl, ?_⟩
      by_cases h2 : (ds.length : Int) ≤ b
      · refine iteNS h2 ⟨_, rfl, ds, rfl, lc_map (fun x => .bool (keyD x n)) (by omega) (fun x hx P hp => ?_) ?_ mgN⟩
        · exact ⟨_, rfl, _, rfl, [x, .int n], rfl, x, n, rfl, hp⟩
        rw [all_map]
        refine ⟨_, _, rfl, rfl, _, rfl, ?_⟩
        have e : keysD (.list ds) n a b = (ds.map fun x => keyD x n).all id := by
          unfold keysD
          dsimp only
          rw [decide_eq_true h1, decide_eq_true h2, List.all_map]
          rfl
        rw [← e]
        exact q
      · exact iteNN h2 (no fun h => h2 h.2)
    · exact iteN h1 ⟨_, rfl, no fun h => h1 h.1⟩
  | _ => exact ⟨_, rfl, q⟩
def ltI : PyData → PyData → Bool
  | .int a, .int b => decide (a < b)
  | _, _ => false
def ascD : List PyData → Bool
  | a :: b :: r => ltI a b && ascD (b :: r)
  | _ => true
def rowD : PyData → Bool
  | .list ds => !ds.isEmpty && ((ds.all fun x => inD x (0, 2)) && ascD ds)
  | _ => false
def ltP : PyData → Bool
  | .tuple [a, b] => ltI a b
  | _ => false
theorem inD_int {d : PyData} {l : Int × Int} (h : inD d l = true) : ∃ z, d = .int z ∧ l.1 ≤ z ∧ z ≤ l.2 := by
  cases d with
  | int z => exact ⟨z, rfl, by simpa [inD] using h⟩
  | _ => cases h
theorem asc_len {ds : List PyData} (h : (ds.all fun x => inD x (0, 2)) = true) (h2 : ascD ds = true) : ds.length ≤ 3 := by
  match ds, h, h2 with
  | [], _, _ => simp
  | [_], _, _ => simp
  | [_, _], _, _ => simp
  | [_, _, _], _, _ => simp
  | a :: b :: c :: d :: r, h, h2 =>
    simp only [List.all_cons, Bool.and_eq_true] at h
    obtain ⟨ha, hb, hc, hd, _⟩ := h
    obtain ⟨a, rfl, a0, a1⟩ := inD_int ha
    obtain ⟨b, rfl, b0, b1⟩ := inD_int hb
    obtain ⟨c, rfl, c0, c1⟩ := inD_int hc
    obtain ⟨d, rfl, d0, d1⟩ := inD_int hd
    simp only [ascD, ltI, Bool.and_eq_true, decide_eq_true_eq] at h2
    omega
theorem asc_zip : ∀ ds : List PyData, ((zipD ds (ds.drop 1)).map ltP).all id = ascD ds
  | [] => rfl
  | [a] => rfl
  | a :: b :: r => by
    have ih := asc_zip (b :: r)
    unfold zipD at ih ⊢
    simp only [List.drop_succ_cons, List.drop_zero, List.zipWith_cons_cons, List.map_cons, List.all_cons, ascD, ltP, id] at ih ⊢
    rw [← ih]
theorem cutL_1 {ds : List PyData} : cutL ds (some 1) none = ds.drop 1 := by
  unfold cutL
  rw [HT.sIx_none, show HT.sIx ds.length 0 (some 1) = min 1 ds.length from HT.sIx_nat _ _ 1]
  by_cases h : 1 ≤ ds.length
  · rw [Nat.min_eq_left h]
    exact List.take_of_length_le (by rw [List.length_drop]; exact Nat.le_refl _)
  · have : ds = [] := List.length_eq_zero_iff.mp (by omega)
    subst this
    rfl
theorem mem_zipD {ds es : List PyData} {x : PyData} (h : x ∈ zipD ds es) : ∃ a b, a ∈ ds ∧ b ∈ es ∧ x = .tuple [a, b] := by
  obtain ⟨i, hi⟩ := List.mem_iff_getElem?.mp h
  unfold zipD at hi
  rw [List.getElem?_zipWith] at hi
  cases h1 : ds[i]? with
  | none => rw [h1] at hi; cases hi
  | some a =>
    cases h2 : es[i]? with
    | none => rw [h1, h2] at hi; cases hi
    | some b => rw [h1, h2] at hi; cases hi; exact ⟨a, b, List.mem_of_getElem? h1, List.mem_of_getElem? h2, rfl⟩
def F_are_parts : FD := fun ds Q => ∃ d, ds = [d] ∧ Q (.bool (rowD d))
theorem FM_are_parts : FMono F_are_parts := ⟨fun m ⟨d, e, q⟩ => ⟨d, e, m _ q⟩⟩
theorem mgT2 {i j : Nat} {d : PyData} {ρ : DEnv} {P P' : DEnv → Prop} (h : ∀ ρ, P ρ → P' ρ) (q : dgTup 2 (dgCons (dgName i) (dgCons (dgName j) dgNil)) d ρ P) : dgTup 2 (dgCons (dgName i) (dgCons (dgName j) dgNil)) d ρ P' := by
  obtain ⟨ds, e, l, x, r, e2, y, r2, e3, e4, q⟩ := q
  exact ⟨ds, e, l, x, r, e2, y, r2, e3, e4, h _ q⟩
theorem ok_are_parts (T : Top w K mg) : FnOk P w K mg base CX0 3 T.a_are_parts T.d_are_parts ["thing"] (spF F_are_parts) := by
  refine fnF FM_are_parts T.F_are_parts sc_are_parts (fun ds Q ⟨d, e, _⟩ => by rw [e]; rfl) (fun c cdv A outer s H E hr => (pdss_cons (pds_if (pdw_t (pdw_or (pdt_not (pdt_val (fun h => pt_val h) (pd_isi (ki_list K) (fun h => pe_callB (k_isi K) (by rfl) T.z_isinstance bt_isinstance (pa_cons h (pa_cons (pe_bltn (v := .ty "list") (by rfl) T.z_list bt_list rfl) pa_nil))) (pd_name (pv 0))))) (pdw_or1 (pdt_not (pdt_chain (fun ha hb hc => pt_chain op_le op_le ha hb hc) pd_int (pd_cl (fun h => pe_callB (k_len K) (by rfl) T.z_len bt_len h) dk_len (pda_cons (pd_name (pv 0)) pda_nil)) (pd_c (d := .int 3) (C8.pe_gc rfl T.c_MOST_PARTS) (fun _ _ => rfl))))))) (pdss_one (pds_ret pd_bl)) pdss_nil)
      (pdss_cons (pds_if (pdt_not (pdt_val (fun h => pt_val h) (pd_cl (fun h => pe_callB (k_all K) (by rfl) T.z_all bt_all h) dk_all (pda_cons (pdn (pn_lc (vs := [3]) (fun hi hg ht he => pe_lc (own := [("item", 3)]) rfl sc_are_parts.nd hi (blkOk_by (N := N_are_parts) (sc := defScope s_are_parts) (by decide +kernel)) hg ht he) (pdi_list (K := K) (fun h => k_piL K h) (pd_name (pv 0))) (fun _ _ _ _ _ => (pdg_name (pg_name (i := 3) sc_are_parts.nd rfl (Or.inl rfl)) (by decide))) (fun _ _ _ _ _ => pdts_nil) (fun _ _ _ _ _ => (pd_callF FM_is_within (fun h => pe_call (ok_is_within T) hr (by rfl) T.g_is_within T.F_is_within.kp (b_is_within T) .nil pass0 h) (pda_cons (pd_name (pv 3)) (pda_cons (pd_tup (pda_cons pd_int (pda_cons pd_int pda_nil))) pda_nil)))))) pda_nil)))) (pdss_one (pds_ret pd_bl)) pdss_nil)
      (pdss_one (pds_ret (pd_cl (fun h => pe_callB (k_all K) (by rfl) T.z_all bt_all h) dk_all (pda_cons (pdn (pn_lc (vs := [1, 2]) (fun hi hg ht he => pe_lc (own := [("one", 1), ("other", 2)]) rfl sc_are_parts.nd hi (blkOk_by (N := N_are_parts) (sc := defScope s_are_parts) (by decide +kernel)) hg ht he) (pdi_zip (K := K) (fun h => k_zipD K (by rfl) T.z_zip h) (pda_cons (pd_name (pv 0)) (pda_cons (pdn (pn_sl (fun h a b => pe_slice (k_slL K) h a b) (pd_name (pv 0)) (pdo_some pd_int) pdo_none)) pda_nil))) (fun _ _ _ _ _ => (pdg_tup (K := K) (n := 2) (fun h => pg_tup rfl h) (pdgs_cons (fun h1 h2 => pgs_cons h1 h2) (pdg_name (pg_name (i := 1) sc_are_parts.nd rfl (Or.inl rfl)) (by decide)) (pdgs_cons (fun h1 h2 => pgs_cons h1 h2) (pdg_name (pg_name (i := 2) sc_are_parts.nd rfl (Or.inl rfl)) (by decide)) pdgs_nil)))) (fun _ _ _ _ _ => pdts_nil) (fun _ _ _ _ _ => (pd_op (fun ha hb => pe_cmpR op_lt ha hb (nomark _)) dk_b0 (pd_name (pv 1)) (pd_name (pv 2)))))) pda_nil))))))) (fun ds Q ⟨d, e, q⟩ => ?_)
  subst e
  refine ⟨_, rfl, d, rfl, _, rfl, ?_⟩
  cases d with
  | list ds =>
    refine ⟨_, rfl, _, ds, rfl, rfl, 1, ds.length, rfl, rfl, ?_⟩
    by_cases h1 : (1 : Int) ≤ ds.length
    · have ne : ds.isEmpty = false := by cases ds with | nil => simp at h1 | cons a r => rfl
      refine iteP h1 ⟨3, rfl, _, rfl, ?_⟩
      by_cases h2 : (ds.length : Int) ≤ 3
      · refine iteNS h2 ⟨_, rfl, ds, rfl, lc_map (fun x => .bool (inD x (0, 2))) (by omega) (fun x hx P hp => ?_) ?_ mgN⟩
        · exact ⟨_, rfl, [.int 0, .int 2], rfl, by decide, [x, .tuple [.int 0, .int 2]], rfl, x, 0, 2, rfl, hp⟩
        rw [all_map]
        refine ⟨_, _, rfl, rfl, _, rfl, ?_⟩
        have ea : (ds.map fun x => inD x (0, 2)).all id = ds.all fun x => inD x (0, 2) := by rw [List.all_map]; rfl
        rw [ea]
        cases h3 : (ds.all fun x => inD x (0, 2)) with
        | false => exact ⟨_, rfl, by simpa [rowD, h3] using q⟩
        | true =>
          refine ⟨_, rfl, _, rfl, 1, rfl, ds, rfl, ds, _, rfl, ?_⟩
          rw [cutL_1]
          have hz : (zipD ds (ds.drop 1)).length ≤ 1000 := by unfold zipD; rw [List.length_zipWith]; omega
          refine lc_map (fun x => .bool (ltP x)) hz (fun x hx P hp => ?_) ?_ mgT2
          · obtain ⟨a, b, ma, mb, rfl⟩ := mem_zipD hx
            obtain ⟨a, rfl, _⟩ := inD_int (List.all_eq_true.mp h3 _ ma)
            obtain ⟨b, rfl, _⟩ := inD_int (List.all_eq_true.mp h3 _ (List.mem_of_mem_drop mb))
            exact ⟨_, rfl, rfl, _, _, rfl, _, _, rfl, rfl, _, rfl, _, rfl, a, b, rfl, rfl, hp⟩
          rw [all_map]
          refine ⟨_, _, rfl, rfl, _, rfl, ?_⟩
          rw [asc_zip]
          simpa [rowD, h3, ne] using q
      · refine iteNN h2 ⟨_, rfl, ?_⟩
        have e : rowD (.list ds) = false := by
          cases h : rowD (.list ds) with
          | false => rfl
          | true =>
            simp only [rowD, Bool.and_eq_true] at h
            have := asc_len h.2.1 h.2.2
            omega
        rw [e] at q
        exact q
    · have : ds = [] := List.length_eq_zero_iff.mp (by omega)
      subst this
      exact iteN h1 ⟨_, rfl, _, rfl, q⟩
  | _ => exact ⟨_, rfl, q⟩
--SPLIT
theorem ok_copied_step (T : Top w K mg) (n : Nat) (G__law_copied : FnOk P w K mg base CX0 (n + 1) T.a__law_copied T.d__law_copied ["_law_value"] (spF (F__law_copied n))) :
    FnOk P w K mg base CX0 (n + 2) T.a__law_copied T.d__law_copied ["_law_value"] (spF (F__law_copied (n + 1))) := by
  refine fnF FM__law_copied T.F__law_copied sc__law_copied (fun ds Q ⟨d, e, _⟩ => by rw [e]; rfl) (fun c cdv A outer s H E hr => (pdss_cons (pds_if (pdt_val (fun h => pt_val h) (pd_isi (ki_list K) (fun h => pe_callB (k_isi K) (by rfl) T.z_isinstance bt_isinstance (pa_cons h (pa_cons (pe_bltn (v := .ty "list") (by rfl) T.z_list bt_list rfl) pa_nil))) (pd_name (pv 0)))) (pdss_one (pds_ret (pdn (pn_lc (vs := [1]) (fun hi hg ht he => pe_lc (own := [("_law_item", 1)]) rfl sc__law_copied.nd hi (blkOk_by (N := N__law_copied) (sc := defScope s__law_copied) (by decide +kernel)) hg ht he) (pdi_list (K := K) (fun h => k_piL K h) (pd_name (pv 0))) (fun _ _ _ _ _ => (pdg_name (pg_name (i := 1) sc__law_copied.nd rfl (Or.inl rfl)) (by decide))) (fun _ _ _ _ _ => pdts_nil) (fun _ _ _ _ _ => (pd_callF FM__law_copied (fun h => pe_call G__law_copied (hr.mono (by omega)) (by rfl) T.g__law_copied T.F__law_copied.kp (b__law_copied T) .nil pass0 h) (pda_cons (pd_name (pv 1)) pda_nil))))))) pdss_nil)
      (pdss_cons (pds_if (pdt_val (fun h => pt_val h) (pd_isi (ki_tuple K) (fun h => pe_callB (k_isi K) (by rfl) T.z_isinstance bt_isinstance (pa_cons h (pa_cons (pe_bltn (v := .ty "tuple") (by rfl) T.z_tuple bt_tuple rfl) pa_nil))) (pd_name (pv 0)))) (pdss_one (pds_ret (pd_cl (fun h => pe_callTy (k_tuple K) (by rfl) T.z_tuple bt_tuple h) dk_tupOf (pda_cons (pdn (pn_lc (vs := [1]) (fun hi hg ht he => pe_lc (own := [("_law_item", 1)]) rfl sc__law_copied.nd hi (blkOk_by (N := N__law_copied) (sc := defScope s__law_copied) (by decide +kernel)) hg ht he) (pdi_tup (K := K) (fun h => k_piT K h) (pd_name (pv 0))) (fun _ _ _ _ _ => (pdg_name (pg_name (i := 1) sc__law_copied.nd rfl (Or.inl rfl)) (by decide))) (fun _ _ _ _ _ => pdts_nil) (fun _ _ _ _ _ => (pd_callF FM__law_copied (fun h => pe_call G__law_copied (hr.mono (by omega)) (by rfl) T.g__law_copied T.F__law_copied.kp (b__law_copied T) .nil pass0 h) (pda_cons (pd_name (pv 1)) pda_nil))))) pda_nil)))) pdss_nil)
      (pdss_one (pds_ret (pd_name (pv 0))))))) (fun ds Q ⟨d, e, hd, q⟩ => ?_)
  subst e
  refine ⟨_, rfl, d, rfl, _, rfl, ?_⟩
  cases d with
  | list ds =>
    refine ⟨_, rfl, ds, rfl, lc_map id (by have := hd.1; omega) (fun x hx P hp => ?_) ?_ mgN⟩
    · exact ⟨_, rfl, [x], rfl, x, rfl, hd.2.mem hx, hp⟩
    · rw [List.map_id]
      exact ⟨_, rfl, q⟩
  | tuple ds =>
    refine ⟨_, rfl, _, rfl, _, rfl, ?_⟩
    refine ⟨_, rfl, ds, rfl, lc_map id (by have := hd.1; omega) (fun x hx P hp => ?_) ?_ mgN⟩
    · exact ⟨_, rfl, [x], rfl, x, rfl, hd.2.mem hx, hp⟩
    · rw [List.map_id]
      exact ⟨_, _, rfl, rfl, _, rfl, q⟩
  | _ => exact ⟨_, rfl, _, rfl, _, rfl, _, rfl, _, rfl, q⟩
theorem none_copied (T : Top w K mg) : FnOk P w K mg base CX0 1 T.a__law_copied T.d__law_copied ["_law_value"] (spF (F__law_copied 0)) := by
  have no : ∀ vs H Q E, ¬ spF (F__law_copied 0) vs H Q E := fun vs H Q E ⟨_, _, _, d, _, h, _⟩ => by cases d <;> exact h.elim
  exact ⟨fun vs H Q E h => absurd h (no vs H Q E), fun A outer s H args us vs Q E _ _ _ _ h => absurd h (no vs H Q E)⟩
theorem all_copied (T : Top w K mg) : ∀ n : Nat, FnOk P w K mg base CX0 (n + 1) T.a__law_copied T.d__law_copied ["_law_value"] (spF (F__law_copied n))
  | 0 => none_copied T
  | n + 1 => ok_copied_step T n (all_copied T n)

theorem ok__law_copied (T : Top w K mg) : FnOk P w K mg base CX0 9 T.a__law_copied T.d__law_copied ["_law_value"] (spF (F__law_copied 8)) := all_copied T 8
set_option maxHeartbeats 4000000 in
theorem ok_same_step (T : Top w K mg) (n : Nat) (G__law_same : FnOk P w K mg base CX0 (n + 1) T.a__law_same T.d__law_same ["_law_one", "_law_other"] (spF (F__law_same n))) :
    FnOk P w K mg base CX0 (n + 2) T.a__law_same T.d__law_same ["_law_one", "_law_other"] (spF (F__law_same (n + 1))) := by
  refine fnF FM__law_same T.F__law_same sc__law_same (fun ds Q ⟨d, e, h, _⟩ => by rw [h]; rfl) (fun c cdv A outer s H E hr => (pdss_cons (pds_if (pdt_val (fun h => pt_val h) (pd_isiLT (fun h => pe_callB (k_isiT K) (by rfl) T.z_isinstance bt_isinstance (pa_cons h (pa_cons (pe_tup (pa_cons (pe_bltn (v := .ty "list") (by rfl) T.z_list bt_list rfl) (pa_cons (pe_bltn (v := .ty "tuple") (by rfl) T.z_tuple bt_tuple rfl) pa_nil))) pa_nil))) (pd_name (pv 1)))) (pdss_cons (pds_if (pdw_t (pdw_or (pdt_not (pdt_val (fun h => pt_val h) (pd_isiLT (fun h => pe_callB (k_isiT K) (by rfl) T.z_isinstance bt_isinstance (pa_cons h (pa_cons (pe_tup (pa_cons (pe_bltn (v := .ty "list") (by rfl) T.z_list bt_list rfl) (pa_cons (pe_bltn (v := .ty "tuple") (by rfl) T.z_tuple bt_tuple rfl) pa_nil))) pa_nil))) (pd_name (pv 0))))) (pdw_or1 (pdt_op (fun ha hb => pt_cmpR (k_neD K (hu64 hr)) ha hb (nomark _)) dk_ne (pd_isi (ki_list K) (fun h => pe_callB (k_isi K) (by rfl) T.z_isinstance bt_isinstance (pa_cons h (pa_cons (pe_bltn (v := .ty "list") (by rfl) T.z_list bt_list rfl) pa_nil))) (pd_name (pv 0))) (pd_isi (ki_list K) (fun h => pe_callB (k_isi K) (by rfl) T.z_isinstance bt_isinstance (pa_cons h (pa_cons (pe_bltn (v := .ty "list") (by rfl) T.z_list bt_list rfl) pa_nil))) (pd_name (pv 1))))))) (pdss_one (pds_ret pd_bl)) pdss_nil)
        (pdss_one (pds_ret (pd_and (pd_op (fun ha hb => pe_cmpR (k_eqD K (hu64 hr)) ha hb (nomark _)) dk_eq (pd_cl (fun h => pe_callB (k_len K) (by rfl) T.z_len bt_len h) dk_len (pda_cons (pd_name (pv 0)) pda_nil)) (pd_cl (fun h => pe_callB (k_len K) (by rfl) T.z_len bt_len h) dk_len (pda_cons (pd_name (pv 1)) pda_nil))) (pd_one (pd_cl (fun h => pe_callB (k_all K) (by rfl) T.z_all bt_all h) dk_all (pda_cons (pdn (pn_lc (vs := [2]) (fun hi hg ht he => pe_lc (own := [("_law_k", 2)]) rfl sc__law_same.nd hi (blkOk_by (N := N__law_same) (sc := defScope s__law_same) (by decide +kernel)) hg ht he) (pdi_range1 (fun h => pi_range1 (by rfl) T.z_range h) (pda_cons (pd_cl (fun h => pe_callB (k_len K) (by rfl) T.z_len bt_len h) dk_len (pda_cons (pd_name (pv 1)) pda_nil)) pda_nil)) (fun _ _ _ _ _ => (pdg_name (pg_name (i := 2) sc__law_same.nd rfl (Or.inl rfl)) (by decide))) (fun _ _ _ _ _ => pdts_nil) (fun _ _ _ _ _ => (pd_callF FM__law_same (fun h => pe_call G__law_same (hr.mono (by omega)) (by rfl) T.g__law_same T.F__law_same.kp (b__law_same T) .nil pass0 h) (pda_cons (pd_op (fun ha hb => pe_ix (k_ixQ K) ha hb (fun _ _ => rfl)) dk_ix (pd_name (pv 0)) (pd_name (pv 2))) (pda_cons (pd_op (fun ha hb => pe_ix (k_ixQ K) ha hb (fun _ _ => rfl)) dk_ix (pd_name (pv 1)) (pd_name (pv 2))) pda_nil)))))) pda_nil))))))) pdss_nil)
      (pdss_cons (pds_if (pdw_t (pdw_or (pdt_val (fun h => pt_val h) (pd_isi (ki_bool K) (fun h => pe_callB (k_isi K) (by rfl) T.z_isinstance bt_isinstance (pa_cons h (pa_cons (pe_bltn (v := .ty "bool") (by rfl) T.z_bool bt_bool rfl) pa_nil))) (pd_name (pv 0)))) (pdw_or1 (pdt_val (fun h => pt_val h) (pd_isi (ki_bool K) (fun h => pe_callB (k_isi K) (by rfl) T.z_isinstance bt_isinstance (pa_cons h (pa_cons (pe_bltn (v := .ty "bool") (by rfl) T.z_bool bt_bool rfl) pa_nil))) (pd_name (pv 1))))))) (pdss_one (pds_ret (pd_and (pd_isi (ki_bool K) (fun h => pe_callB (k_isi K) (by rfl) T.z_isinstance bt_isinstance (pa_cons h (pa_cons (pe_bltn (v := .ty "bool") (by rfl) T.z_bool bt_bool rfl) pa_nil))) (pd_name (pv 0))) (pd_and (pd_isi (ki_bool K) (fun h => pe_callB (k_isi K) (by rfl) T.z_isinstance bt_isinstance (pa_cons h (pa_cons (pe_bltn (v := .ty "bool") (by rfl) T.z_bool bt_bool rfl) pa_nil))) (pd_name (pv 1))) (pd_one (pd_op (fun ha hb => pe_cmpR (k_eqD K (hu64 hr)) ha hb (nomark _)) dk_eq (pd_name (pv 0)) (pd_name (pv 1)))))))) pdss_nil)
      (pdss_cons (pds_if (pdt_val (fun h => pt_val h) (pd_isi (ki_int K) (fun h => pe_callB (k_isi K) (by rfl) T.z_isinstance bt_isinstance (pa_cons h (pa_cons (pe_bltn (v := .ty "int") (by rfl) T.z_int bt_int rfl) pa_nil))) (pd_name (pv 1)))) (pdss_one (pds_ret (pd_and (pd_isi (ki_int K) (fun h => pe_callB (k_isi K) (by rfl) T.z_isinstance bt_isinstance (pa_cons h (pa_cons (pe_bltn (v := .ty "int") (by rfl) T.z_int bt_int rfl) pa_nil))) (pd_name (pv 0))) (pd_one (pd_op (fun ha hb => pe_cmpR (k_eqD K (hu64 hr)) ha hb (nomark _)) dk_eq (pd_name (pv 0)) (pd_name (pv 1))))))) pdss_nil)
      (pdss_cons (pds_if (pdt_val (fun h => pt_val h) (pd_isi (ki_str K) (fun h => pe_callB (k_isi K) (by rfl) T.z_isinstance bt_isinstance (pa_cons h (pa_cons (pe_bltn (v := .ty "str") (by rfl) T.z_str bt_str rfl) pa_nil))) (pd_name (pv 1)))) (pdss_one (pds_ret (pd_and (pd_isi (ki_str K) (fun h => pe_callB (k_isi K) (by rfl) T.z_isinstance bt_isinstance (pa_cons h (pa_cons (pe_bltn (v := .ty "str") (by rfl) T.z_str bt_str rfl) pa_nil))) (pd_name (pv 0))) (pd_one (pd_op (fun ha hb => pe_cmpR (k_eqD K (hu64 hr)) ha hb (nomark _)) dk_eq (pd_name (pv 0)) (pd_name (pv 1))))))) pdss_nil)
      (pdss_one (pds_ret (pd_and (pd_op (fun ha hb => pe_cmpR op_isN ha hb (nomark _)) dk_isN (pd_name (pv 0)) pd_non) (pd_one (pd_op (fun ha hb => pe_cmpR op_isN ha hb (nomark _)) dk_isN (pd_name (pv 1)) pd_non)))))))))) (fun ds Q ⟨d, e, h, hd, he, q⟩ => ?_)
  subst h
  refine ⟨_, rfl, e, rfl, ?_⟩
  have lists : ∀ (xs ys : List PyData) (c : Bool), (d = .list xs ∧ c = true) ∨ (d = .tuple xs ∧ c = false) → (e = .list ys ∧ c = true) ∨ (e = .tuple ys ∧ c = false) → True := fun _ _ _ _ _ => True.intro
  have seqs : ∀ (xs ys : List PyData), OkAll xs n → OkAll ys n → ys.length ≤ 100 → (Av.d d).seq = some xs → (Av.d e).seq = some ys → sameD d e = sameAll xs ys → dRet (deAnd (dOp kEq (dCl kLen (dCons (dName 0) dNil)) (dCl kLen (dCons (dName 1) dNil))) (dCl kAll (dCons (dFrz (dLc [2] (xsR1 (dCons (dCl kLen (dCons (dName 1) dNil)) dNil)) (dgName 2) dtYes (dCallF (F__law_same n) (dCons (dOp kIx (dName 0) (dName 2)) (dCons (dOp kIx (dName 1) (dName 2)) dNil))))) dNil))) (fends Q) (dstart N__law_same [.d d, .d e]) := by
    intro xs ys ox oy l100 hx hy hs
    refine ⟨_, rfl, _, xs, rfl, hx, _, rfl, _, ys, rfl, hy, _, _, rfl, rfl, shI _, shI _, _, rfl, ?_⟩
    rw [eqvI]
    by_cases hl : xs.length = ys.length
    · refine iteP (by rw [hl]) ⟨_, rfl, _, ys, rfl, hy, ys.length, rfl, by omega, by omega, ?_⟩
      have ty : ((ys.length : Nat) : Int).toNat = ys.length := by omega
      rw [ty]
      refine lc_range_map (f := fun i => .bool (sameD (xs.getD i .none) (ys.getD i .none))) (by omega) (fun i hi P hp => ?_) ?_ mgN
      · have gx : xs[i]? = some (xs.getD i .none) := by rw [List.getD_eq_getElem?_getD, List.getElem?_eq_getElem (show i < xs.length by omega)]; rfl
        have gy : ys[i]? = some (ys.getD i .none) := by rw [List.getD_eq_getElem?_getD, List.getElem?_eq_getElem hi]; rfl
        have ax : atI xs (0 + (i : Int)) = some (xs.getD i .none) := by rw [Int.zero_add]; exact atI_nat gx
        have ay : atI ys (0 + (i : Int)) = some (ys.getD i .none) := by rw [Int.zero_add]; exact atI_nat gy
        exact ⟨_, rfl, _, rfl, xs, _, _, hx, rfl, ax, _, rfl, _, rfl, ys, _, _, hy, rfl, ay, [_, _], rfl, _, _, rfl, ox.mem (List.mem_of_getElem? gx), oy.mem (List.mem_of_getElem? gy), hp⟩
      · refine ⟨_, _, rfl, congrArg (fun z => some (PyData.list z)) (show _ = ((List.range ys.length).map fun i => sameD (xs.getD i .none) (ys.getD i .none)).map PyData.bool by rw [List.map_map]; rfl), _, rfl, ?_⟩
        rw [same_range hl fun i x y h1 h2 => by rw [List.getD_eq_getElem?_getD, List.getD_eq_getElem?_getD, h1, h2]; rfl, ← hs]
        exact q
    · refine iteN (fun z => hl (by omega)) ⟨_, rfl, ?_⟩
      rw [sameAll_len _ _ hl] at hs
      rw [hs] at q
      exact q
  cases e with
  | list ys =>
    refine ⟨_, rfl, _, rfl, d, rfl, _, rfl, ?_⟩
    cases d with
    | list xs =>
      refine ⟨_, rfl, _, rfl, _, rfl, _, rfl, _, _, rfl, rfl, shB _, shB _, _, rfl, ?_⟩
      rw [eqvB]
      exact seqs xs ys hd.2 he.2 he.1 rfl rfl (by rw [sameD])
    | tuple xs =>
      refine ⟨_, rfl, _, rfl, _, rfl, _, rfl, _, _, rfl, rfl, shB _, shB _, _, rfl, ?_⟩
      rw [eqvB]
      exact ⟨_, rfl, q⟩
    | _ => exact ⟨_, rfl, q⟩
  | tuple ys =>
    refine ⟨_, rfl, _, rfl, d, rfl, _, rfl, ?_⟩
    cases d with
    | tuple xs =>
      refine ⟨_, rfl, _, rfl, _, rfl, _, rfl, _, _, rfl, rfl, shB _, shB _, _, rfl, ?_⟩
      rw [eqvB]
      exact seqs xs ys hd.2 he.2 he.1 rfl rfl (by rw [sameD])
    | list xs =>
      refine ⟨_, rfl, _, rfl, _, rfl, _, rfl, _, _, rfl, rfl, shB _, shB _, _, rfl, ?_⟩
      rw [eqvB]
      exact ⟨_, rfl, q⟩
    | _ => exact ⟨_, rfl, q⟩
  | str i =>
    have he : PyData.strOk i = true := he
    have hi := sh_str he
    cases d with
    | str j =>
      have hd : PyData.strOk j = true := hd
      have hj := sh_str hd
      simpa [dName, dC, dNil, dCons, dTup, nLst, dFrz, Av.dat, Av.seq, dOp, dUn, dCl, dTest, dTru, truD, dtNot, dtAnd, dtOr, deNot, deAnd, deOr, deIf, kI, kI0, kU, kEq, kNe, kIsN, kNotN, kLen, kInt, kListOf, kTupOf, kCat, kCatT, dSkip, dSeq, dSet, dOwn, dRet, dRetN, dIf, dIsi, dCallF, dstart, retD, fends, isI, isLs, isTp, isBl, isNum, isStr, isNo, shI, shB, eqvI2, eqvB, eqvS, sameD, hi, hj] using q
    | _ => simpa [dName, dC, dNil, dCons, dTup, nLst, dFrz, Av.dat, Av.seq, dOp, dUn, dCl, dTest, dTru, truD, dtNot, dtAnd, dtOr, deNot, deAnd, deOr, deIf, kI, kI0, kU, kEq, kNe, kIsN, kNotN, kLen, kInt, kListOf, kTupOf, kCat, kCatT, dSkip, dSeq, dSet, dOwn, dRet, dRetN, dIf, dIsi, dCallF, dstart, retD, fends, isI, isLs, isTp, isBl, isNum, isStr, isNo, shI, shB, eqvI2, eqvB, eqvS, sameD] using q
  | _ => cases d <;> simpa [dName, dC, dNil, dCons, dTup, nLst, dFrz, Av.dat, Av.seq, dOp, dUn, dCl, dTest, dTru, truD, dtNot, dtAnd, dtOr, deNot, deAnd, deOr, deIf, kI, kI0, kU, kEq, kNe, kIsN, kNotN, kLen, kInt, kListOf, kTupOf, kCat, kCatT, dSkip, dSeq, dSet, dOwn, dRet, dRetN, dIf, dIsi, dCallF, dstart, retD, fends, isI, isLs, isTp, isBl, isNum, isStr, isNo, shI, shB, eqvI2, eqvB, eqvS, sameD] using q
theorem none_same (T : Top w K mg) : FnOk P w K mg base CX0 1 T.a__law_same T.d__law_same ["_law_one", "_law_other"] (spF (F__law_same 0)) := by
  have no : ∀ vs H Q E, ¬ spF (F__law_same 0) vs H Q E := fun vs H Q E ⟨_, _, _, d, _, _, h, _⟩ => by cases d <;> exact h.elim
  exact ⟨fun vs H Q E h => absurd h (no vs H Q E), fun A outer s H args us vs Q E _ _ _ _ h => absurd h (no vs H Q E)⟩
theorem all_same (T : Top w K mg) : ∀ n : Nat, FnOk P w K mg base CX0 (n + 1) T.a__law_same T.d__law_same ["_law_one", "_law_other"] (spF (F__law_same n))
  | 0 => none_same T
  | n + 1 => ok_same_step T n (all_same T n)

theorem ok__law_same (T : Top w K mg) : FnOk P w K mg base CX0 9 T.a__law_same T.d__law_same ["_law_one", "_law_other"] (spF (F__law_same 8)) := all_same T 8
--SPLIT
def wordsD : PyData := .list [.str "home", .str "swap", .str "undo", .str "first", .str "last", .str "ring"]
def F__law_words : FD := fun ds Q => ds = [] ∧ Q wordsD
theorem FM__law_words : FMono F__law_words := ⟨fun m ⟨e, q⟩ => ⟨e, m _ q⟩⟩
theorem ok__law_words (T : Top w K mg) : FnOk P w K mg base CX0 1 T.a__law_words T.d__law_words [] (spF F__law_words) := by
  refine fnF FM__law_words T.F__law_words sc__law_words (fun ds Q ⟨e, _⟩ => by rw [e]; rfl) (fun c cdv A outer s H E hr => (pdss_one (pds_ret (pdn (pn_lst (pda_cons pd_str (pda_cons pd_str (pda_cons pd_str (pda_cons pd_str (pda_cons pd_str (pda_cons pd_str pda_nil))))))))))) (fun ds Q ⟨e, q⟩ => ?_)
  subst e
  exact ⟨[.str "home", .str "swap", .str "undo", .str "first", .str "last", .str "ring"], rfl, by decide, _, rfl, q⟩
def F__law_integer : FD := fun ds Q => ∃ d lo hi, ds = [d, .int lo, .int hi] ∧ Q (.bool (inD d (lo, hi)))
theorem FM__law_integer : FMono F__law_integer := ⟨fun m ⟨d, lo, hi, e, q⟩ => ⟨d, lo, hi, e, m _ q⟩⟩
theorem ok__law_integer (T : Top w K mg) : FnOk P w K mg base CX0 1 T.a__law_integer T.d__law_integer ["_law_thing", "_law_low", "_law_high"] (spF F__law_integer) := by
  refine fnF FM__law_integer T.F__law_integer sc__law_integer (fun ds Q ⟨d, lo, hi, e, _⟩ => by rw [e]; rfl) (fun c cdv A outer s H E hr => (pdss_cons (pds_if (pdw_t (pdw_or (pdt_not (pdt_val (fun h => pt_val h) (pd_isi (ki_int K) (fun h => pe_callB (k_isi K) (by rfl) T.z_isinstance bt_isinstance (pa_cons h (pa_cons (pe_bltn (v := .ty "int") (by rfl) T.z_int bt_int rfl) pa_nil))) (pd_name (pv 0))))) (pdw_or1 (pdt_val (fun h => pt_val h) (pd_isi (ki_bool K) (fun h => pe_callB (k_isi K) (by rfl) T.z_isinstance bt_isinstance (pa_cons h (pa_cons (pe_bltn (v := .ty "bool") (by rfl) T.z_bool bt_bool rfl) pa_nil))) (pd_name (pv 0))))))) (pdss_one (pds_ret pd_bl)) pdss_nil)
      (pdss_one (pds_ret (pd_and (pd_op (fun ha hb => pe_cmpR op_le ha hb (nomark _)) dk_b0 (pd_name (pv 1)) (pd_name (pv 0))) (pd_one (pd_op (fun ha hb => pe_cmpR op_le ha hb (nomark _)) dk_b0 (pd_name (pv 0)) (pd_name (pv 2))))))))) (fun ds Q ⟨d, lo, hi, e, q⟩ => ?_)
  subst e
  cases d with
  | int z => by_cases h : lo ≤ z <;> simpa [dName, dC, dNil, dCons, dTup, nLst, dFrz, Av.dat, Av.seq, dOp, dUn, dCl, dTest, dTru, truD, dtNot, dtAnd, dtOr, deNot, deAnd, deOr, deIf, kI, kI0, kU, kEq, kNe, kIsN, kNotN, kLen, kInt, kListOf, kTupOf, kCat, kCatT, dSkip, dSeq, dSet, dOwn, dRet, dRetN, dIf, dIsi, dCallF, dstart, retD, fends, isI, isLs, isTp, isBl, isNum, isStr, isNo, shI, shB, eqvI2, eqvB, eqvS, sameD, inD, h] using q
  | _ => simpa [dName, dC, dNil, dCons, dTup, nLst, dFrz, Av.dat, Av.seq, dOp, dUn, dCl, dTest, dTru, truD, dtNot, dtAnd, dtOr, deNot, deAnd, deOr, deIf, kI, kI0, kU, kEq, kNe, kIsN, kNotN, kLen, kInt, kListOf, kTupOf, kCat, kCatT, dSkip, dSeq, dSet, dOwn, dRet, dRetN, dIf, dIsi, dCallF, dstart, retD, fends, isI, isLs, isTp, isBl, isNum, isStr, isNo, shI, shB, eqvI2, eqvB, eqvS, sameD, inD] using q
def F__law_variable : FD := fun ds Q => ∃ d, ds = [d] ∧ Q (.bool (keyD d 3))
theorem FM__law_variable : FMono F__law_variable := ⟨fun m ⟨d, e, q⟩ => ⟨d, e, m _ q⟩⟩
theorem ok__law_variable (T : Top w K mg) : FnOk P w K mg base CX0 2 T.a__law_variable T.d__law_variable ["_law_thing"] (spF F__law_variable) := by
  refine fnF FM__law_variable T.F__law_variable sc__law_variable (fun ds Q ⟨d, e, _⟩ => by rw [e]; rfl) (fun c cdv A outer s H E hr => (pdss_cons (pds_if (pdw_t (pdw_or (pdt_not (pdt_val (fun h => pt_val h) (pd_isi (ki_tuple K) (fun h => pe_callB (k_isi K) (by rfl) T.z_isinstance bt_isinstance (pa_cons h (pa_cons (pe_bltn (v := .ty "tuple") (by rfl) T.z_tuple bt_tuple rfl) pa_nil))) (pd_name (pv 0))))) (pdw_or1 (pdt_op (fun ha hb => pt_cmpR (k_neD K (hu64 hr)) ha hb (nomark _)) dk_ne (pd_cl (fun h => pe_callB (k_len K) (by rfl) T.z_len bt_len h) dk_len (pda_cons (pd_name (pv 0)) pda_nil)) pd_int)))) (pdss_one (pds_ret pd_bl)) pdss_nil)
      (pdss_one (pds_ret (pd_and (pd_callF FM__law_integer (fun h => pe_call (ok__law_integer T) hr (by rfl) T.g__law_integer T.F__law_integer.kp (b__law_integer T) .nil pass0 h) (pda_cons (pd_op (fun ha hb => pe_ix (k_ixQ K) ha hb (fun _ _ => rfl)) dk_ix (pd_name (pv 0)) pd_int) (pda_cons pd_int (pda_cons pd_int pda_nil)))) (pd_one (pd_callF FM__law_integer (fun h => pe_call (ok__law_integer T) hr (by rfl) T.g__law_integer T.F__law_integer.kp (b__law_integer T) .nil pass0 h) (pda_cons (pd_op (fun ha hb => pe_ix (k_ixQ K) ha hb (fun _ _ => rfl)) dk_ix (pd_name (pv 0)) pd_int) (pda_cons pd_int (pda_cons pd_int pda_nil)))))))))) (fun ds Q ⟨d, e, q⟩ => ?_)
  subst e
  refine ⟨_, rfl, d, rfl, _, rfl, ?_⟩
  cases d with
  | tuple ts =>
    refine ⟨_, rfl, _, ts, rfl, rfl, _, _, rfl, rfl, shI _, shI _, _, rfl, ?_⟩
    rw [eqvI]
    by_cases h : ts.length = 2
    · match ts, h with
      | [a, b], _ =>
        refine iteNS rfl ⟨_, rfl, [a, b], 0, a, rfl, rfl, rfl, [a, .int 0, .int 2], rfl, a, 0, 2, rfl, _, rfl, ?_⟩
        refine ifB (fun h => ?_) (fun h => ?_)
        · refine ⟨_, rfl, [a, b], 1, b, rfl, rfl, rfl, [b, .int 0, .int 1], rfl, b, 0, 1, rfl, _, rfl, ?_⟩
          simpa [keyD, h] using q
        · refine ⟨_, rfl, ?_⟩
          simpa [keyD, h] using q
    · rw [keyD_no h] at q
      exact iteNN (by omega) ⟨_, rfl, q⟩
  | _ => exact ⟨_, rfl, q⟩
def F__law_row : FD := fun ds Q => ∃ d, ds = [d] ∧ Ok d 8 ∧ Q (.bool (rowD d))
theorem FM__law_row : FMono F__law_row := ⟨fun m ⟨d, e, h, q⟩ => ⟨d, e, h, m _ q⟩⟩
theorem asc_get : ∀ {ds : List PyData} {i : Nat} {a b : PyData}, ascD ds = true → ds[i]? = some a → ds[i + 1]? = some b → ltI a b = true
  | x :: y :: r, 0, a, b, h, e1, e2 => by
    simp only [ascD, Bool.and_eq_true] at h
    cases e1
    cases e2
    exact h.1
  | x :: y :: r, i + 1, a, b, h, e1, e2 => by
    simp only [ascD, Bool.and_eq_true] at h
    exact asc_get (i := i) h.2 e1 e2
  | [x], i, a, b, h, e1, e2 => by simp at e2
  | [], i, a, b, h, e1, e2 => by simp at e1
theorem asc_of : ∀ {ds : List PyData}, (∀ i a b, ds[i]? = some a → ds[i + 1]? = some b → ltI a b = true) → ascD ds = true
  | x :: y :: r, h => by
    simp only [ascD, Bool.and_eq_true]
    exact ⟨h 0 x y rfl rfl, asc_of fun i a b e1 e2 => h (i + 1) a b e1 e2⟩
  | [x], h => rfl
  | [], h => rfl
theorem ints_get {n i : Nat} {d : PyData} (h : (intsFrom 0 n)[i]? = some d) : i < n ∧ d = .int (i : Int) := by
  have ln : (intsFrom 0 n).length = n := by unfold intsFrom; rw [List.length_map, List.length_range]
  have hi := (List.getElem?_eq_some_iff.mp h).1
  rw [ln] at hi
  refine ⟨hi, ?_⟩
  unfold intsFrom at h
  rw [List.getElem?_map, List.getElem?_range hi] at h
  rw [← Option.some.inj h]
  show PyData.int (0 + (i : Int)) = _
  rw [Int.zero_add]
theorem ints_len {n : Nat} : (intsFrom 0 n).length = n := by unfold intsFrom; rw [List.length_map, List.length_range]
theorem ok__law_row (T : Top w K mg) : FnOk P w K mg base CX0 2 T.a__law_row T.d__law_row ["_law_thing"] (spF F__law_row) := by
  refine fnF FM__law_row T.F__law_row sc__law_row (fun ds Q ⟨d, e, _⟩ => by rw [e]; rfl) (fun c cdv A outer s H E hr => (pdss_cons (pds_if (pdw_t (pdw_or (pdt_not (pdt_val (fun h => pt_val h) (pd_isi (ki_list K) (fun h => pe_callB (k_isi K) (by rfl) T.z_isinstance bt_isinstance (pa_cons h (pa_cons (pe_bltn (v := .ty "list") (by rfl) T.z_list bt_list rfl) pa_nil))) (pd_name (pv 0))))) (pdw_or1 (pdt_op (fun ha hb => pt_cmpR op_lt ha hb (nomark _)) dk_b0 (pd_cl (fun h => pe_callB (k_len K) (by rfl) T.z_len bt_len h) dk_len (pda_cons (pd_name (pv 0)) pda_nil)) pd_int)))) (pdss_one (pds_ret pd_bl)) pdss_nil)
      (pdss_cons (pds_for (vs := [1]) (fun a b c => ps_for PassesOwn.never rfl a b c) (pdi_range1 (fun h => pi_range1 (by rfl) T.z_range h) (pda_cons (pd_cl (fun h => pe_callB (k_len K) (by rfl) T.z_len bt_len h) dk_len (pda_cons (pd_name (pv 0)) pda_nil)) pda_nil)) (pdg_name (pg_name (i := 1) sc__law_row.nd rfl (Or.inl rfl)) (by decide)) (pdss_cons (pds_if (pdt_not (pdt_val (fun h => pt_val h) (pd_callF FM__law_integer (fun h => pe_call (ok__law_integer T) hr (by rfl) T.g__law_integer T.F__law_integer.kp (b__law_integer T) .nil pass0 h) (pda_cons (pd_op (fun ha hb => pe_ix (k_ixQ K) ha hb (fun _ _ => rfl)) dk_ix (pd_name (pv 0)) (pd_name (pv 1))) (pda_cons pd_int (pda_cons pd_int pda_nil)))))) (pdss_one (pds_ret pd_bl)) pdss_nil)
        (pdss_one (pds_if (pdw_t (pdw_and (pdt_op (fun ha hb => pt_cmpR op_gt ha hb (nomark _)) dk_b0 (pd_name (pv 1)) pd_int) (pdw_and1 (pdt_op (fun ha hb => pt_cmpR op_le ha hb (nomark _)) dk_b0 (pd_op (fun ha hb => pe_ix (k_ixQ K) ha hb (fun _ _ => rfl)) dk_ix (pd_name (pv 0)) (pd_name (pv 1))) (pd_op (fun ha hb => pe_ix (k_ixQ K) ha hb (fun _ _ => rfl)) dk_ix (pd_name (pv 0)) (pd_op (fun ha hb => pe_op op_sub ha hb) dk_i0 (pd_name (pv 1)) pd_int)))))) (pdss_one (pds_ret pd_bl)) pdss_nil))))
      (pdss_one (pds_ret pd_bl))))) (fun ds Q ⟨d, e, hd, q⟩ => ?_)
  subst e
  refine ⟨_, rfl, d, rfl, _, rfl, ?_⟩
  cases d with
  | list ds =>
    have l100 := hd.1
    refine ⟨_, rfl, _, ds, rfl, rfl, ds.length, 1, rfl, rfl, _, rfl, ?_⟩
    by_cases h1 : (ds.length : Int) < 1
    · have : ds = [] := List.length_eq_zero_iff.mp (by omega)
      subst this
      exact iteP h1 ⟨_, rfl, q⟩
    refine iteN h1 ⟨_, rfl, _, ds, rfl, rfl, ds.length, rfl, by omega, by omega, ?_⟩
    have ty : ((ds.length : Nat) : Int).toNat = ds.length := by omega
    rw [ty]
    have ne : ds.isEmpty = false := by cases ds with | nil => exact absurd (by simp) h1 | cons a r => rfl
    refine ⟨fun i ρ => (∃ y, ρ = [some (.d (.list ds)), y]) ∧ ∀ j x, j < i → ds[j]? = some x → inD x (0, 2) = true ∧ ∀ k y, j = k + 1 → ds[k]? = some y → ltI y x = true, ⟨⟨_, rfl⟩, fun j x h => absurd h (Nat.not_lt_zero _)⟩, fun i d ρ hi ⟨⟨y, e⟩, h⟩ => ?_, fun ρ ⟨⟨y, e⟩, h⟩ => ?_⟩
    · subst e
      obtain ⟨hlt, rfl⟩ := ints_get hi
      have gx : ds[i]? = some ds[i] := List.getElem?_eq_getElem hlt
      refine ⟨_, rfl, _, rfl, ds, i, ds[i], rfl, rfl, atI_nat gx, [ds[i], .int 0, .int 2], rfl, _, _, _, rfl, _, rfl, ?_⟩
      cases hx : inD ds[i] (0, 2) with
      | false =>
        refine ⟨_, rfl, ?_⟩
        have e : rowD (.list ds) = false := by
          have : (ds.all fun x => inD x (0, 2)) = false := List.all_eq_false.mpr ⟨ds[i], List.getElem_mem hlt, by rw [hx]; exact Bool.false_ne_true⟩
          simp [rowD, this]
        rw [e] at q
        exact q
      | true =>
        obtain ⟨z, ez, _⟩ := inD_int hx
        refine ⟨_, rfl, i, 0, rfl, rfl, _, rfl, ?_⟩
        have nxt : (∀ k y, i = k + 1 → ds[k]? = some y → ltI y ds[i] = true) → (∃ y, [some (Av.d (.list ds)), some (.d (.int (i : Int)))] = [some (.d (.list ds)), y]) ∧ ∀ j x, j < i + 1 → ds[j]? = some x → inD x (0, 2) = true ∧ ∀ k y, j = k + 1 → ds[k]? = some y → ltI y x = true := fun hk => ⟨⟨_, rfl⟩, fun j x hj ex => by
          by_cases e : j = i
          · subst e
            rw [gx] at ex
            cases ex
            exact ⟨hx, hk⟩
          · exact h j x (by omega) ex⟩
        by_cases h0 : 0 < (i : Int)
        · obtain ⟨k, rfl⟩ : ∃ k, i = k + 1 := ⟨i - 1, by omega⟩
          have gk : ds[k]? = some ds[k] := List.getElem?_eq_getElem (by omega)
          obtain ⟨u, eu, _⟩ := inD_int (h k ds[k] (by omega) gk).1
          rw [ez] at gx
          rw [eu] at gk
          refine iteP h0 ⟨_, rfl, _, rfl, ds, _, .int z, rfl, rfl, atI_nat gx, _, rfl, _, rfl, _, 1, rfl, rfl, ds, _, .int u, rfl, rfl, ?_, z, u, rfl, rfl, _, rfl, ?_⟩
          · rw [show ((k + 1 : Nat) : Int) - 1 = (k : Int) by omega]
            exact atI_nat gk
          by_cases hz : z ≤ u
          · refine iteP hz ⟨_, rfl, ?_⟩
            have e : rowD (.list ds) = false := by
              cases ha : ascD ds with
              | false => simp [rowD, ha]
              | true =>
                have := asc_get ha gk gx
                simp only [ltI, decide_eq_true_eq] at this
                omega
            rw [e] at q
            exact q
          · refine iteN hz (nxt fun k' y e1 e2 => ?_)
            have : k' = k := by omega
            subst this
            rw [gk] at e2
            cases e2
            rw [ez]
            exact decide_eq_true (by omega)
        · exact iteN h0 (nxt fun k y e1 e2 => by omega)
    · subst e
      rw [ints_len] at h
      refine ⟨_, rfl, ?_⟩
      have h2 : (ds.all fun x => inD x (0, 2)) = true := List.all_eq_true.mpr fun x hx => by
        obtain ⟨i, hi⟩ := List.mem_iff_getElem?.mp hx
        exact (h i x (List.getElem?_eq_some_iff.mp hi).1 hi).1
      have h3 : ascD ds = true := asc_of fun i a b e1 e2 => (h (i + 1) b (List.getElem?_eq_some_iff.mp e2).1 e2).2 i a rfl e1
      simpa [rowD, h2, h3, ne] using q
  | _ => exact ⟨_, rfl, q⟩
--SPLIT
theorem okd__law_draw (T : Top w K mg) : FnOk P w K mg base CX0 1 T.a__law_draw T.d__law_draw ["_law_pool_here", "_law_many"] (spP F__law_draw) := (ok__law_draw T).imp fun vs H Q E h => spP_draw (fun ds Q q => q) h
def Rx (d : PyData) : Prop := sameD d d = true
theorem rx_int (i : Int) : Rx (.int i) := by simp [Rx, sameD]
theorem rx_all : ∀ {ds : List PyData}, (∀ d ∈ ds, Rx d) → sameAll ds ds = true
  | [], _ => rfl
  | d :: r, h => by
    rw [sameAll, Bool.and_eq_true]
    exact ⟨h d List.mem_cons_self, rx_all fun x m => h x (List.mem_cons_of_mem _ m)⟩
theorem rx_list {ds : List PyData} (h : ∀ d ∈ ds, Rx d) : Rx (.list ds) := by unfold Rx; rw [sameD]; exact rx_all h
theorem rx_tuple {ds : List PyData} (h : ∀ d ∈ ds, Rx d) : Rx (.tuple ds) := by unfold Rx; rw [sameD]; exact rx_all h
def F__law_number : FD := fun ds Q => ∃ lo hi b, ds = [.int lo, .int hi, .bool b] ∧ lo ≤ hi ∧ hi - lo < 1000 ∧ ∀ d, Ok d 3 → Rx d → Q d
theorem FM__law_number : FMono F__law_number := ⟨fun m ⟨lo, hi, b, e, h1, h2, q⟩ => ⟨lo, hi, b, e, h1, h2, fun d h r => m _ (q d h r)⟩⟩
theorem all_ok {ds : List PyData} {n : Nat} (h : OkAll ds n) {d : PyData} (m : d ∈ ds) : Ok d n := h.mem m
theorem ok__law_number (T : Top w K mg) : FnOk P w K mg base CX0 2 T.a__law_number T.d__law_number ["_law_pool_here", "_law_low", "_law_high", "_law_odd"] (spP F__law_number) := by
  refine fnP FM__law_number T.F__law_number sc__law_number (fun ds Q ⟨lo, hi, b, e, _⟩ => by rw [e]; rfl) (fun c p L hP cdv A outer s H E hr => (pdss_cons (pds_set (i := 4) (fun h => ps_set (i := 4) sc__law_number.nd rfl (Or.inl rfl) h) (pd_op (fun ha hb => pe_op op_add ha hb) dk_i0 (pd_name (pv 1)) (pd_callP hP FM__law_draw (fun h => pe_call (okd__law_draw T) hr (by rfl) T.g__law_draw T.F__law_draw.kp (b__law_draw T) .nil pass0 h) (pda_cons (pd_name (pv 0)) (pda_cons (pd_op (fun ha hb => pe_op op_add ha hb) dk_i0 (pd_op (fun ha hb => pe_op op_sub ha hb) dk_i0 (pd_name (pv 2)) (pd_name (pv 1))) pd_int) pda_nil)))))
      (pdss_cons (pds_if (pdw_t (pdw_and (pdt_val (fun h => pt_val h) (pd_name (pv 3))) (pdw_and1 (pdt_op (fun ha hb => pt_cmpR (k_eqD K (hu64 hr)) ha hb (nomark _)) dk_eq (pd_callP hP FM__law_draw (fun h => pe_call (okd__law_draw T) hr (by rfl) T.g__law_draw T.F__law_draw.kp (b__law_draw T) .nil pass0 h) (pda_cons (pd_name (pv 0)) (pda_cons pd_int pda_nil))) pd_int)))) (pdss_one (pds_ret (pd_op (fun ha hb => pe_ix (k_ixQ K) ha hb (fun _ _ => rfl)) dk_ix (pdn (pn_lst (pda_cons pd_bl (pda_cons pd_bl (pda_cons pd_non (pda_cons pd_str (pda_cons (pdn (pn_lst (pda_cons pd_int pda_nil))) pda_nil))))))) (pd_callP hP FM__law_draw (fun h => pe_call (okd__law_draw T) hr (by rfl) T.g__law_draw T.F__law_draw.kp (b__law_draw T) .nil pass0 h) (pda_cons (pd_name (pv 0)) (pda_cons pd_int pda_nil)))))) pdss_nil)
      (pdss_one (pds_ret (pd_name (pv 4))))))) (fun p ds Q ⟨lo, hi, b, e, h1, h2, q⟩ => ?_)
  subst e
  refine ⟨_, rfl, _, rfl, _, rfl, _, rfl, hi, lo, rfl, rfl, _, 1, rfl, rfl, [.int (hi - lo + 1)], rfl, _, rfl, by omega, by omega, fun r r0 r1 => ⟨lo, r, rfl, rfl, _, rfl, ?_⟩⟩
  have fin : Q (.int (lo + r)) := q _ True.intro (rx_int _)
  refine ⟨_, rfl, b, rfl, ?_⟩
  cases b with
  | false => exact ⟨_, rfl, _, rfl, fin⟩
  | true =>
    refine ⟨_, rfl, [.int 6], rfl, 6, rfl, by decide, by decide, fun s s0 s1 => ⟨_, _, rfl, rfl, shI _, shI _, _, rfl, ?_⟩⟩
    rw [eqvI]
    by_cases h : s = 0
    · refine iteP h ⟨[.int 1], rfl, by decide, [.bool true, .bool false, .none, .str "1", .list [.int 1]], rfl, by decide, _, rfl, [.int 5], rfl, 5, rfl, by decide, by decide, fun u u0 u1 => ?_⟩
      obtain ⟨d, e1, e2⟩ := atI_mem (ds := [.bool true, .bool false, .none, .str "1", .list [.int 1]]) u0 u1
      have ok : OkAll [.bool true, .bool false, .none, .str "1", .list [.int 1]] 3 := ⟨True.intro, True.intro, True.intro, (by decide +kernel : PyData.strOk "1" = true), ⟨by decide, True.intro, True.intro⟩, True.intro⟩
      refine ⟨_, u, d, rfl, rfl, e1, _, rfl, q d (ok.mem e2) ?_⟩
      simp only [List.mem_cons, List.not_mem_nil, or_false] at e2
      rcases e2 with rfl | rfl | rfl | rfl | rfl <;> simp [Rx, sameD, sameAll]
    · exact iteN h ⟨_, rfl, _, rfl, fin⟩
def goodW : List PyData := [.str "home", .str "swap", .str "undo", .str "first", .str "last", .str "ring"]
def badW : List PyData := [.str "Home", .str "", .str "swap ", .str "rings", .str "las", .none, .int 3, .bool true, .list [.str "home"], .tuple [.str "home"]]
def wordVals : List PyData := goodW ++ badW
def F__law_word : FD := fun ds Q => ds = [] ∧ ∀ x, x ∈ wordVals → Q x
theorem FM__law_word : FMono F__law_word := ⟨fun m ⟨e, q⟩ => ⟨e, fun d h => m _ (q d h)⟩⟩
theorem ok__law_word (T : Top w K mg) : FnOk P w K mg base CX0 2 T.a__law_word T.d__law_word ["_law_pool_here"] (spP F__law_word) := by
  refine fnP FM__law_word T.F__law_word sc__law_word (fun ds Q ⟨e, _⟩ => by rw [e]; rfl) (fun c p L hP cdv A outer s H E hr => (pdss_cons (pds_set (i := 1) (fun h => ps_set (i := 1) sc__law_word.nd rfl (Or.inl rfl) h) (pd_callP hP FM__law_draw (fun h => pe_call (okd__law_draw T) hr (by rfl) T.g__law_draw T.F__law_draw.kp (b__law_draw T) .nil pass0 h) (pda_cons (pd_name (pv 0)) (pda_cons pd_int pda_nil))))
      (pdss_cons (pds_if (pdt_op (fun ha hb => pt_cmpR op_lt ha hb (nomark _)) dk_b0 (pd_name (pv 1)) pd_int) (pdss_one (pds_ret (pd_op (fun ha hb => pe_ix (k_ixQ K) ha hb (fun _ _ => rfl)) dk_ix (pd_callF0 FM__law_words (pe_call0 (ok__law_words T) hr (by rfl) T.g__law_words T.F__law_words.kp (b__law_words T) .nil pass0)) (pd_op (fun ha hb => pe_op op_mod ha hb) dk_i (pd_name (pv 1)) pd_int)))) pdss_nil)
      (pdss_one (pds_ret (pd_op (fun ha hb => pe_ix (k_ixQ K) ha hb (fun _ _ => rfl)) dk_ix (pdn (pn_lst (pda_cons pd_str (pda_cons pd_str (pda_cons pd_str (pda_cons pd_str (pda_cons pd_str (pda_cons pd_non (pda_cons pd_int (pda_cons pd_bl (pda_cons (pdn (pn_lst (pda_cons pd_str pda_nil))) (pda_cons (pd_tup (pda_cons pd_str pda_nil)) pda_nil)))))))))))) (pd_callP hP FM__law_draw (fun h => pe_call (okd__law_draw T) hr (by rfl) T.g__law_draw T.F__law_draw.kp (b__law_draw T) .nil pass0 h) (pda_cons (pd_name (pv 0)) (pda_cons pd_int pda_nil))))))))) (fun p ds Q ⟨e, q⟩ => ?_)
  subst e
  refine ⟨_, rfl, [.int 12], rfl, 12, rfl, by decide, by decide, fun r r0 r1 => ⟨_, rfl, _, rfl, r, 9, rfl, rfl, _, rfl, ?_⟩⟩
  by_cases h : r < 9
  · refine iteP h ⟨[], rfl, rfl, _, rfl, r, 6, rfl, rfl, (by decide : (0 : Int) < 6), ?_⟩
    obtain ⟨d, e1, e2⟩ := atI_mem (ds := [.str "home", .str "swap", .str "undo", .str "first", .str "last", .str "ring"]) (r := r % 6) (by omega) (by show r % 6 < 6; omega)
    exact ⟨_, _, d, rfl, rfl, e1, _, rfl, q d (List.mem_append_left badW e2)⟩
  · refine iteN h ⟨[.str "home"], rfl, by decide, [.str "home"], rfl, by decide, [.str "Home", .str "", .str "swap ", .str "rings", .str "las", .none, .int 3, .bool true, .list [.str "home"], .tuple [.str "home"]], rfl, by decide, _, rfl, [.int 10], rfl, 10, rfl, by decide, by decide, fun u u0 u1 => ?_⟩
    obtain ⟨d, e1, e2⟩ := atI_mem (ds := [.str "Home", .str "", .str "swap ", .str "rings", .str "las", .none, .int 3, .bool true, .list [.str "home"], .tuple [.str "home"]]) (r := u) u0 u1
    exact ⟨_, _, d, rfl, rfl, e1, _, rfl, q d (List.mem_append_right goodW e2)⟩
def F__law_chosen : FD := fun ds Q => ds = [] ∧ ∀ x, Ok x 4 → (x = .dict [] ∨ Rx x) → Q x
theorem FM__law_chosen : FMono F__law_chosen := ⟨fun m ⟨e, q⟩ => ⟨e, fun d h r => m _ (q d h r)⟩⟩
theorem ok__law_chosen (T : Top w K mg) : FnOk P w K mg base CX0 3 T.a__law_chosen T.d__law_chosen ["_law_pool_here"] (spP F__law_chosen) := by
  refine fnP FM__law_chosen T.F__law_chosen sc__law_chosen (fun ds Q ⟨e, _⟩ => by rw [e]; rfl) (fun c p L hP cdv A outer s H E hr => (pdss_cons (pds_set (i := 1) (fun h => ps_set (i := 1) sc__law_chosen.nd rfl (Or.inr rfl) h) (pd_callP hP FM__law_draw (fun h => pe_call (okd__law_draw T) (hr.mono (by decide)) (by rfl) T.g__law_draw T.F__law_draw.kp (b__law_draw T) .nil pass0 h) (pda_cons (pd_name (pv 0)) (pda_cons pd_int pda_nil))))
      (pdss_cons (pds_if (pdt_op (fun ha hb => pt_cmpR (k_eqD K (hu64 hr)) ha hb (nomark _)) dk_eq (pd_name (pv 1)) pd_int) (pdss_one (pds_ret pd_non)) pdss_nil)
      (pdss_cons (pds_if (pdt_op (fun ha hb => pt_cmpR op_lt ha hb (nomark _)) dk_b0 (pd_name (pv 1)) pd_int) (pdss_one (pds_ret (pd_op (fun ha hb => pe_ix (k_ixQ K) ha hb (fun _ _ => rfl)) dk_ix (pdn (pn_lst (pda_cons (pdn (pn_lst (pda_cons pd_int pda_nil))) (pda_cons (pdn (pn_lst (pda_cons pd_int pda_nil))) (pda_cons (pdn (pn_lst (pda_cons pd_int pda_nil))) (pda_cons (pdn (pn_lst (pda_cons pd_int (pda_cons pd_int pda_nil)))) (pda_cons (pdn (pn_lst (pda_cons pd_int (pda_cons pd_int pda_nil)))) (pda_cons (pdn (pn_lst (pda_cons pd_int (pda_cons pd_int pda_nil)))) (pda_cons (pdn (pn_lst (pda_cons pd_int (pda_cons pd_int (pda_cons pd_int pda_nil))))) pda_nil))))))))) (pd_callP hP FM__law_draw (fun h => pe_call (okd__law_draw T) (hr.mono (by decide)) (by rfl) T.g__law_draw T.F__law_draw.kp (b__law_draw T) .nil pass0 h) (pda_cons (pd_name (pv 0)) (pda_cons pd_int pda_nil)))))) pdss_nil)
      (pdss_cons (pds_if (pdt_op (fun ha hb => pt_cmpR (k_eqD K (hu64 hr)) ha hb (nomark _)) dk_eq (pd_name (pv 1)) pd_int) (pdss_one (pds_ret (pd_op (fun ha hb => pe_ix (k_ixQ K) ha hb (fun _ _ => rfl)) dk_ix (pdn (pn_lst (pda_cons (pd_tup (pda_cons pd_int (pda_cons pd_int pda_nil))) (pda_cons pd_int (pda_cons pd_str (pda_cons pd_bl (pda_cons pd_dnew pda_nil))))))) (pd_callP hP FM__law_draw (fun h => pe_call (okd__law_draw T) (hr.mono (by decide)) (by rfl) T.g__law_draw T.F__law_draw.kp (b__law_draw T) .nil pass0 h) (pda_cons (pd_name (pv 0)) (pda_cons pd_int pda_nil)))))) pdss_nil)
      (pdss_one (pds_ret (pdn (pn_lc (vs := [2]) (fun hi hg ht he => pe_lc (own := [("_law_turn", 2)]) rfl sc__law_chosen.nd hi (blkOk_by (N := N__law_chosen) (sc := defScope s__law_chosen) (by decide +kernel)) hg ht he) (pdi_range1 (fun h => pi_range1 (by rfl) T.z_range h) (pda_cons (pd_callP hP FM__law_draw (fun h => pe_call (okd__law_draw T) (hr.mono (by decide)) (by rfl) T.g__law_draw T.F__law_draw.kp (b__law_draw T) .nil pass0 h) (pda_cons (pd_name (pv 0)) (pda_cons pd_int pda_nil))) pda_nil)) (fun _ _ _ _ _ => (pdg_name (pg_name (i := 2) sc__law_chosen.nd rfl (Or.inl rfl)) (by decide))) (fun _ _ _ _ _ => pdts_nil) (fun _ _ _ _ _ => (pd_callP hP FM__law_number (fun h => pe_call (ok__law_number T) hr (by rfl) T.g__law_number T.F__law_number.kp (b__law_number T) .nil pass0 h) (pda_cons (pd_name (pv 0)) (pda_cons (pd_un (fun h => pe_un un_neg h) dk_u pd_int) (pda_cons pd_int (pda_cons (pd_op (fun ha hb => pe_cmpR (k_eqD K (hu64 hr)) ha hb (nomark _)) dk_eq (pd_name (pv 1)) pd_int) pda_nil))))))))))))))) (fun p ds Q ⟨e, q⟩ => ?_)
  subst e
  refine ⟨_, rfl, [.int 6], rfl, 6, rfl, by decide, by decide, fun r r0 r1 => ⟨_, rfl, _, rfl, _, _, rfl, rfl, shI _, shI _, _, rfl, ?_⟩⟩
  rw [eqvI]
  by_cases h : r = 0
  · exact iteP h ⟨_, rfl, q _ True.intro (.inr rfl)⟩
  refine iteN h ⟨_, rfl, r, 3, rfl, rfl, _, rfl, ?_⟩
  by_cases h3 : r < 3
  · refine iteP h3 ⟨[.int 0], rfl, by decide, [.int 1], rfl, by decide, [.int 2], rfl, by decide, [.int 0, .int 1], rfl, by decide, [.int 0, .int 2], rfl, by decide, [.int 1, .int 2], rfl, by decide, [.int 0, .int 1, .int 2], rfl, by decide, [.list [.int 0], .list [.int 1], .list [.int 2], .list [.int 0, .int 1], .list [.int 0, .int 2], .list [.int 1, .int 2], .list [.int 0, .int 1, .int 2]], rfl, by decide, _, rfl, [.int 7], rfl, 7, rfl, by decide, by decide, fun u u0 u1 => ?_⟩
    obtain ⟨d, e1, e2⟩ := atI_mem (ds := [.list [.int 0], .list [.int 1], .list [.int 2], .list [.int 0, .int 1], .list [.int 0, .int 2], .list [.int 1, .int 2], .list [.int 0, .int 1, .int 2]]) (r := u) u0 u1
    have ok : OkAll [.list [.int 0], .list [.int 1], .list [.int 2], .list [.int 0, .int 1], .list [.int 0, .int 2], .list [.int 1, .int 2], .list [.int 0, .int 1, .int 2]] 4 := by simp [OkAll, Ok]
    refine ⟨_, _, d, rfl, rfl, e1, _, rfl, q d (ok.mem e2) (.inr ?_)⟩
    simp only [List.mem_cons, List.not_mem_nil, or_false] at e2
    rcases e2 with rfl | rfl | rfl | rfl | rfl | rfl | rfl <;> simp [Rx, sameD, sameAll]
  refine iteN h3 ⟨_, rfl, _, _, rfl, rfl, shI _, shI _, _, rfl, ?_⟩
  rw [eqvI]
  by_cases h4 : r = 3
  · refine iteP h4 ⟨[.int 0, .int 1], rfl, by decide, [.tuple [.int 0, .int 1], .int 0, .str "012", .bool true, .dict []], rfl, by decide, _, rfl, [.int 5], rfl, 5, rfl, by decide, by decide, fun u u0 u1 => ?_⟩
    obtain ⟨d, e1, e2⟩ := atI_mem (ds := [.tuple [.int 0, .int 1], .int 0, .str "012", .bool true, .dict []]) (r := u) u0 u1
    have ok : OkAll [.tuple [.int 0, .int 1], .int 0, .str "012", .bool true, .dict []] 4 := by simp only [OkAll, Ok]; exact ⟨⟨by decide, True.intro, True.intro, True.intro⟩, True.intro, by decide +kernel, True.intro, True.intro, True.intro⟩
    refine ⟨_, _, d, rfl, rfl, e1, _, rfl, q d (ok.mem e2) ?_⟩
    simp only [List.mem_cons, List.not_mem_nil, or_false] at e2
    rcases e2 with rfl | rfl | rfl | rfl | rfl <;> simp [Rx, sameD, sameAll]
  refine iteN h4 ⟨_, rfl, [.int 5], rfl, 5, rfl, by decide, by decide, fun u u0 u1 => ⟨u, rfl, by omega, by omega, ?_⟩⟩
  refine ⟨fun i acc => acc.length = i ∧ OkAll acc 3 ∧ ∀ d ∈ acc, Rx d, ⟨rfl, True.intro, fun _ h => by cases h⟩, fun i d acc hi ⟨h1, h2, h3⟩ => ?_, fun acc ⟨h1, h2, h3⟩ => ?_⟩
  · obtain ⟨hlt, rfl⟩ := ints_get hi
    refine ⟨_, rfl, 1, rfl, _, rfl, _, _, rfl, rfl, shI _, shI _, [.int (-1), .int 3, .bool _], rfl, -1, 3, _, rfl, by decide, by decide, fun d hd rd => ⟨d, rfl, by omega, ?_, ?_, ?_⟩⟩
    · rw [List.length_append, h1]
      rfl
    · exact OkAll.of fun x hx => (List.mem_append.mp hx).elim (fun m => h2.mem m) fun m => by rw [List.mem_singleton.mp m]; exact hd
    · exact fun x hx => (List.mem_append.mp hx).elim (h3 x) fun m => by rw [List.mem_singleton.mp m]; exact rd
  · rw [ints_len] at h1
    exact ⟨_, rfl, q (.list acc) ⟨by omega, h2⟩ (.inr (rx_list h3))⟩
--SPLIT
theorem good_ix {w : PyData} (h : w ∈ goodW) : ∃ j : Nat, j < 6 ∧ goodW[j]? = some w ∧ PyData.eqv w w = true ∧ ∀ i x, i < j → goodW[i]? = some x → PyData.eqv x w = false := by
  have n : ∀ {s t : Str}, (s == t) = false → PyData.eqv (.str s) (.str t) = false := fun h => by rw [eqvS]; exact h
  have e : ∀ s : Str, PyData.eqv (.str s) (.str s) = true := fun s => by rw [eqvS]; exact beq_self_eq_true s
  have b : ∀ s t : Str, s ≠ t → (s == t) = false := fun s t h => by simpa using h
  simp only [goodW, List.mem_cons, List.not_mem_nil, or_false] at h
  have get : ∀ (i : Nat) (x : PyData), goodW[i]? = some x → (i = 0 ∧ x = .str "home") ∨ (i = 1 ∧ x = .str "swap") ∨ (i = 2 ∧ x = .str "undo") ∨ (i = 3 ∧ x = .str "first") ∨ (i = 4 ∧ x = .str "last") ∨ (i = 5 ∧ x = .str "ring") := fun i x h => by
    match i, h with
    | 0, h => cases h; simp
    | 1, h => cases h; simp
    | 2, h => cases h; simp
    | 3, h => cases h; simp
    | 4, h => cases h; simp
    | 5, h => cases h; simp
    | n + 6, h => simp [goodW] at h
  rcases h with rfl | rfl | rfl | rfl | rfl | rfl
  · exact ⟨0, by decide, rfl, e _, fun i x hi _ => absurd hi (Nat.not_lt_zero _)⟩
  · refine ⟨1, by decide, rfl, e _, fun i x hi h => ?_⟩
    rcases get i x h with ⟨a, rfl⟩ | ⟨a, rfl⟩ | ⟨a, rfl⟩ | ⟨a, rfl⟩ | ⟨a, rfl⟩ | ⟨a, rfl⟩ <;> first | omega | exact n (b _ _ (by decide +kernel))
  · refine ⟨2, by decide, rfl, e _, fun i x hi h => ?_⟩
    rcases get i x h with ⟨a, rfl⟩ | ⟨a, rfl⟩ | ⟨a, rfl⟩ | ⟨a, rfl⟩ | ⟨a, rfl⟩ | ⟨a, rfl⟩ <;> first | omega | exact n (b _ _ (by decide +kernel))
  · refine ⟨3, by decide, rfl, e _, fun i x hi h => ?_⟩
    rcases get i x h with ⟨a, rfl⟩ | ⟨a, rfl⟩ | ⟨a, rfl⟩ | ⟨a, rfl⟩ | ⟨a, rfl⟩ | ⟨a, rfl⟩ <;> first | omega | exact n (b _ _ (by decide +kernel))
  · refine ⟨4, by decide, rfl, e _, fun i x hi h => ?_⟩
    rcases get i x h with ⟨a, rfl⟩ | ⟨a, rfl⟩ | ⟨a, rfl⟩ | ⟨a, rfl⟩ | ⟨a, rfl⟩ | ⟨a, rfl⟩ <;> first | omega | exact n (b _ _ (by decide +kernel))
  · refine ⟨5, by decide, rfl, e _, fun i x hi h => ?_⟩
    rcases get i x h with ⟨a, rfl⟩ | ⟨a, rfl⟩ | ⟨a, rfl⟩ | ⟨a, rfl⟩ | ⟨a, rfl⟩ | ⟨a, rfl⟩ <;> first | omega | exact n (b _ _ (by decide +kernel))
theorem bad_in {w : PyData} (h : w ∈ badW) (hs : isStr w = true) : (goodW.any fun z => PyData.eqv z w) = false := by
  have n : ∀ {s t : Str}, s ≠ t → PyData.eqv (.str s) (.str t) = false := fun h => by rw [eqvS]; simpa using h
  have all : ∀ t : Str, (∀ s ∈ (["home", "swap", "undo", "first", "last", "ring"] : List Str), s ≠ t) → (goodW.any fun z => PyData.eqv z (.str t)) = false := fun t h => by
    refine List.any_eq_false.mpr fun z hz => ?_
    simp only [goodW, List.mem_cons, List.not_mem_nil, or_false] at hz
    rcases hz with rfl | rfl | rfl | rfl | rfl | rfl <;> (rw [n (h _ (by simp))]; exact Bool.false_ne_true)
  simp only [badW, List.mem_cons, List.not_mem_nil, or_false] at h
  rcases h with rfl | rfl | rfl | rfl | rfl | rfl | rfl | rfl | rfl | rfl
  · exact all _ (by decide +kernel)
  · exact all _ (by decide +kernel)
  · exact all _ (by decide +kernel)
  · exact all _ (by decide +kernel)
  · exact all _ (by decide +kernel)
  all_goals cases hs
theorem word_sh {w : PyData} (h : w ∈ wordVals) : SeqAt.shaped w = true := by
  rcases List.mem_append.mp h with h | h
  · simp only [goodW, List.mem_cons, List.not_mem_nil, or_false] at h
    rcases h with rfl | rfl | rfl | rfl | rfl | rfl <;> exact sh_str (by decide +kernel)
  · simp only [badW, List.mem_cons, List.not_mem_nil, or_false] at h
    rcases h with rfl | rfl | rfl | rfl | rfl | rfl | rfl | rfl | rfl | rfl
    · exact sh_str (by decide +kernel)
    · exact sh_str (by decide +kernel)
    · exact sh_str (by decide +kernel)
    · exact sh_str (by decide +kernel)
    · exact sh_str (by decide +kernel)
    · simp [SeqAt.shaped, PyData.canLay0, PyData.depth]
    · exact shI _
    · exact shB _
    · have := sh_strs (ss := ["home"]) (fun s hs => by rw [List.mem_singleton.mp hs]; decide +kernel)
      simpa [SeqAt.shaped, PyData.canLay0, PyData.depth] using this
    · exact sh_strs (ss := ["home"]) (fun s hs => by rw [List.mem_singleton.mp hs]; decide +kernel)
theorem words_sh : SeqAt.shaped (.list goodW) = true := by
  have := sh_strs (ss := ["home", "swap", "undo", "first", "last", "ring"]) (by decide +kernel)
  simpa [SeqAt.shaped, PyData.canLay0, PyData.depth, goodW] using this
theorem good_any {w : PyData} (h : w ∈ goodW) : (goodW.any fun z => PyData.eqv z w) = true := by
  obtain ⟨j, _, h1, h2, _⟩ := good_ix h
  exact List.any_eq_true.mpr ⟨w, List.mem_of_getElem? h1, h2⟩
theorem good_str {w : PyData} (h : w ∈ goodW) : isStr w = true := by
  simp only [goodW, List.mem_cons, List.not_mem_nil, or_false] at h
  rcases h with rfl | rfl | rfl | rfl | rfl | rfl <;> rfl
def RowD (d : PyData) : Prop := ∃ a b, d = .tuple [a, b] ∧ (Ok a 3 ∧ Rx a) ∧ Ok b 3 ∧ Rx b
theorem RowD.ok {d : PyData} (h : RowD d) : Ok d 4 := by
  obtain ⟨a, b, rfl, ⟨h1, _⟩, h2, _⟩ := h
  exact ⟨by show (2 : Nat) ≤ _; decide, h1, h2, True.intro⟩
theorem rx_two {a b : PyData} (h1 : Rx a) (h2 : Rx b) : ∀ d ∈ [a, b], Rx d := fun d h => by
  simp only [List.mem_cons, List.not_mem_nil, or_false] at h
  rcases h with rfl | rfl
  · exact h1
  · exact h2
theorem RowD.rx {d : PyData} (h : RowD d) : Rx d := by
  obtain ⟨a, b, rfl, ⟨_, h1⟩, _, h2⟩ := h
  exact rx_tuple (rx_two h1 h2)
theorem rows_ok {ds : List PyData} (hl : ds.length ≤ 4) (h : ∀ d ∈ ds, Ok d 5) (hr : ∀ d ∈ ds, Rx d) : (Ok (.list ds) 6 ∧ Rx (.list ds)) ∧ Ok (.tuple ds) 6 ∧ Rx (.tuple ds) := by
  have : OkAll ds 5 := OkAll.of h
  exact ⟨⟨⟨by omega, this⟩, rx_list hr⟩, ⟨by omega, this⟩, rx_tuple hr⟩
def F__law_variables : FD := fun ds Q => ∃ w, ds = [w] ∧ w ∈ wordVals ∧ ∀ x, Ok x 6 → Rx x → Q x
theorem FM__law_variables : FMono F__law_variables := ⟨fun m ⟨w, e, h, q⟩ => ⟨w, e, h, fun d h r => m _ (q d h r)⟩⟩
theorem ok__law_variables (T : Top w K mg) : FnOk P w K mg base CX0 3 T.a__law_variables T.d__law_variables ["_law_pool_here", "_law_word_here"] (spP F__law_variables) := by
  refine fnP FM__law_variables T.F__law_variables sc__law_variables (fun ds Q ⟨wd, e, _⟩ => by rw [e]; rfl) (fun c p L hP cdv A outer s H E hr => (pdss_cons (pds_set (i := 2) (fun h => ps_set (i := 2) sc__law_variables.nd rfl (Or.inl rfl) h) (pd_op (fun ha hb => pe_cmpR (k_eqD K (hu64 hr)) ha hb (nomark _)) dk_eq (pd_callP hP FM__law_draw (fun h => pe_call (okd__law_draw T) (hr.mono (by decide)) (by rfl) T.g__law_draw T.F__law_draw.kp (b__law_draw T) .nil pass0 h) (pda_cons (pd_name (pv 0)) (pda_cons pd_int pda_nil))) pd_int))
      (pdss_cons (pds_set (i := 3) (fun h => ps_set (i := 3) sc__law_variables.nd rfl (Or.inl rfl) h) (pd_callP hP FM__law_draw (fun h => pe_call (okd__law_draw T) (hr.mono (by decide)) (by rfl) T.g__law_draw T.F__law_draw.kp (b__law_draw T) .nil pass0 h) (pda_cons (pd_name (pv 0)) (pda_cons pd_int pda_nil))))
      (pdss_cut (pds_if (pdw_t (pdw_and (pdt_op (fun ha hb => pt_cmpR op_gt ha hb (nomark _)) dk_b0 (pd_callP hP FM__law_draw (fun h => pe_call (okd__law_draw T) (hr.mono (by decide)) (by rfl) T.g__law_draw T.F__law_draw.kp (b__law_draw T) .nil pass0 h) (pda_cons (pd_name (pv 0)) (pda_cons pd_int pda_nil))) pd_int) (pdw_and (pdt_val (fun h => pt_val h) (pd_isi (ki_str K) (fun h => pe_callB (k_isi K) (by rfl) T.z_isinstance bt_isinstance (pa_cons h (pa_cons (pe_bltn (v := .ty "str") (by rfl) T.z_str bt_str rfl) pa_nil))) (pd_name (pv 1)))) (pdw_and1 (pdt_op (fun ha hb => pt_cmpR (k_inA K (hu65 hr)) ha hb rfl) dk_in (pd_name (pv 1)) (pd_callF0 FM__law_words (pe_call0 (ok__law_words T) (hr.mono (by decide)) (by rfl) T.g__law_words T.F__law_words.kp (b__law_words T) .nil pass0))))))) (pdss_one (pds_set (i := 3) (fun h => ps_set (i := 3) sc__law_variables.nd rfl (Or.inl rfl) h) (pd_op (fun ha hb => pe_ix (k_ixQ K) ha hb (fun _ _ => rfl)) dk_ix (pdn (pn_lst (pda_cons pd_int (pda_cons pd_int (pda_cons pd_int (pda_cons pd_int (pda_cons pd_int (pda_cons pd_int pda_nil)))))))) (pd_mt (fun h h2 => pe_bm PySem.F.plainAttrs_list PySem.F.slot_list_index PySem.F.type_list_index (k_mtIndexD K (hu65 hr)) h h2) dk_index (pd_callF0 FM__law_words (pe_call0 (ok__law_words T) (hr.mono (by decide)) (by rfl) T.g__law_words T.F__law_words.kp (b__law_words T) .nil pass0)) (pda_cons (pd_name (pv 1)) pda_nil))))) pdss_nil)
      (pdss_cons (pds_own (i := 4) (fun h => ps_set (i := 4) sc__law_variables.nd rfl (Or.inl rfl) h) (pn_lst pda_nil))
      (pdss_cut (pds_for (vs := [5]) (fun a b c => ps_for PassesOwn.never rfl a b c) (pdi_range1 (fun h => pi_range1 (by rfl) T.z_range h) (pda_cons (pd_name (pv 3)) pda_nil)) (pdg_name (pg_name (i := 5) sc__law_variables.nd rfl (Or.inl rfl)) (by decide)) (pdss_cut (pds_if (pdt_val (fun h => pt_val h) (pd_name (pv 2))) (pdss_one (pds_set (i := 6) (fun h => ps_set (i := 6) sc__law_variables.nd rfl (Or.inl rfl) h) (pd_tup (pda_cons (pd_callP hP FM__law_number (fun h => pe_call (ok__law_number T) hr (by rfl) T.g__law_number T.F__law_number.kp (b__law_number T) .nil pass0 h) (pda_cons (pd_name (pv 0)) (pda_cons (pd_un (fun h => pe_un un_neg h) dk_u pd_int) (pda_cons pd_int (pda_cons pd_bl pda_nil))))) (pda_cons (pd_callP hP FM__law_number (fun h => pe_call (ok__law_number T) hr (by rfl) T.g__law_number T.F__law_number.kp (b__law_number T) .nil pass0 h) (pda_cons (pd_name (pv 0)) (pda_cons (pd_un (fun h => pe_un un_neg h) dk_u pd_int) (pda_cons pd_int (pda_cons pd_bl pda_nil))))) pda_nil))))) (pdss_one (pds_set (i := 6) (fun h => ps_set (i := 6) sc__law_variables.nd rfl (Or.inl rfl) h) (pd_tup (pda_cons (pd_callP hP FM__law_draw (fun h => pe_call (okd__law_draw T) (hr.mono (by decide)) (by rfl) T.g__law_draw T.F__law_draw.kp (b__law_draw T) .nil pass0 h) (pda_cons (pd_name (pv 0)) (pda_cons pd_int pda_nil))) (pda_cons (pd_callP hP FM__law_draw (fun h => pe_call (okd__law_draw T) (hr.mono (by decide)) (by rfl) T.g__law_draw T.F__law_draw.kp (b__law_draw T) .nil pass0 h) (pda_cons (pd_name (pv 0)) (pda_cons pd_int pda_nil))) pda_nil))))))
        (pdss_one (pds_app (K := K) (i := 4) (fun h => ps_expr (pe_bm PySem.F.plainAttrs_list PySem.F.slot_list_append PySem.F.type_list_append mt_append (pv 4) (pa_cons h pa_nil))) (pd_name (pv 6))))))
      (pdss_cons (pds_set (i := 7) (fun h => ps_set (i := 7) sc__law_variables.nd rfl (Or.inl rfl) h) (pd_callP hP FM__law_draw (fun h => pe_call (okd__law_draw T) (hr.mono (by decide)) (by rfl) T.g__law_draw T.F__law_draw.kp (b__law_draw T) .nil pass0 h) (pda_cons (pd_name (pv 0)) (pda_cons pd_int pda_nil))))
      (pdss_cons (pds_if (pdt_op (fun ha hb => pt_cmpR (k_eqD K (hu64 hr)) ha hb (nomark _)) dk_eq (pd_name (pv 7)) pd_int) (pdss_one (pds_ret (pd_cl (fun h => pe_callTy (k_tuple K) (by rfl) T.z_tuple bt_tuple h) dk_tupOf (pda_cons (pd_name (pv 4)) pda_nil)))) pdss_nil)
      (pdss_cons (pds_if (pdw_t (pdw_and (pdt_op (fun ha hb => pt_cmpR (k_eqD K (hu64 hr)) ha hb (nomark _)) dk_eq (pd_name (pv 7)) pd_int) (pdw_and1 (pdt_tru (fun h => pt_truth h (by intro _; rfl)) (pd_name (pv 4)))))) (pdss_cons (pds_set (i := 8) (fun h => ps_set (i := 8) sc__law_variables.nd rfl (Or.inl rfl) h) (pd_callP hP FM__law_draw (fun h => pe_call (okd__law_draw T) (hr.mono (by decide)) (by rfl) T.g__law_draw T.F__law_draw.kp (b__law_draw T) .nil pass0 h) (pda_cons (pd_name (pv 0)) (pda_cons (pd_cl (fun h => pe_callB (k_len K) (by rfl) T.z_len bt_len h) dk_len (pda_cons (pd_name (pv 4)) pda_nil)) pda_nil))))
        (pdss_one (pds_put (i := 4) (fun hi hv => ps_asg hv (pg_sub (pv 4) hi set_list)) (pd_name (pv 8)) (pd_op (fun ha hb => pe_ix (k_ixQ K) ha hb (fun _ _ => rfl)) dk_ix (pdn (pn_lst (pda_cons (pdn (pn_cl (fun h => pe_callTy (k_list K) (by rfl) T.z_list bt_list h) dk_listOf (pda_cons (pd_op (fun ha hb => pe_ix (k_ixQ K) ha hb (fun _ _ => rfl)) dk_ix (pd_name (pv 4)) (pd_name (pv 8))) pda_nil))) (pda_cons (pd_op (fun ha hb => pe_op (k_catA K) ha hb) dk_catT (pd_op (fun ha hb => pe_ix (k_ixQ K) ha hb (fun _ _ => rfl)) dk_ix (pd_name (pv 4)) (pd_name (pv 8))) (pd_tup (pda_cons pd_int pda_nil))) (pda_cons (pd_slT (fun h a b => pe_slice (k_slA K) h a b) (pd_op (fun ha hb => pe_ix (k_ixQ K) ha hb (fun _ _ => rfl)) dk_ix (pd_name (pv 4)) (pd_name (pv 8))) pdo_none (pdo_some pd_int)) (pda_cons pd_int (pda_cons pd_non pda_nil))))))) (pd_callP hP FM__law_draw (fun h => pe_call (okd__law_draw T) (hr.mono (by decide)) (by rfl) T.g__law_draw T.F__law_draw.kp (b__law_draw T) .nil pass0 h) (pda_cons (pd_name (pv 0)) (pda_cons pd_int pda_nil))))))) pdss_nil)
      (pdss_one (pds_ret (pd_name (pv 4))))))))))))) (fun p ds Q ⟨wd, e, hw, q⟩ => ?_)
  subst e
  refine ⟨_, rfl, [.int 3], rfl, 3, rfl, by decide, by decide, fun r r0 r1 => ⟨_, _, rfl, rfl, shI _, shI _, _, rfl, ?_⟩⟩
  rw [eqvI]
  generalize decide (r = 0) = odd
  refine ⟨_, rfl, [.int 5], rfl, 5, rfl, by decide, by decide, fun m m0 m1 => ⟨_, rfl, ?_⟩⟩
  refine ⟨fun ρ => ∃ m : Int, 0 ≤ m ∧ m ≤ 4 ∧ ρ = [some (.v (.ref p)), some (.d wd), some (.d (.bool odd)), some (.d (.int m)), none, none, none, none, none], ?_, fun ρ ⟨m, m0, m1, e⟩ => ?_⟩
  · have skip : ∃ k : Int, 0 ≤ k ∧ k ≤ 4 ∧ ([some (.v (.ref p)), some (.d wd), some (.d (.bool odd)), some (.d (.int m)), none, none, none, none, none] : DEnv) = [some (.v (.ref p)), some (.d wd), some (.d (.bool odd)), some (.d (.int k)), none, none, none, none, none] := ⟨m, m0, by omega, rfl⟩
    refine ⟨_, rfl, [.int 4], rfl, 4, rfl, by decide, by decide, fun u u0 u1 => ⟨u, 0, rfl, rfl, _, rfl, ite2 (fun _ => ?_) (fun _ => skip)⟩⟩
    refine ⟨_, rfl, wd, rfl, _, rfl, ifB (fun hs => ?_) (fun _ => skip)⟩
    refine ⟨_, rfl, [], rfl, rfl, _, goodW, rfl, rfl, word_sh hw, words_sh, _, rfl, ifB (fun ha => ?_) (fun _ => skip)⟩
    rcases List.mem_append.mp hw with hg | hb
    · obtain ⟨j, j6, h1, h2, h3⟩ := good_ix hg
      refine ⟨[.int 1, .int 2, .int 2, .int 2, .int 2, .int 3], rfl, by decide, [], rfl, rfl, ⟨goodW, rfl⟩, _, rfl, goodW, _, wd, j, wd, rfl, rfl, rfl, word_sh hw, words_sh, h1, h2, h3, ?_⟩
      have hj : (j : Int) < 6 := by omega
      obtain ⟨d, e1, e2⟩ := atI_mem (ds := [.int 1, .int 2, .int 2, .int 2, .int 2, .int 3]) (r := (j : Int)) (by omega) hj
      have hd : ∃ k : Int, d = .int k ∧ 0 ≤ k ∧ k ≤ 4 := by
        simp only [List.mem_cons, List.not_mem_nil, or_false] at e2
        rcases e2 with rfl | rfl | rfl | rfl | rfl | rfl <;> exact ⟨_, rfl, by decide, by decide⟩
      obtain ⟨k, rfl, k0, k1⟩ := hd
      exact ⟨_, _, _, rfl, rfl, e1, _, rfl, k, k0, k1, rfl⟩
    · rw [bad_in hb hs] at ha
      cases ha
  · subst e
    refine ⟨[], rfl, (by decide), ?_⟩
    refine ⟨fun ρ => ∃ acc t u, acc.length ≤ 4 ∧ (∀ d ∈ acc, RowD d) ∧ ρ = [some (.v (.ref p)), some (.d wd), some (.d (.bool odd)), some (.d (.int m)), some (.o acc), t, u, none, none], ?_, fun ρ ⟨acc, t, u, hl, ha, e⟩ => ?_⟩
    · refine ⟨_, rfl, m, rfl, by omega, by omega, ?_⟩
      refine ⟨fun i ρ => ∃ acc t u, acc.length = i ∧ (∀ d ∈ acc, RowD d) ∧ ρ = [some (.v (.ref p)), some (.d wd), some (.d (.bool odd)), some (.d (.int m)), some (.o acc), t, u, none, none], ⟨[], none, none, rfl, (fun _ h => by cases h), rfl⟩, fun i d ρ' hi ⟨acc, t, u, hl, ha, e⟩ => ?_, fun ρ' ⟨acc, t, u, hl, ha, e⟩ => ?_⟩
      · subst e
        obtain ⟨hlt, rfl⟩ := ints_get hi
        refine ⟨fun ρ => ∃ t z, RowD z ∧ ρ = [some (.v (.ref p)), some (.d wd), some (.d (.bool odd)), some (.d (.int m)), some (.o acc), t, some (.d z), none, none], ?_, fun ρ ⟨t, z, hz, e⟩ => ?_⟩
        · refine ⟨_, rfl, _, rfl, ifB (fun _ => ?_) (fun _ => ?_)⟩
          · refine ⟨_, rfl, 1, rfl, [.int (-1), .int 4, .bool true], rfl, -1, 4, true, rfl, by decide, by decide, fun a h1 r1 => ?_⟩
            refine ⟨_, rfl, 1, rfl, [.int (-1), .int 2, .bool true], rfl, -1, 2, true, rfl, by decide, by decide, fun b h2 r2 => ?_⟩
            exact ⟨[a, b], rfl, (by show 2 ≤ 1000; decide), _, rfl, _, _, ⟨a, b, rfl, ⟨h1, r1⟩, h2, r2⟩, rfl⟩
          · refine ⟨_, rfl, [.int 3], rfl, 3, rfl, by decide, by decide, fun a a0 a1 => ?_⟩
            refine ⟨_, rfl, [.int 2], rfl, 2, rfl, by decide, by decide, fun b b0 b1 => ?_⟩
            exact ⟨[.int a, .int b], rfl, (by show 2 ≤ 1000; decide), _, rfl, _, _, ⟨.int a, .int b, rfl, ⟨(show Ok (.int a) 3 from True.intro), rx_int a⟩, (show Ok (.int b) 3 from True.intro), rx_int b⟩, rfl⟩
        · subst e
          refine ⟨acc, rfl, _, rfl, z, rfl, by omega, acc ++ [z], _, _, by rw [List.length_append, hl]; rfl, ?_, rfl⟩
          intro d hd
          exact (List.mem_append.mp hd).elim (fun m => ha d m) fun m => by rw [List.mem_singleton.mp m]; exact hz
      · subst e
        rw [ints_len] at hl
        exact ⟨acc, t, u, by omega, ha, rfl⟩
    · subst e
      refine ⟨_, rfl, [.int 12], rfl, 12, rfl, by decide, by decide, fun s s0 s1 => ⟨_, rfl, ?_⟩⟩
      have ha5 : ∀ d ∈ acc, Ok d 5 := fun d hd => (ha d hd).ok.le (by decide)
      have har : ∀ d ∈ acc, Rx d := fun d hd => (ha d hd).rx
      refine ⟨_, rfl, _, _, rfl, rfl, shI _, shI _, _, rfl, ?_⟩
      rw [eqvI]
      by_cases h0 : s = 0
      · refine iteP h0 ⟨_, rfl, _, acc, rfl, rfl, ?_⟩
        exact ⟨_, rfl, q _ (rows_ok hl ha5 har).2.1 (rows_ok hl ha5 har).2.2⟩
      refine iteN h0 ?_
      have fin : Q (.list acc) := q _ (rows_ok hl ha5 har).1.1 (rows_ok hl ha5 har).1.2
      refine ⟨_, rfl, _, _, rfl, rfl, shI _, shI _, _, rfl, ?_⟩
      rw [eqvI]
      by_cases h1 : s = 1
      · refine iteP h1 ⟨_, rfl, _, rfl, ?_⟩
        refine ifB (fun hne => ?_) (fun _ => ?_)
        · have pos : 0 < acc.length := by cases acc with | nil => cases hne | cons _ _ => exact Nat.succ_pos _
          refine ⟨_, rfl, _, rfl, _, acc, rfl, rfl, [.int acc.length], rfl, acc.length, rfl, by omega, by omega, fun v v0 v1 => ⟨_, rfl, ?_⟩⟩
          obtain ⟨d, e1, e2⟩ := atI_mem (ds := acc) v0 v1
          obtain ⟨a, b, rfl, ⟨h2, r2⟩, h3, r3⟩ := ha _ e2
          have ok : ∀ x ∈ ([.list [a, b], .tuple [a, b, .int 0], .tuple [a], .int 0, .none] : List PyData), Ok x 5 := fun x hx => by
            simp only [List.mem_cons, List.not_mem_nil, or_false] at hx
            rcases hx with rfl | rfl | rfl | rfl | rfl
            · exact ⟨(by show 2 ≤ 100; decide), h2.le (by decide), h3.le (by decide), True.intro⟩
            · exact ⟨(by show 3 ≤ 100; decide), h2.le (by decide), h3.le (by decide), True.intro, True.intro⟩
            · exact ⟨(by show 1 ≤ 100; decide), h2.le (by decide), True.intro⟩
            · exact True.intro
            · exact True.intro
          have rr : ∀ x ∈ ([.list [a, b], .tuple [a, b, .int 0], .tuple [a], .int 0, .none] : List PyData), Rx x := fun x hx => by
            simp only [List.mem_cons, List.not_mem_nil, or_false] at hx
            rcases hx with rfl | rfl | rfl | rfl | rfl
            · exact rx_list (rx_two r2 r3)
            · exact rx_tuple fun d h => (List.mem_append.mp (show d ∈ [a, b] ++ [.int 0] from h)).elim (rx_two r2 r3 d) fun h => by rw [List.mem_singleton.mp h]; exact rx_int 0
            · exact rx_tuple fun d h => by rw [List.mem_singleton.mp h]; exact r2
            · exact rx_int 0
            · rfl
          refine ⟨acc, rfl, ?_⟩
          refine ⟨_, rfl, _, rfl, acc, v, _, rfl, rfl, e1, _, [a, b], rfl, rfl, ?_⟩
          refine ⟨_, rfl, _, rfl, acc, v, _, rfl, rfl, e1, [.int 0], rfl, by decide, [a, b], [.int 0], rfl, rfl, (by show 2 + 1 ≤ 1000; decide), ?_⟩
          refine ⟨_, rfl, _, rfl, acc, v, _, rfl, rfl, e1, _, rfl, [a, b], rfl, ?_⟩
          refine ⟨[.list [a, b], .tuple [a, b, .int 0], .tuple [a], .int 0, .none], rfl, (by show 5 ≤ 1000; decide), ?_⟩
          refine ⟨_, rfl, [.int 5], rfl, 5, rfl, by decide, by decide, fun u u0 u1 => ?_⟩
          obtain ⟨x, x1, x2⟩ := atI_mem (ds := [.list [a, b], .tuple [a, b, .int 0], .tuple [a], .int 0, .none]) u0 u1
          refine ⟨_, u, x, rfl, rfl, x1, _, rfl, _, rfl, v, v.toNat, rfl, ixN_in v0 v1, ?_⟩
          have z := rows_ok (ds := acc.set v.toNat x) (by rw [List.length_set]; exact hl) (fun y hy => (List.mem_or_eq_of_mem_set hy).elim (ha5 y) fun e => by rw [e]; exact ok x x2) fun y hy => (List.mem_or_eq_of_mem_set hy).elim (har y) fun e => by rw [e]; exact rr x x2
          exact ⟨_, rfl, _, rfl, q _ z.1.1 z.1.2⟩
        · exact ⟨_, rfl, _, rfl, fin⟩
      · refine iteN h1 ?_
        exact ⟨_, rfl, _, rfl, fin⟩
--SPLIT
def intsD (l : List Int) : List PyData := l.map PyData.int
def wordOf : PyData → Option (Int × List Int × List Int)
  | .str s => (tblW.find? fun t => t.1 == s).map (·.2)
  | _ => none
def sizesL : List PyData := [.int 1, .int 2, .int 2, .int 2, .int 2, .int 3]
def leftsL : List PyData := [.list [.int 0], .list [.int 0, .int 1], .list [.int 0, .int 1], .list [.int 0, .int 1], .list [.int 0, .int 1], .list [.int 0, .int 1, .int 2]]
def rightsL : List PyData := [.list [], .list [.int 1, .int 0], .list [], .list [.int 0], .list [.int 1], .list [.int 1, .int 2, .int 0]]
def restD (m : Int) (l r : List Int) (v row : PyData) : PyData ⊕ Str :=
  if keysD v 3 m m = true then if isNo row = true then .inl (.tuple [v, .list (intsD l), .list (intsD r), .list (intsD [0, 1, 2])]) else if rowD row = true then .inl (.tuple [v, .list (intsD l), .list (intsD r), row]) else .inr "parts" else .inr "variables"
def dueOf (w v row : PyData) : PyData ⊕ Str := match wordOf w with
  | none => .inr "equation"
  | some (m, l, r) => restD m l r v row
def resD : PyData ⊕ Str → PyData
  | .inl d => .tuple [.str "told", d]
  | .inr s => .tuple [.str "refused", .str s]
theorem good_tbl {w : PyData} (h : w ∈ goodW) : ∃ m l r, wordOf w = some (m, l, r) ∧ 1 ≤ m ∧ m ≤ 3 ∧ ∃ j : Nat, goodW[j]? = some w ∧ PyData.eqv w w = true ∧ (∀ i x, i < j → goodW[i]? = some x → PyData.eqv x w = false) ∧ atI sizesL j = some (.int m) ∧ atI leftsL j = some (.list (intsD l)) ∧ atI rightsL j = some (.list (intsD r)) := by
  obtain ⟨j, j6, h1, h2, h3⟩ := good_ix h
  have six : j = 0 ∨ j = 1 ∨ j = 2 ∨ j = 3 ∨ j = 4 ∨ j = 5 := by omega
  rcases six with rfl | rfl | rfl | rfl | rfl | rfl
  · cases h1; exact ⟨1, [0], [], by decide +kernel, by decide, by decide, 0, rfl, h2, h3, rfl, rfl, rfl⟩
  · cases h1; exact ⟨2, [0, 1], [1, 0], by decide +kernel, by decide, by decide, 1, rfl, h2, h3, rfl, rfl, rfl⟩
  · cases h1; exact ⟨2, [0, 1], [], by decide +kernel, by decide, by decide, 2, rfl, h2, h3, rfl, rfl, rfl⟩
  · cases h1; exact ⟨2, [0, 1], [0], by decide +kernel, by decide, by decide, 3, rfl, h2, h3, rfl, rfl, rfl⟩
  · cases h1; exact ⟨2, [0, 1], [1], by decide +kernel, by decide, by decide, 4, rfl, h2, h3, rfl, rfl, rfl⟩
  · cases h1; exact ⟨3, [0, 1, 2], [1, 2, 0], by decide +kernel, by decide, by decide, 5, rfl, h2, h3, rfl, rfl, rfl⟩
theorem bad_tbl {w : PyData} (h : w ∈ badW) : wordOf w = none := by
  simp only [badW, List.mem_cons, List.not_mem_nil, or_false] at h
  rcases h with rfl | rfl | rfl | rfl | rfl | rfl | rfl | rfl | rfl | rfl <;> first | rfl | decide +kernel
def F__law_due : FD := fun ds Q => ∃ w v r, ds = [w, v, r] ∧ w ∈ wordVals ∧ Ok v 8 ∧ Ok r 8 ∧ Q (resD (dueOf w v r))
theorem FM__law_due : FMono F__law_due := ⟨fun m ⟨w, v, r, e, h1, h2, h3, q⟩ => ⟨w, v, r, e, h1, h2, h3, m _ q⟩⟩
theorem ok__law_due (T : Top w K mg) : FnOk P w K mg base CX0 10 T.a__law_due T.d__law_due ["_law_word_here", "_law_variables_here", "_law_row_here"] (spF F__law_due) := by
  refine fnF FM__law_due T.F__law_due sc__law_due (fun ds Q ⟨w, v, r, e, _⟩ => by rw [e]; rfl) (fun c cdv A outer s H E hr => (pdss_cons (pds_set (i := 3) (fun h => ps_set (i := 3) sc__law_due.nd rfl (Or.inl rfl) h) (pdn (pn_lst (pda_cons pd_int (pda_cons pd_int (pda_cons pd_int (pda_cons pd_int (pda_cons pd_int (pda_cons pd_int pda_nil)))))))))
      (pdss_cons (pds_set (i := 4) (fun h => ps_set (i := 4) sc__law_due.nd rfl (Or.inl rfl) h) (pdn (pn_lst (pda_cons (pdn (pn_lst (pda_cons pd_int pda_nil))) (pda_cons (pdn (pn_lst (pda_cons pd_int (pda_cons pd_int pda_nil)))) (pda_cons (pdn (pn_lst (pda_cons pd_int (pda_cons pd_int pda_nil)))) (pda_cons (pdn (pn_lst (pda_cons pd_int (pda_cons pd_int pda_nil)))) (pda_cons (pdn (pn_lst (pda_cons pd_int (pda_cons pd_int pda_nil)))) (pda_cons (pdn (pn_lst (pda_cons pd_int (pda_cons pd_int (pda_cons pd_int pda_nil))))) pda_nil)))))))))
      (pdss_cons (pds_set (i := 5) (fun h => ps_set (i := 5) sc__law_due.nd rfl (Or.inl rfl) h) (pdn (pn_lst (pda_cons (pdn (pn_lst pda_nil)) (pda_cons (pdn (pn_lst (pda_cons pd_int (pda_cons pd_int pda_nil)))) (pda_cons (pdn (pn_lst pda_nil)) (pda_cons (pdn (pn_lst (pda_cons pd_int pda_nil))) (pda_cons (pdn (pn_lst (pda_cons pd_int pda_nil))) (pda_cons (pdn (pn_lst (pda_cons pd_int (pda_cons pd_int (pda_cons pd_int pda_nil))))) pda_nil)))))))))
      (pdss_cons (pds_if (pdw_t (pdw_or (pdt_not (pdt_val (fun h => pt_val h) (pd_isi (ki_str K) (fun h => pe_callB (k_isi K) (by rfl) T.z_isinstance bt_isinstance (pa_cons h (pa_cons (pe_bltn (v := .ty "str") (by rfl) T.z_str bt_str rfl) pa_nil))) (pd_name (pv 0))))) (pdw_or1 (pdt_op (fun ha hb => pt_cmpR (k_notInA K (hu65 hr)) ha hb rfl) dk_notIn (pd_name (pv 0)) (pd_callF0 FM__law_words (pe_call0 (ok__law_words T) (hr.mono (by decide)) (by rfl) T.g__law_words T.F__law_words.kp (b__law_words T) .nil pass0)))))) (pdss_one (pds_ret (pd_tup (pda_cons pd_str (pda_cons pd_str pda_nil))))) pdss_nil)
      (pdss_cons (pds_set (i := 6) (fun h => ps_set (i := 6) sc__law_due.nd rfl (Or.inl rfl) h) (pd_mt (fun h h2 => pe_bm PySem.F.plainAttrs_list PySem.F.slot_list_index PySem.F.type_list_index (k_mtIndexD K (hu65 hr)) h h2) dk_index (pd_callF0 FM__law_words (pe_call0 (ok__law_words T) (hr.mono (by decide)) (by rfl) T.g__law_words T.F__law_words.kp (b__law_words T) .nil pass0)) (pda_cons (pd_name (pv 0)) pda_nil)))
      (pdss_cons (pds_if (pdw_t (pdw_or (pdt_not (pdt_val (fun h => pt_val h) (pd_isi (ki_list K) (fun h => pe_callB (k_isi K) (by rfl) T.z_isinstance bt_isinstance (pa_cons h (pa_cons (pe_bltn (v := .ty "list") (by rfl) T.z_list bt_list rfl) pa_nil))) (pd_name (pv 1))))) (pdw_or1 (pdt_op (fun ha hb => pt_cmpR (k_neD K (hu64 hr)) ha hb (nomark _)) dk_ne (pd_cl (fun h => pe_callB (k_len K) (by rfl) T.z_len bt_len h) dk_len (pda_cons (pd_name (pv 1)) pda_nil)) (pd_op (fun ha hb => pe_ix (k_ixQ K) ha hb (fun _ _ => rfl)) dk_ix (pd_name (pv 3)) (pd_name (pv 6))))))) (pdss_one (pds_ret (pd_tup (pda_cons pd_str (pda_cons pd_str pda_nil))))) pdss_nil)
      (pdss_cons (pds_for (vs := [7]) (fun a b c => ps_for PassesOwn.never rfl a b c) (pdi_list (K := K) (fun h => k_piL K h) (pd_name (pv 1))) (pdg_name (pg_name (i := 7) sc__law_due.nd rfl (Or.inl rfl)) (by decide)) (pdss_one (pds_if (pdt_not (pdt_val (fun h => pt_val h) (pd_callF FM__law_variable (fun h => pe_call (ok__law_variable T) (hr.mono (by decide)) (by rfl) T.g__law_variable T.F__law_variable.kp (b__law_variable T) .nil pass0 h) (pda_cons (pd_name (pv 7)) pda_nil)))) (pdss_one (pds_ret (pd_tup (pda_cons pd_str (pda_cons pd_str pda_nil))))) pdss_nil)))
      (pdss_cons (pds_if (pdt_op (fun ha hb => pt_cmpR op_isN ha hb (nomark _)) dk_isN (pd_name (pv 2)) pd_non) (pdss_one (pds_ret (pd_tup (pda_cons pd_str (pda_cons (pd_tup (pda_cons (pd_callF FM__law_copied (fun h => pe_call (ok__law_copied T) hr (by rfl) T.g__law_copied T.F__law_copied.kp (b__law_copied T) .nil pass0 h) (pda_cons (pd_name (pv 1)) pda_nil)) (pda_cons (pd_op (fun ha hb => pe_ix (k_ixQ K) ha hb (fun _ _ => rfl)) dk_ix (pd_name (pv 4)) (pd_name (pv 6))) (pda_cons (pd_op (fun ha hb => pe_ix (k_ixQ K) ha hb (fun _ _ => rfl)) dk_ix (pd_name (pv 5)) (pd_name (pv 6))) (pda_cons (pdn (pn_lst (pda_cons pd_int (pda_cons pd_int (pda_cons pd_int pda_nil))))) pda_nil))))) pda_nil))))) pdss_nil)
      (pdss_cons (pds_if (pdt_not (pdt_val (fun h => pt_val h) (pd_callF FM__law_row (fun h => pe_call (ok__law_row T) (hr.mono (by decide)) (by rfl) T.g__law_row T.F__law_row.kp (b__law_row T) .nil pass0 h) (pda_cons (pd_name (pv 2)) pda_nil)))) (pdss_one (pds_ret (pd_tup (pda_cons pd_str (pda_cons pd_str pda_nil))))) pdss_nil)
      (pdss_one (pds_ret (pd_tup (pda_cons pd_str (pda_cons (pd_tup (pda_cons (pd_callF FM__law_copied (fun h => pe_call (ok__law_copied T) hr (by rfl) T.g__law_copied T.F__law_copied.kp (b__law_copied T) .nil pass0 h) (pda_cons (pd_name (pv 1)) pda_nil)) (pda_cons (pd_op (fun ha hb => pe_ix (k_ixQ K) ha hb (fun _ _ => rfl)) dk_ix (pd_name (pv 4)) (pd_name (pv 6))) (pda_cons (pd_op (fun ha hb => pe_ix (k_ixQ K) ha hb (fun _ _ => rfl)) dk_ix (pd_name (pv 5)) (pd_name (pv 6))) (pda_cons (pd_callF FM__law_copied (fun h => pe_call (ok__law_copied T) hr (by rfl) T.g__law_copied T.F__law_copied.kp (b__law_copied T) .nil pass0 h) (pda_cons (pd_name (pv 2)) pda_nil)) pda_nil))))) pda_nil))))))))))))))) (fun ds Q ⟨wd, v, row, e, hw, hv, hrow, q⟩ => ?_)
  subst e
  refine ⟨sizesL, rfl, (by decide), _, rfl, ?_⟩
  refine ⟨[.int 0], rfl, (by decide), [.int 0, .int 1], rfl, (by decide), [.int 0, .int 1], rfl, (by decide), [.int 0, .int 1], rfl, (by decide), [.int 0, .int 1], rfl, (by decide), [.int 0, .int 1, .int 2], rfl, (by decide), leftsL, rfl, (by decide), _, rfl, ?_⟩
  refine ⟨[], rfl, (by decide), [.int 1, .int 0], rfl, (by decide), [], rfl, (by decide), [.int 0], rfl, (by decide), [.int 1], rfl, (by decide), [.int 1, .int 2, .int 0], rfl, (by decide), rightsL, rfl, (by decide), _, rfl, ?_⟩
  rcases List.mem_append.mp hw with hg | hb
  · obtain ⟨m, l, r, ew, m1, m3, j, g1, g2, g3, t1, t2, t3⟩ := good_tbl hg
    have eq : dueOf wd v row = restD m l r v row := by unfold dueOf; rw [ew]
    rw [eq] at q
    refine ⟨_, rfl, _, rfl, _, rfl, ?_⟩
    rw [good_str hg]
    refine ⟨_, rfl, [], rfl, rfl, _, goodW, rfl, rfl, word_sh hw, words_sh, _, rfl, ?_⟩
    rw [good_any hg]
    refine ⟨[], rfl, rfl, ⟨goodW, rfl⟩, _, rfl, goodW, _, wd, j, wd, rfl, rfl, rfl, word_sh hw, words_sh, g1, g2, g3, _, rfl, ?_⟩
    refine ⟨_, rfl, _, rfl, _, rfl, ?_⟩
    have noV : keysD v 3 m m = false → Q (.tuple [.str "refused", .str "variables"]) := fun h => by
      unfold restD at q
      rw [h] at q
      exact q
    cases hl : isLs v with
    | false =>
      refine ⟨[.str "refused", .str "variables"], rfl, (by decide), _, rfl, noV ?_⟩
      cases v <;> first | rfl | cases hl
    | true =>
    match v, hl with
    | .list vs, _ =>
    refine ⟨_, rfl, _, vs, rfl, rfl, ?_⟩
    refine ⟨_, rfl, _, rfl, sizesL, j, _, rfl, rfl, t1, ?_⟩
    refine ⟨_, _, rfl, rfl, shI _, shI _, _, rfl, ?_⟩
    rw [eqvI]
    by_cases hm : (vs.length : Int) = m
    · rw [decide_eq_true hm]
      refine ⟨_, rfl, vs, rfl, ?_⟩
      refine ⟨fun i ρ => ∃ t, (∀ d ∈ vs.take i, keyD d 3 = true) ∧ ρ = [some (.d wd), some (.d (.list vs)), some (.d row), some (.d (.list sizesL)), some (.d (.list leftsL)), some (.d (.list rightsL)), some (.d (.int j)), t], ⟨none, (fun _ h => by cases h), rfl⟩, fun i d ρ' hi ⟨t, hk, e⟩ => ?_, fun ρ' ⟨t, hk, e⟩ => ?_⟩
      · subst e
        refine ⟨_, rfl, [d], rfl, d, rfl, _, rfl, ?_⟩
        cases hd : keyD d 3 with
        | false =>
          refine ⟨[.str "refused", .str "variables"], rfl, (by decide), _, rfl, noV ?_⟩
          simp only [keysD]
          rw [List.all_eq_false.mpr ⟨d, List.mem_of_getElem? hi, by rw [hd]; decide⟩, Bool.and_false]
        | true =>
          refine ⟨_, fun x hx => ?_, rfl⟩
          rw [List.take_add_one, hi] at hx
          exact (List.mem_append.mp hx).elim (hk x) fun m => by rw [List.mem_singleton.mp m]; exact hd
      · subst e
        rw [List.take_length] at hk
        have yes : keysD (.list vs) 3 m m = true := by
          simp only [keysD]
          rw [decide_eq_true (show m ≤ (vs.length : Int) by omega), decide_eq_true (show (vs.length : Int) ≤ m by omega), List.all_eq_true.mpr hk]
          rfl
        unfold restD at q
        rw [yes, if_pos rfl] at q
        refine ⟨_, rfl, row, rfl, rfl, _, rfl, ?_⟩
        cases hn : isNo row with
        | true =>
          rw [hn, if_pos rfl] at q
          refine ⟨_, rfl, [.list vs], rfl, _, rfl, hv, ?_⟩
          refine ⟨_, rfl, _, rfl, leftsL, j, _, rfl, rfl, t2, ?_⟩
          refine ⟨_, rfl, _, rfl, rightsL, j, _, rfl, rfl, t3, ?_⟩
          refine ⟨[.int 0, .int 1, .int 2], rfl, (by decide), ?_⟩
          refine ⟨[.list vs, .list (intsD l), .list (intsD r), .list (intsD [0, 1, 2])], rfl, (by show 4 ≤ 1000; decide), ?_⟩
          exact ⟨[.str "told", .tuple [.list vs, .list (intsD l), .list (intsD r), .list (intsD [0, 1, 2])]], rfl, (by show 2 ≤ 1000; decide), _, rfl, q⟩
        | false =>
          rw [hn, if_neg Bool.false_ne_true] at q
          refine ⟨_, rfl, [row], rfl, row, rfl, hrow, _, rfl, ?_⟩
          cases hr : rowD row with
          | false =>
            rw [hr, if_neg Bool.false_ne_true] at q
            exact ⟨[.str "refused", .str "parts"], rfl, (by decide), _, rfl, q⟩
          | true =>
            rw [hr, if_pos rfl] at q
            refine ⟨_, rfl, [.list vs], rfl, _, rfl, hv, ?_⟩
            refine ⟨_, rfl, _, rfl, leftsL, j, _, rfl, rfl, t2, ?_⟩
            refine ⟨_, rfl, _, rfl, rightsL, j, _, rfl, rfl, t3, ?_⟩
            refine ⟨_, rfl, [row], rfl, _, rfl, hrow, ?_⟩
            refine ⟨[.list vs, .list (intsD l), .list (intsD r), row], rfl, (by show 4 ≤ 1000; decide), ?_⟩
            exact ⟨[.str "told", .tuple [.list vs, .list (intsD l), .list (intsD r), row]], rfl, (by show 2 ≤ 1000; decide), _, rfl, q⟩
    · have no : keysD (.list vs) 3 m m = false := by
        simp only [keysD]
        by_cases h1 : m ≤ vs.length
        · rw [decide_eq_false (show ¬ (vs.length : Int) ≤ m by omega)]
          simp
        · rw [decide_eq_false h1]
          rfl
      rw [decide_eq_false hm]
      exact ⟨[.str "refused", .str "variables"], rfl, (by decide), _, rfl, noV no⟩
  · have q : Q (.tuple [.str "refused", .str "equation"]) := by
      unfold dueOf at q
      rw [bad_tbl hb] at q
      exact q
    refine ⟨_, rfl, _, rfl, _, rfl, ?_⟩
    cases hs : isStr wd with
    | false => exact ⟨[.str "refused", .str "equation"], rfl, (by decide), _, rfl, q⟩
    | true =>
      refine ⟨_, rfl, [], rfl, rfl, _, goodW, rfl, rfl, word_sh hw, words_sh, _, rfl, ?_⟩
      rw [bad_in hb hs]
      exact ⟨[.str "refused", .str "equation"], rfl, (by decide), _, rfl, q⟩
--SPLIT
theorem ok_NoEquation___init__ (T : Top w K mg) : FnOk P w K mg base CX0 1 T.a_NoEquation___init__ T.d_NoEquation___init__ ["self", "place"] (sp1 T.C_NoEquation "place") := by
  refine T.F_NoEquation___init__.ok sc_NoEquation___init__ (fun vs H Q E h => ?_) (fun cdv A outer s H vs Q E hr h => ?_)
  · obtain ⟨a, x, rfl, _⟩ := h
    rfl
  · obtain ⟨a, x, rfl, ha, q⟩ := h
    refine ⟨_, (pss_one (ps_ost (pv 0) (pv 1))), ?_⟩
    refine ⟨_, rfl, _, rfl, a, T.C_NoEquation, rfl, T.O_NoEquation, T.no_NoEquation_place, .inl ⟨ha, fun dx nd ne => q dx nd ne⟩⟩
/-- an equation as named gives it: a tuple of four lists, all new, with nothing else in them that may change -/
def Four (H H' : Hp) (d : PyData) (t : V) : Prop := ∃ (ta a1 a2 a3 a4 : Addr) (d1 d2 d3 d4 : List PyData) (x1 x2 x3 x4 : List V), d = .tuple [.list d1, .list d2, .list d3, .list d4] ∧ t = .ref ta ∧ H' ta = some (.tup [.ref a1, .ref a2, .ref a3, .ref a4]) ∧ (H' a1 = some (.lst x1) ∧ H' a2 = some (.lst x2) ∧ H' a3 = some (.lst x3) ∧ H' a4 = some (.lst x4)) ∧
  (TrAll (fun _ => False) H' d1 x1 ∧ TrAll (fun _ => False) H' d2 x2 ∧ TrAll (fun _ => False) H' d3 x3 ∧ TrAll (fun _ => False) H' d4 x4) ∧ (H a1 = none ∧ H a2 = none ∧ H a3 = none ∧ H a4 = none) ∧ [a1, a2, a3, a4].Nodup
def sp_named (C : Addr) : Sp := fun vs H Q E => ∃ S wd v row, TrAll S H [wd, v, row] vs ∧ wd ∈ wordVals ∧ Ok v 8 ∧ Ok row 8 ∧ match dueOf wd v row with
  | .inl d => ∀ t H', Same H H' → Four H H' d t → Q t H'
  | .inr s => ∀ dx H', Same H H' → H dx = none → H' dx = some (.xd [("place", .str s)]) → E (.ref C) (some dx) H'
theorem four_mk {H H1 : Hp} (s : Same H H1) {d1 d2 d3 d4 : List PyData} {x1 x2 x3 x4 : List V} (t1 : TrAll (fun _ => False) H1 d1 x1) (t2 : TrAll (fun _ => False) H1 d2 x2) (t3 : TrAll (fun _ => False) H1 d3 x3) (t4 : TrAll (fun _ => False) H1 d4 x4)
    {p1 p2 p3 p4 p : Addr} {H2 H3 H4 H5 H6 : Hp} (n1 : H1 p1 = none) (e2 : H2 = upd H1 p1 (.lst x1)) (n2 : H2 p2 = none) (e3 : H3 = upd H2 p2 (.lst x2)) (n3 : H3 p3 = none) (e4 : H4 = upd H3 p3 (.lst x3)) (n4 : H4 p4 = none) (e5 : H5 = upd H4 p4 (.lst x4)) (n5 : H5 p = none) (e6 : H6 = upd H5 p (.tup [.ref p1, .ref p2, .ref p3, .ref p4])) :
    Same H H6 ∧ Four H H6 (.tuple [.list d1, .list d2, .list d3, .list d4]) (.ref p) := by
  have s1 : Same H1 H2 := by rw [e2]; exact same_upd n1
  have s2 : Same H2 H3 := by rw [e3]; exact same_upd n2
  have s3 : Same H3 H4 := by rw [e4]; exact same_upd n3
  have s4 : Same H4 H5 := by rw [e5]; exact same_upd n4
  have s5 : Same H5 H6 := by rw [e6]; exact same_upd n5
  have a1 : H2 p1 = some (.lst x1) := by rw [e2]; exact upd_same
  have a2 : H3 p2 = some (.lst x2) := by rw [e3]; exact upd_same
  have a3 : H4 p3 = some (.lst x3) := by rw [e4]; exact upd_same
  have a4 : H5 p4 = some (.lst x4) := by rw [e5]; exact upd_same
  have al := (((s1.trans s2).trans s3).trans s4).trans s5
  have fr : ∀ {A B : Hp} {a : Addr}, Same A B → B a = none → A a = none := fun {A B a} s n => by
    cases h : A a with
    | none => rfl
    | some o => rw [s a o h] at n; cases n
  have m2 := fr s1 n2
  have m3 := fr (s1.trans s2) n3
  have m4 := fr ((s1.trans s2).trans s3) n4
  have ne : ∀ {A : Hp} {a b : Addr} {o : HO}, A a = some o → A b = none → a ≠ b := fun h n e => by rw [e, n] at h; cases h
  refine ⟨s.trans al, p, p1, p2, p3, p4, d1, d2, d3, d4, x1, x2, x3, x4, rfl, rfl, by rw [e6]; exact upd_same, ⟨(((s2.trans s3).trans s4).trans s5) _ _ a1, ((s3.trans s4).trans s5) _ _ a2, (s4.trans s5) _ _ a3, s5 _ _ a4⟩, ⟨t1.same al, t2.same al, t3.same al, t4.same al⟩, ⟨fr s n1, fr s m2, fr s m3, fr s m4⟩, ?_⟩
  have b1 := s2 _ _ a1
  have b2 := s3 _ _ a2
  have c1 := s3 _ _ b1
  simp only [List.nodup_cons, List.mem_cons, List.not_mem_nil, or_false, not_or, not_false_eq_true, List.nodup_nil, and_true]
  exact ⟨⟨ne a1 n2, ne b1 n3, ne c1 n4⟩, ⟨ne a2 n3, ne b2 n4⟩, ne a3 n4⟩
theorem key_free {S S' : Addr → Prop} {H : Hp} {d : PyData} {x : V} {n : Int} (h : keyD d n = true) (t : Tr S H d x) : Tr S' H d x := by
  match d, h with
  | .tuple [a, b], h =>
    have h : (inD a (0, n - 1) && inD b (0, 1)) = true := h
    rw [Bool.and_eq_true] at h
    obtain ⟨i, rfl, _⟩ := inD_int h.1
    obtain ⟨j, rfl, _⟩ := inD_int h.2
    exact t
theorem all_free {S S' : Addr → Prop} {H : Hp} : ∀ {ds : List PyData} {xs : List V}, (∀ d ∈ ds, ∀ x, Tr S H d x → Tr S' H d x) → TrAll S H ds xs → TrAll S' H ds xs
  | [], _, _, t => t
  | d :: r, _, h, ⟨x, q, e, t, u⟩ => ⟨x, q, e, h d List.mem_cons_self x t, all_free (fun d m => h d (List.mem_cons_of_mem _ m)) u⟩
theorem keys_free {S S' : Addr → Prop} {H : Hp} {d : PyData} {x : V} {n a b : Int} (h : keysD d n a b = true) (t : Tr S H d x) : ∃ ds p ys, d = .list ds ∧ x = .ref p ∧ H p = some (.lst ys) ∧ TrAll S' H ds ys := by
  match d, h with
  | .list ds, h =>
    obtain ⟨p, ys, e, _, l, u⟩ := t
    simp only [keysD, Bool.and_eq_true] at h
    exact ⟨ds, p, ys, rfl, e, l, all_free (fun d m x t => key_free (List.all_eq_true.mp h.2 d m) t) u⟩
theorem row_free {S S' : Addr → Prop} {H : Hp} {d : PyData} {x : V} (h : rowD d = true) (t : Tr S H d x) : ∃ ds p ys, d = .list ds ∧ x = .ref p ∧ H p = some (.lst ys) ∧ TrAll S' H ds ys := by
  match d, h with
  | .list ds, h =>
    obtain ⟨p, ys, e, _, l, u⟩ := t
    simp only [rowD, Bool.and_eq_true] at h
    exact ⟨ds, p, ys, rfl, e, l, all_free (fun d m x t => by
      obtain ⟨z, rfl, _⟩ := inD_int (List.all_eq_true.mp h.2.1 d m)
      exact t) u⟩
theorem word_str {wd : PyData} (h : wd ∈ wordVals) (hs : isStr wd = true) : ∃ s, wd = .str s ∧ ((∃ m l r, wordOf wd = some (m, l, r) ∧ (s, m, l, r) ∈ tblW) ∨ (wordOf wd = none ∧ s ∈ noWords)) := by
  match wd, hs with
  | .str s, _ =>
    refine ⟨s, rfl, ?_⟩
    rcases List.mem_append.mp h with hg | hb
    · obtain ⟨m, l, r, e, _⟩ := good_tbl hg
      have e1 : (tblW.find? fun t => t.1 == s).map (·.2) = some (m, l, r) := e
      obtain ⟨t, ht, e2⟩ := Option.map_eq_some_iff.mp e1
      have h1 := List.mem_of_find?_eq_some ht
      have h2 : t.1 = s := by simpa using List.find?_some ht
      refine .inl ⟨m, l, r, e, ?_⟩
      rw [← h2, ← e2]
      exact h1
    · refine .inr ⟨bad_tbl hb, ?_⟩
      simp only [badW, List.mem_cons, List.not_mem_nil, or_false, PyData.str.injEq, reduceCtorEq] at hb
      simpa only [noWords, List.mem_cons, List.not_mem_nil, or_false] using hb
theorem due_no {wd v row : PyData} (h : wd ∈ wordVals) (hs : isStr wd = false) : dueOf wd v row = .inr "equation" := by
  rcases List.mem_append.mp h with hg | hb
  · rw [good_str hg] at hs
    cases hs
  · unfold dueOf
    rw [bad_tbl hb]
theorem ok_named (T : Top w K mg) : FnOk P w K mg base (L2.CX P w) 6 T.a_named T.d_named ["word", "variables", "parts"] (sp_named T.C_NoEquation) := by
  refine T.F_named.okX sc_named (fun vs H Q E h => ?_) (fun cdv A outer s H vs Q E hr h => ?_)
  · obtain ⟨S, wd, v, row, t, _⟩ := h
    rw [t.len]
    rfl
  · obtain ⟨S, wd, v, row, t, hw, hv, hr0, q⟩ := h
    obtain ⟨xw, _, rfl, tw, xv, _, rfl, tv, xr, _, rfl, tr, rfl⟩ := t
    refine ⟨_, (pss_cons (ps_if (PW.pt (pw_or (pt_not (pt_val (pe_callB (k_isi K) (by rfl) T.z_isinstance bt_isinstance (pa_cons (pv 0) (pa_cons (pe_bltn (v := .ty "str") (by rfl) T.z_str bt_str rfl) pa_nil))))) (pw_or1 (pt_cmpR (op_notIn_kd T.D_W) (pv 0) (C8.pe_gc rfl T.c_WORDS) rfl)))) (pss_one (ps_raise rfl (takes_of rfl rfl rfl rfl) (pmk_oex T.O_NoEquation T.io_NoEquation T.to_NoEquation (ok_NoEquation___init__ T) (hr.mono (by decide)) (b_NoEquation___init__ T) .nil pass0 (by rfl) T.g_NoEquation (pa_cons pe_str pa_nil)))) pss_nil)
      (pss_cons (ps_asg (pe_ix ix_kdict (C8.pe_gc rfl T.c_WORDS) (pv 0) (fun _ _ => rfl)) (pg_tup rfl (pgs_cons (pg_name (i := 3) sc_named.nd rfl (Or.inl rfl)) (pgs_cons (pg_name (i := 4) sc_named.nd rfl (Or.inl rfl)) (pgs_cons (pg_name (i := 5) sc_named.nd rfl (Or.inl rfl)) pgs_nil)))))
      (pss_cons (ps_if (pt_not (pt_val (pe_call (ok_are_keys T) hr (by rfl) T.g_are_keys T.F_are_keys.kp (b_are_keys T) .nil pass0 (pa_cons (pv 1) (pa_cons (C8.pe_gc rfl T.c_MOST_PROCEDURES) (pa_cons (pv 3) (pa_cons (pv 3) pa_nil))))))) (pss_one (ps_raise rfl (takes_of rfl rfl rfl rfl) (pmk_oex T.O_NoEquation T.io_NoEquation T.to_NoEquation (ok_NoEquation___init__ T) (hr.mono (by decide)) (b_NoEquation___init__ T) .nil pass0 (by rfl) T.g_NoEquation (pa_cons pe_str pa_nil)))) pss_nil)
      (pss_cons (ps_if (PW.pt (pw_and (pt_cmpR op_notN (pv 2) pe_non (nomark _)) (pw_and1 (pt_not (pt_val (pe_call (ok_are_parts T) (hr.mono (by decide)) (by rfl) T.g_are_parts T.F_are_parts.kp (b_are_parts T) .nil pass0 (pa_cons (pv 2) pa_nil))))))) (pss_one (ps_raise rfl (takes_of rfl rfl rfl rfl) (pmk_oex T.O_NoEquation T.io_NoEquation T.to_NoEquation (ok_NoEquation___init__ T) (hr.mono (by decide)) (b_NoEquation___init__ T) .nil pass0 (by rfl) T.g_NoEquation (pa_cons pe_str pa_nil)))) pss_nil)
      (pss_one (ps_ret (pe_tup (pa_cons (pe_callTy (k_list K) (by rfl) T.z_list bt_list (pa_cons (pv 1) pa_nil)) (pa_cons (pe_callTy (k_list K) (by rfl) T.z_list bt_list (pa_cons (pv 4) pa_nil)) (pa_cons (pe_callTy (k_list K) (by rfl) T.z_list bt_list (pa_cons (pv 5) pa_nil)) (pa_cons (pe_ifExp (pt_cmpR op_isN (pv 2) pe_non (nomark _)) (pe_lst (pa_cons pe_int (pa_cons pe_int (pa_cons pe_int pa_nil)))) (pe_callTy (k_list K) (by rfl) T.z_list bt_list (pa_cons (pv 2) pa_nil))) pa_nil))))))))))), ?_⟩
    have no : ∀ (s : Str) (σ : L2.St), dueOf wd v row = .inr s → ∀ H1, Same H H1 → tMkO T.C_NoEquation (sp1 T.C_NoEquation "place") [] (tCons (tC (.str s)) tNil) σ H1 fun cls d H' => E cls d H' := fun s σ e H1 sm => by
      rw [e] at q
      refine ⟨by show 1 ≤ 1000; decide, mk1 [.str s] H1 _ rfl fun d fs H' s2 nd hd ef => ?_⟩
      subst ef
      refine q d H' (fun b o h => s2 b o (sm b o h)) ?_ hd
      cases h : H d with
      | none => rfl
      | some o => rw [sm d o h] at nd; cases nd
    refine ⟨_, rfl, _, _, _, _, _, rfl, .ty _, tr_ty K tw, ki_str K _, _, rfl, ?_⟩
    cases hs : isStr wd with
    | false => exact no _ [] (due_no hw hs) H (fun _ _ h => h)
    | true =>
      obtain ⟨s, e, k⟩ := word_str hw hs
      subst e
      have e : xw = .str s := tw
      subst e
      rcases k with ⟨m, l, r, ew, mem⟩ | ⟨ew, mem⟩
      · obtain ⟨ab, al, ar, KD, qb, ql, qr⟩ := T.W_ok _ mem
        obtain ⟨es, n, u, k1, k2, k3, k4⟩ := KD
        refine ⟨_, rfl, s, some u, rfl, rfl, k3, _, rfl, ?_⟩
        refine ⟨_, rfl, _, s, _, rfl, rfl, ⟨es, n, u, k1, k2, k3, k4⟩, ab, _, rfl, qb H, rfl, ?_⟩
        refine ⟨_, _, rfl, _, _, rfl, _, _, rfl, rfl, ?_⟩
        have m3 : m ≤ 1000 := by
          simp only [tblW, List.mem_cons, List.not_mem_nil, or_false, Prod.mk.injEq] at mem
          omega
        have due : dueOf (.str s) v row = restD m l r v row := by unfold dueOf; rw [ew]
        refine ⟨_, rfl, _, rfl, _, rfl, S, [v, .int 3, .int m, .int m], ⟨xv, _, rfl, tv, TrAll.cons rfl (TrAll.cons rfl (TrAll.one rfl))⟩, v, 3, m, m, rfl, m3, fun b1 H1 s1 t1 => ?_⟩
        cases t1
        refine ⟨_, rfl, ?_⟩
        cases hk : keysD v 3 m m with
        | false => exact no _ [] (by rw [due]; unfold restD; rw [hk]; rfl) H1 s1
        | true =>
        refine ⟨_, rfl, rfl, _, rfl, ?_⟩
        rw [isNo_tr tr]
        rw [due] at q
        unfold restD at q
        rw [hk, if_pos rfl] at q
        obtain ⟨vs, pv_, ys, rfl, rfl, lv, tvs⟩ := keys_free (S' := fun _ => False) hk tv
        cases hn : isNo row with
        | true =>
          rw [hn, if_pos rfl] at q
          refine ⟨_, rfl, pv_, ys, rfl, sqv (.inl (s1 _ _ lv)), fun p1 n1 => ?_⟩
          refine ⟨_, rfl, al, l.map V.int, rfl, .inr (ql _), fun p2 n2 => ?_⟩
          refine ⟨_, rfl, ar, r.map V.int, rfl, .inr (qr _), fun p3 n3 => ?_⟩
          refine ⟨_, rfl, rfl, _, rfl, ?_⟩
          rw [isNo_tr tr, hn]
          refine ⟨by show 3 ≤ sizeLine; decide, fun p4 n4 => ⟨by show 4 ≤ sizeLine; decide, fun p np => ?_⟩⟩
          obtain ⟨z1, z2⟩ := four_mk s1 (tvs.same s1) (TrAll.ofInts l) (TrAll.ofInts r) (TrAll.ofInts [0, 1, 2]) n1 rfl n2 rfl n3 rfl n4 rfl np rfl
          exact q _ _ z1 z2
        | false =>
          rw [hn, if_neg Bool.false_ne_true] at q
          refine ⟨_, rfl, S, [row], ⟨xr, _, rfl, tr.same s1, rfl⟩, row, rfl, fun b2 H2 s2 t2 => ?_⟩
          cases t2
          refine ⟨_, rfl, ?_⟩
          have s12 := s1.trans s2
          cases hr : rowD row with
          | false => exact no _ [] (by rw [due]; unfold restD; rw [hk, if_pos rfl, hn, if_neg Bool.false_ne_true, hr]; rfl) H2 s12
          | true =>
            rw [hr, if_pos rfl] at q
            obtain ⟨rs, pr, zs, rfl, rfl, lr, trs⟩ := row_free (S' := fun _ => False) hr tr
            refine ⟨_, rfl, pv_, ys, rfl, sqv (.inl (s12 _ _ lv)), fun p1 n1 => ?_⟩
            refine ⟨_, rfl, al, l.map V.int, rfl, .inr (ql _), fun p2 n2 => ?_⟩
            refine ⟨_, rfl, ar, r.map V.int, rfl, .inr (qr _), fun p3 n3 => ?_⟩
            refine ⟨_, rfl, rfl, _, rfl, ?_⟩
            refine ⟨_, rfl, pr, zs, rfl, sqv (.inl ?_), fun p4 n4 => ⟨by show 4 ≤ sizeLine; decide, fun p np => ?_⟩⟩
            · exact ((same_upd n1).trans ((same_upd n2).trans (same_upd n3))) _ _ (s12 _ _ lr)
            · obtain ⟨z1, z2⟩ := four_mk s12 (tvs.same s12) (TrAll.ofInts l) (TrAll.ofInts r) (trs.same s12) n1 rfl n2 rfl n3 rfl n4 rfl np rfl
              exact q _ _ z1 z2
      · refine ⟨_, rfl, s, none, rfl, rfl, T.W_no s mem, _, rfl, ?_⟩
        exact no _ [] (by unfold dueOf; rw [ew]) H (fun _ _ h => h)
--SPLIT
def sp__law_asked : Sp := fun vs H Q E => ∃ S wd v row b xw xv xr, vs = [xw, xv, xr, .bl b] ∧ TrAll S H [wd, v, row] [xw, xv, xr] ∧ wd ∈ wordVals ∧ Ok v 8 ∧ Ok row 8 ∧ (b = true → row = .none) ∧ match dueOf wd v row with
  | .inl d => ∀ q t H' H2, Same H H' → Four H H' d t → H' q = none → H2 = upd H' q (.tup [.str "told", t]) → Q (.ref q) H2
  | .inr s => ∀ q H', Same H H' → H' q = some (.tup [.str "refused", .str s]) → Q (.ref q) H'
theorem bt_ValueError : bootBuiltins "ValueError" = some (.type "ValueError") := by decide +kernel
theorem ok__law_asked (T : Top w K mg) : FnOk P w K mg base CX0 7 T.a__law_asked T.d__law_asked ["_law_word_here", "_law_variables_here", "_law_row_here", "_law_plain"] sp__law_asked := by
  refine T.F__law_asked.ok sc__law_asked (fun vs H Q E h => ?_) (fun cdv A outer s H vs Q E hr h => ?_)
  · obtain ⟨S, wd, v, row, b, xw, xv, xr, rfl, _⟩ := h
    rfl
  · obtain ⟨S, wd, v, row, b, xw, xv, xr, rfl, t, hw, hv, hr0, hb, q⟩ := h
    refine ⟨_, (pss_cons (ps_set (i := 4) sc__law_asked.nd rfl (Or.inl rfl) pe_non)
      (pss_cons (ps_set (i := 5) sc__law_asked.nd rfl (Or.inl rfl) pe_non)
      (pss_cons (ps_set (i := 6) sc__law_asked.nd rfl (Or.inl rfl) pe_bl)
      (pss_cons (ps_try_as (i := 7) (tb := fun W => tIfS (tB (tVar 3)) (tAsg (tCallSD (sp_named T.C_NoEquation) [.non] (WE W) (tCons (tVar 0) (tCons (tVar 1) tNil))) (gName 5)) (tAsg (tCallNS 2 1 (sp_named T.C_NoEquation) (fun us ws => us ++ ws) (WE W) (tCons (tVar 0) (tCons (tVar 1) tNil)) (tCons (tVar 2) tNil)) (gName 5))) (ts := fun a cls d => tSeq (tAsg (tXf a cls d T.C_NoEquation "place" (tVar 7)) (gName 4)) (tAsg (tAndV (tCB (rIsX K T.C_NoEquation a cls d) (tCons (tVar 7) (tCons (tC (.ref T.a_HomeError)) tNil))) (tCB (rIsX K T.C_NoEquation a cls d) (tCons (tVar 7) (tCons (tC (.ty "ValueError")) tNil)))) (gName 6))) rfl rfl sc__law_asked.nd rfl rfl ⟨rfl, by decide, Or.inl T.g_NoEquation⟩ takes0 (fun W pn xe tk _ => pss_one (ps_if (pt_val (pv 3)) (pss_one (ps_set (i := 5) sc__law_asked.nd rfl (Or.inl rfl) ((bd_named T).elim fun ds h => pe_callSD (ok_named T) hr (by rfl) T.g_named T.F_named.kp h.2 h.1 (fun σ => passAt tk σ) (pa_cons (pv 0) (pa_cons (pv 1) pa_nil))))) (pss_one (ps_set (i := 5) sc__law_asked.nd rfl (Or.inl rfl) (pe_callNS (ok_named T) hr (by rfl) T.g_named T.F_named.kp (bk_named T) (fun σ => passAt tk σ) (pa_cons (pv 0) (pa_cons (pv 1) pa_nil)) (pk_cons (pv 2) pk_nil)))))) (fun a oe cls d pn hz hf => pss_cons (ps_set (i := 4) sc__law_asked.nd rfl (Or.inl rfl) (pe_xf T.xf_NoEquation T.no_NoEquation_place hz hf (pv 7))) (pss_one (ps_set (i := 6) sc__law_asked.nd rfl (Or.inl rfl) (pe_and (pe_callB (call_isX T.xf_NoEquation T.IX hz hf) (by rfl) T.z_isinstance bt_isinstance (pa_cons (pv 7) (pa_cons (C8.pe_gc rfl T.c_HomeError) pa_nil))) (pe_one (pe_callB (call_isX T.xf_NoEquation T.IX hz hf) (by rfl) T.z_isinstance bt_isinstance (pa_cons (pv 7) (pa_cons (pe_bltn (v := .ty "ValueError") (by rfl) T.z_ValueError bt_ValueError rfl) pa_nil)))))))))
      (pss_cons (ps_if (pt_not (pt_val (pv 6))) (pss_one (ps_ret (pe_tup (pa_cons pe_str (pa_cons pe_non pa_nil))))) pss_nil)
      (pss_cons (ps_if (pt_cmpR op_isN (pv 5) pe_non (nomark _)) (pss_one (ps_ret (pe_tup (pa_cons pe_str (pa_cons (pv 4) pa_nil))))) pss_nil)
      (pss_one (ps_ret (pe_tup (pa_cons pe_str (pa_cons (pv 5) pa_nil))))))))))), ?_⟩
    refine ⟨_, rfl, ?_⟩
    cases b with
    | true =>
      have er := hb rfl
      subst er
      have exr : xr = .non := by
        obtain ⟨_, _, e1, _, _, _, e2, _, _, _, e3, t3, e4⟩ := t
        cases e1
        cases e2
        cases e3
        exact t3
      refine ⟨_, rfl, ?_⟩
      refine ⟨_, rfl, _, rfl, S, wd, v, .none, by rw [exr] at t; exact t, hw, hv, hr0, ?_⟩
      cases hd : dueOf wd v .none with
      | inl d =>
        rw [hd] at q
        intro f H' sm fo
        obtain ⟨ta, a1, a2, a3, a4, d1, d2, d3, d4, x1, x2, x3, x4, ed, rfl, fo2⟩ := id fo
        refine ⟨_, rfl, _, rfl, _, rfl, rfl, _, rfl, ?_⟩
        refine ⟨_, rfl, by show 2 ≤ sizeLine; decide, fun q1 n1 => ?_⟩
        exact q q1 _ H' _ sm fo n1 rfl
      | inr s =>
        rw [hd] at q
        intro dx H' sm nd hx
        refine ⟨true, T.x_NoEquation, fun _ a0 na => ?_, fun z => Bool.noConfusion z⟩
        refine ⟨_, rfl, rfl, rfl, dx, _, .str s, rfl, hx, rfl, ?_⟩
        refine ⟨_, rfl, _, _, true, dx, _, rfl, rfl, rfl, hx, fun u r => r, T.KH, ?_⟩
        refine ⟨_, rfl, _, rfl, _, _, true, dx, _, rfl, rfl, rfl, hx, fun u r => r, T.KV, ?_⟩
        refine ⟨_, rfl, _, rfl, _, rfl, rfl, _, rfl, ?_⟩
        refine ⟨_, rfl, by show 2 ≤ sizeLine; decide, fun q1 n1 => ?_⟩
        exact q q1 _ (sm.trans (same_upd n1)) upd_same
    | false =>
      refine ⟨_, rfl, ?_⟩
      refine ⟨_, rfl, _, rfl, _, rfl, rfl, rfl, S, wd, v, row, t, hw, hv, hr0, ?_⟩
      cases hd : dueOf wd v row with
      | inl d =>
        rw [hd] at q
        intro f H' sm fo
        obtain ⟨ta, a1, a2, a3, a4, d1, d2, d3, d4, x1, x2, x3, x4, ed, rfl, fo2⟩ := id fo
        refine ⟨_, rfl, _, rfl, _, rfl, rfl, _, rfl, ?_⟩
        refine ⟨_, rfl, by show 2 ≤ sizeLine; decide, fun q1 n1 => ?_⟩
        exact q q1 _ H' _ sm fo n1 rfl
      | inr s =>
        rw [hd] at q
        intro dx H' sm nd hx
        refine ⟨true, T.x_NoEquation, fun _ a0 na => ?_, fun z => Bool.noConfusion z⟩
        refine ⟨_, rfl, rfl, rfl, dx, _, .str s, rfl, hx, rfl, ?_⟩
        refine ⟨_, rfl, _, _, true, dx, _, rfl, rfl, rfl, hx, fun u r => r, T.KH, ?_⟩
        refine ⟨_, rfl, _, rfl, _, _, true, dx, _, rfl, rfl, rfl, hx, fun u r => r, T.KV, ?_⟩
        refine ⟨_, rfl, _, rfl, _, rfl, rfl, _, rfl, ?_⟩
        refine ⟨_, rfl, by show 2 ≤ sizeLine; decide, fun q1 n1 => ?_⟩
        exact q q1 _ (sm.trans (same_upd n1)) upd_same
--SPLIT
theorem sqK {K : PySem.W.Frag} {a : Addr} {d : Option Addr} {us : List Value} {n : Nat} {sl : Array (Option Value)} {xs : List V} (h : K.lookup a = some ⟨.type "tuple", d, .seq us.toArray n, sl⟩) (hl : us.length ≤ 1000) (r : Vals xs us) : ∀ H, SqT K H a xs :=
  fun H => .inr ⟨_, us.toArray, n, h, rfl, rfl, by rw [List.size_toArray]; exact small100 hl, r⟩

theorem hu64' {A : Around} {k : Nat} (hr : Room k A) : A.units < cLine := by
  have := hu64 hr
  omega
def spLaw (K : PySem.W.Frag) : Sp := fun vs H Q _ => ∃ (a : Addr) (ns : List Int), vs = [.ref a] ∧ SqL K H a (ns.map V.int) ∧ ns.length ≤ 63 ∧ ∀ H', Q (.bl true) H'
/-- at none of the pool, and there -/
def Tk (p : Addr) (H : Hp) : Addr → Prop := fun a => a ≠ p ∧ H a ≠ none
section
variable {S : Addr → Prop} {p : Addr} {L : Nat} {H H' J : Hp} {d : PyData} {v : V}
theorem tk_new (h : Pool J p L) (n : ¬ S p) (t : Tr (fun a => S a ∨ J a = none) H d v) : Tr (Tk p H) H d v :=
  Tr.mono (fun a s => ⟨s.1.elim (fun x e => n (e ▸ x)) fun x => h.ne x, s.2⟩) _ _ (Tr.tracked _ _ t)
theorem tk_kp (k : Kp p H H') (h : Pool H p L) (t : Tr (Tk p H) H d v) : Tr (Tk p H') H' d v :=
  have h' : KpL (fun a => a = p) H H' := KpL.kp k rfl (by obtain ⟨ns, e, _⟩ := h; exact ⟨_, e⟩)
  Tr.mono (fun a s => ⟨s.1.1, s.2⟩) _ _ (Tr.tracked _ _ (Tr.kpl h' (fun a s => s.1) _ _ t))
theorem tk_same (s : Same H H') (t : Tr (Tk p H) H d v) : Tr (Tk p H') H' d v :=
  Tr.mono (fun a s => ⟨s.1.1, s.2⟩) _ _ (Tr.tracked _ _ (t.same s))
theorem pool_same (s : Same H H') (h : Pool H p L) : Pool H' p L := by
  obtain ⟨ns, e, l⟩ := h
  exact ⟨ns, s _ _ e, l⟩
end
theorem word_len {wd : PyData} {m : Int} {l r : List Int} (h : wordOf wd = some (m, l, r)) : l.length ≤ 3 ∧ r.length ≤ 3 := by
  cases wd with
  | str s =>
    have e1 : (tblW.find? fun t => t.1 == s).map (·.2) = some (m, l, r) := h
    obtain ⟨t, ht, e2⟩ := Option.map_eq_some_iff.mp e1
    have h1 := List.mem_of_find?_eq_some ht
    simp only [tblW, List.mem_cons, List.not_mem_nil, or_false] at h1
    rcases h1 with rfl | rfl | rfl | rfl | rfl | rfl <;> (cases e2; exact ⟨by decide, by decide⟩)
  | _ => cases h
theorem ok_ints {l : List Int} {n : Nat} (h : l.length ≤ 100) : Ok (.list (intsD l)) (n + 2) ∧ Rx (.list (intsD l)) := by
  refine ⟨⟨by unfold intsD; rw [List.length_map]; exact h, OkAll.of fun d hd => ?_⟩, rx_list fun d hd => ?_⟩
  · obtain ⟨z, _, rfl⟩ := List.mem_map.mp hd
    exact True.intro
  · obtain ⟨z, _, rfl⟩ := List.mem_map.mp hd
    exact rx_int z
theorem ok_four {v row : PyData} {l r : List Int} (hv : Ok v 6) (rv : Rx v) (hr : Ok row 6) (rr : Rx row) (hl : l.length ≤ 100) (h2 : r.length ≤ 100) : Ok (resD (.inl (.tuple [v, .list (intsD l), .list (intsD r), row]))) 8 ∧ Rx (resD (.inl (.tuple [v, .list (intsD l), .list (intsD r), row]))) := by
  refine ⟨⟨by show 2 ≤ 100; decide, (by decide +kernel : PyData.strOk "told" = true), ⟨by show 4 ≤ 100; decide, hv, (ok_ints (n := 4) hl).1, (ok_ints (n := 4) h2).1, hr, True.intro⟩, True.intro⟩, ?_⟩
  refine rx_tuple fun d h => (List.mem_cons.mp h).elim (fun e => by rw [e]; simp [Rx, sameD]) fun h => ?_
  rw [List.mem_singleton.mp h]
  refine rx_tuple fun d h => ?_
  simp only [List.mem_cons, List.not_mem_nil, or_false] at h
  rcases h with rfl | rfl | rfl | rfl
  · exact rv
  · exact (ok_ints (n := 4) hl).2
  · exact (ok_ints (n := 4) h2).2
  · exact rr
theorem due_ok {wd v row : PyData} (hv : Ok v 6) (rv : Rx v) (hr : Ok row 4) (rr : row = .dict [] ∨ Rx row) : Ok (resD (dueOf wd v row)) 8 ∧ Rx (resD (dueOf wd v row)) := by
  have no : ∀ s : Str, PyData.strOk s = true → Ok (resD (.inr s)) 8 ∧ Rx (resD (.inr s)) := fun s h => ⟨⟨by show 2 ≤ 100; decide, (by decide +kernel : PyData.strOk "refused" = true), h, True.intro⟩, by simp [Rx, resD, sameD, sameAll]⟩
  unfold dueOf
  cases e : wordOf wd with
  | none => exact no _ (by decide +kernel)
  | some t =>
    obtain ⟨m, l, r⟩ := t
    obtain ⟨h1, h2⟩ := word_len e
    show Ok (resD (restD m l r v row)) 8 ∧ Rx (resD (restD m l r v row))
    unfold restD
    split
    · split
      · exact ok_four hv rv (ok_ints (n := 4) (by decide)).1 (ok_ints (n := 4) (by decide)).2 (by omega) (by omega)
      · split
        · rename_i h3
          have rr : Rx row := rr.elim (fun e => by rw [e] at h3; cases h3) id
          exact ok_four hv rv (hr.le (by decide)) rr (by omega) (by omega)
        · exact no _ (by decide +kernel)
    · exact no _ (by decide +kernel)
theorem four_same {H H1 H2 : Hp} {d : PyData} {t : V} (s : Same H1 H2) (f : Four H H1 d t) : Four H H2 d t := by
  obtain ⟨ta, a1, a2, a3, a4, d1, d2, d3, d4, x1, x2, x3, x4, e1, e2, e3, ⟨l1, l2, l3, l4⟩, ⟨t1, t2, t3, t4⟩, n, nd⟩ := f
  exact ⟨ta, a1, a2, a3, a4, d1, d2, d3, d4, x1, x2, x3, x4, e1, e2, s _ _ e3, ⟨s _ _ l1, s _ _ l2, s _ _ l3, s _ _ l4⟩, ⟨t1.same s, t2.same s, t3.same s, t4.same s⟩, n, nd⟩
theorem four_tr {H H1 : Hp} {d : PyData} {t : V} (f : Four H H1 d t) : Tr (fun _ => True) H1 d t := by
  obtain ⟨ta, a1, a2, a3, a4, d1, d2, d3, d4, x1, x2, x3, x4, rfl, rfl, e3, ⟨l1, l2, l3, l4⟩, ⟨t1, t2, t3, t4⟩, n, nd⟩ := f
  have up : ∀ {ds xs}, TrAll (fun _ => False) H1 ds xs → TrAll (fun _ => True) H1 ds xs := fun t => TrAll.mono (fun _ _ => True.intro) _ _ t
  exact ⟨ta, _, rfl, e3, .cons ⟨a1, x1, rfl, True.intro, l1, up t1⟩ (.cons ⟨a2, x2, rfl, True.intro, l2, up t2⟩ (.cons ⟨a3, x3, rfl, True.intro, l3, up t3⟩ (.one ⟨a4, x4, rfl, True.intro, l4, up t4⟩)))⟩
theorem ok_law (T : Top w K mg) : FnOk P w K mg base CX0 11 T.a_law T.d_law ["_law_script"] (spLaw K) := by
  refine T.F_law.ok sc_law (fun vs H Q E h => ?_) (fun cdv A outer s H vs Q E hr h => ?_)
  · obtain ⟨a, ns, rfl, _⟩ := h
    rfl
  · obtain ⟨a, ns, rfl, hS, hlen, q⟩ := h
    refine ⟨_, (pss_cons (ps_set (i := 1) sc_law.nd rfl (Or.inl rfl) (pe_call (ok__law_pool T) (hr.mono (by decide)) (by rfl) T.g__law_pool T.F__law_pool.kp (b__law_pool T) .nil pass0 (pa_cons (pv 0) pa_nil)))
      (pss_cons (ps_for PassesOwn.never rfl (pi_range1 (by rfl) T.z_range (pa_cons pe_int pa_nil)) (pg_name (i := 2) sc_law.nd rfl (Or.inl rfl)) (pss_cons (ps_set (i := 3) sc_law.nd rfl (Or.inl rfl) (pe_call (ok__law_word T) (hr.mono (by decide)) (by rfl) T.g__law_word T.F__law_word.kp (b__law_word T) .nil pass0 (pa_cons (pv 1) pa_nil)))
        (pss_cons (ps_set (i := 4) sc_law.nd rfl (Or.inl rfl) (pe_call (ok__law_variables T) (hr.mono (by decide)) (by rfl) T.g__law_variables T.F__law_variables.kp (b__law_variables T) .nil pass0 (pa_cons (pv 1) (pa_cons (pv 3) pa_nil))))
        (pss_cons (ps_set (i := 5) sc_law.nd rfl (Or.inl rfl) (pe_call (ok__law_chosen T) (hr.mono (by decide)) (by rfl) T.g__law_chosen T.F__law_chosen.kp (b__law_chosen T) .nil pass0 (pa_cons (pv 1) pa_nil)))
        (C8.pss_cut (ps_set (i := 6) sc_law.nd rfl (Or.inl rfl) (pe_and (pe_cmpR op_isN (pv 5) pe_non (nomark _)) (pe_one (pe_cmpR op_eq (pe_call (ok__law_draw T) (hr.mono (by decide)) (by rfl) T.g__law_draw T.F__law_draw.kp (b__law_draw T) .nil pass0 (pa_cons (pv 1) (pa_cons pe_int pa_nil))) pe_int (nomark _)))))
        (pss_cons (ps_set (i := 7) sc_law.nd rfl (Or.inl rfl) (pe_call (ok__law_due T) hr (by rfl) T.g__law_due T.F__law_due.kp (b__law_due T) .nil pass0 (pa_cons (pv 3) (pa_cons (pv 4) (pa_cons (pv 5) pa_nil)))))
        (pss_cons (ps_set (i := 8) sc_law.nd rfl (Or.inl rfl) (pe_lst (pa_cons (pe_call (ok__law_copied T) (hr.mono (by decide)) (by rfl) T.g__law_copied T.F__law_copied.kp (b__law_copied T) .nil pass0 (pa_cons (pv 4) pa_nil)) (pa_cons (pe_call (ok__law_copied T) (hr.mono (by decide)) (by rfl) T.g__law_copied T.F__law_copied.kp (b__law_copied T) .nil pass0 (pa_cons (pv 5) pa_nil)) pa_nil))))
        (C8.pss_cut (ps_set (i := 9) sc_law.nd rfl (Or.inl rfl) (pe_call (ok__law_asked T) (hr.mono (by decide)) (by rfl) T.g__law_asked T.F__law_asked.kp (b__law_asked T) .nil pass0 (pa_cons (pv 3) (pa_cons (pe_ix (k_ixL K) (pv 8) pe_int (fun _ _ => rfl)) (pa_cons (pe_ix (k_ixL K) (pv 8) pe_int (fun _ _ => rfl)) (pa_cons (pv 6) pa_nil))))))
        (C8.pss_cut (ps_if (PW.pt (pw_or (pt_not (pt_val (pe_call (ok__law_same T) (hr.mono (by decide)) (by rfl) T.g__law_same T.F__law_same.kp (b__law_same T) .nil pass0 (pa_cons (pe_ix (k_ixL K) (pv 8) pe_int (fun _ _ => rfl)) (pa_cons (pv 4) pa_nil))))) (pw_or1 (PW.pt (pw_and (pt_not (pt_val (pe_call (ok__law_same T) (hr.mono (by decide)) (by rfl) T.g__law_same T.F__law_same.kp (b__law_same T) .nil pass0 (pa_cons (pe_ix (k_ixL K) (pv 8) pe_int (fun _ _ => rfl)) (pa_cons (pv 5) pa_nil))))) (pw_and1 (pt_cmpR (op_ne_dictA (hu64' hr)) (pv 5) pe_dnewK (nomark _)))))))) (pss_one (ps_ret pe_bl)) pss_nil)
        (pss_cons (ps_if (pt_not (pt_val (pe_call (ok__law_same T) (hr.mono (by decide)) (by rfl) T.g__law_same T.F__law_same.kp (b__law_same T) .nil pass0 (pa_cons (pv 9) (pa_cons (pv 7) pa_nil))))) (pss_one (ps_ret pe_bl)) pss_nil)
        (pss_one (ps_if (pt_cmpR op_eq (pe_ix (k_ixT K) (pv 9) pe_int (fun _ _ => rfl)) pe_str (nomark _)) (pss_cons (ps_for PassesOwn.never rfl (k_piT K (pe_ix (k_ixT K) (pv 9) pe_int (fun _ _ => rfl))) (pg_name (i := 10) sc_law.nd rfl (Or.inl rfl)) (pss_one (ps_expr (pe_bm PySem.F.plainAttrs_list PySem.F.slot_list_append PySem.F.type_list_append mt_append (pv 10) (pa_cons pe_int pa_nil)))))
          (pss_cons (ps_if (pt_not (pt_val (pe_call (ok__law_same T) (hr.mono (by decide)) (by rfl) T.g__law_same T.F__law_same.kp (b__law_same T) .nil pass0 (pa_cons (pe_ix (k_ixL K) (pv 8) pe_int (fun _ _ => rfl)) (pa_cons (pv 4) pa_nil))))) (pss_one (ps_ret pe_bl)) pss_nil)
          (pss_one (ps_if (pt_not (pt_val (pe_call (ok__law_same T) (hr.mono (by decide)) (by rfl) T.g__law_same T.F__law_same.kp (b__law_same T) .nil pass0 (pa_cons (pe_call (ok__law_asked T) (hr.mono (by decide)) (by rfl) T.g__law_asked T.F__law_asked.kp (b__law_asked T) .nil pass0 (pa_cons (pv 3) (pa_cons (pe_ix (k_ixL K) (pv 8) pe_int (fun _ _ => rfl)) (pa_cons (pe_ix (k_ixL K) (pv 8) pe_int (fun _ _ => rfl)) (pa_cons (pv 6) pa_nil))))) (pa_cons (pv 7) pa_nil))))) (pss_one (ps_ret pe_bl)) pss_nil)))) pss_nil))))))))))))
      (pss_one (ps_ret pe_bl)))), ?_⟩
    refine ⟨_, rfl, a, ns, rfl, hS, hlen, fun H1 p L s1 np pl h2 h64 => ?_⟩
    refine ⟨3, rfl, by decide, by decide, for_range (n := 3) (fun i σ J => ∃ y2 y3 y4 y5 y6 y7 y8 y9 y10, σ = [some (.ref a), some (.ref p), y2, y3, y4, y5, y6, y7, y8, y9, y10] ∧ Pool J p L) ⟨none, none, none, none, none, none, none, none, none, rfl, pl⟩ (fun i σ J hi h => ?_) (fun σ J h => ?_)⟩
    · obtain ⟨y2, y3, y4, y5, y6, y7, y8, y9, y10, rfl, plJ⟩ := h
      refine ⟨_, rfl, p, L, fun _ => False, [], [], rfl, plJ, ⟨h2, h64⟩, id, TrAll.nil, rfl, fun wd hw => fun xw H2 k2 pl2 tw => ?_⟩
      have tw2 := tk_new plJ id tw
      refine ⟨_, rfl, _, rfl, p, L, Tk p H2, [wd], [xw], rfl, pl2, ⟨h2, h64⟩, fun z => z.1 rfl, TrAll.one tw2, wd, rfl, hw, fun v hv rv => fun xv H3 k3 pl3 tv => ?_⟩
      have tv3 := tk_new pl2 (fun z => z.1 rfl) tv
      have tw3 := tk_kp k3 pl2 tw2
      refine ⟨_, rfl, p, L, fun _ => False, [], [], rfl, pl3, ⟨h2, h64⟩, id, TrAll.nil, rfl, fun row hr0 rr => fun xr H4 k4 pl4 tr => ?_⟩
      have tr4 := tk_new pl3 id tr
      have tv4 := tk_kp k4 pl3 tv3
      have tw4 := tk_kp k4 pl3 tw3
      have hv8 : Ok v 8 := hv.le (by decide)
      have hr8 : Ok row 8 := hr0.le (by decide)
      refine ⟨fun σ H5 => ∃ b, (b = true → row = .none) ∧ Pool H5 p L ∧ (Tr (Tk p H5) H5 wd xw ∧ Tr (Tk p H5) H5 v xv ∧ Tr (Tk p H5) H5 row xr) ∧ σ = [some (.ref a), some (.ref p), some (.int (0 + (i : Int))), some xw, some xv, some xr, some (.bl b), y7, y8, y9, y10], ?_, fun σ H5 ⟨b, hb, pl5, ⟨tw5, tv5, tr5⟩, e⟩ => ?_⟩
      · refine ⟨_, rfl, rfl, _, rfl, ?_⟩
        rw [isNo_tr tr4]
        cases hn : isNo row with
        | false => exact ⟨false, (fun z => by cases z), pl4, ⟨tw4, tv4, tr4⟩, rfl⟩
        | true =>
          have er : row = .none := by cases row <;> first | rfl | cases hn
          refine ⟨_, rfl, p, L, 2, rfl, pl4, h2, h64, by decide, by decide, fun r H5 r0 r1 k5 pl5 => ?_⟩
          exact ⟨rfl, _, fun _ => er, pl5, ⟨tk_kp k5 pl4 tw4, tk_kp k5 pl4 tv4, tk_kp k5 pl4 tr4⟩, rfl⟩
      · subst e
        refine ⟨_, rfl, _, rfl, _, rfl, Tk p H5, [wd, v, row], TrAll.cons tw5 (TrAll.cons tv5 (TrAll.one tr5)), wd, v, row, rfl, hw, hv8, hr8, fun xd H6 s6 td => ?_⟩
        have np : ∀ {J : Hp}, ¬ Tk p J p := fun z => z.1 rfl
        have pl6 := pool_same s6 pl5
        have td6 := tk_new pl5 np td
        refine ⟨_, rfl, Tk p H6, [v], TrAll.one (tk_same s6 tv5), v, rfl, hv8, fun xv2 H7 s7 tc => ?_⟩
        have s57 := s6.trans s7
        have pl7 := pool_same s7 pl6
        have tc7 := tk_new pl6 np tc
        refine ⟨_, rfl, Tk p H7, [row], TrAll.one (tk_same s57 tr5), row, rfl, hr8, fun xr2 H8 s8 te => ?_⟩
        have s58 := s57.trans s8
        have pl8 := pool_same s8 pl7
        have te8 := tk_new pl7 np te
        refine ⟨by show 2 ≤ sizeLine; decide, fun lp nlp => ?_⟩
        have s9 : Same H8 (upd H8 lp (.lst [xv2, xr2])) := same_upd nlp
        have hlp : (upd H8 lp (.lst [xv2, xr2])) lp = some (.lst [xv2, xr2]) := upd_same
        generalize upd H8 lp (.lst [xv2, xr2]) = H9 at s9 hlp ⊢
        have pl9 := pool_same s9 pl8
        have td9 := tk_same ((s7.trans s8).trans s9) td6
        have tw9 := tk_same (s58.trans s9) tw5
        have tv9 := tk_same (s58.trans s9) tv5
        have tr9 := tk_same (s58.trans s9) tr5
        have tc9 := tk_same (s8.trans s9) tc7
        have te9 := tk_same s9 te8
        obtain ⟨okd, rxd⟩ := due_ok (wd := wd) hv rv hr0 rr
        refine ⟨fun σ J => ∃ t, σ = [some (.ref a), some (.ref p), some (.int (0 + (i : Int))), some xw, some xv, some xr, some (.bl b), some xd, some (.ref lp), some t, y10] ∧ Same H9 J ∧ match dueOf wd v row with
          | .inl d => ∃ qd f, t = .ref qd ∧ J qd = some (.tup [.str "told", f]) ∧ Four H9 J d f
          | .inr z => ∃ qd, t = .ref qd ∧ J qd = some (.tup [.str "refused", .str z]), ?_, fun σ J ⟨t, e, sJ, ht⟩ => ?_⟩
        · refine ⟨_, rfl, _, rfl, lp, _, 0, _, rfl, rfl, SqL.of hlp, at_of (j := 0) (by decide) rfl, _, rfl, lp, _, 1, _, rfl, rfl, SqL.of hlp, at_of (j := 1) (by decide) rfl, _, rfl, Tk p H9, wd, v, row, b, xw, xv2, xr2, rfl, TrAll.cons tw9 (TrAll.cons tc9 (TrAll.one te9)), hw, hv8, hr8, hb, ?_⟩
          cases hd : dueOf wd v row with
          | inl d =>
            intro qd f J J2 s fo nq e
            have s2 : Same J J2 := by rw [e]; exact same_upd nq
            refine ⟨.ref qd, rfl, s.trans s2, ?_⟩
            exact ⟨qd, f, rfl, by rw [e]; exact upd_same, four_same s2 fo⟩
          | inr z =>
            intro qd J s e
            refine ⟨.ref qd, rfl, s, ?_⟩
            exact ⟨qd, rfl, e⟩
        · subst e
          have lpJ := sJ _ _ hlp
          refine ⟨fun σ J2 => σ = [some (.ref a), some (.ref p), some (.int (0 + (i : Int))), some xw, some xv, some xr, some (.bl b), some xd, some (.ref lp), some t, y10] ∧ Same J J2, ?_, fun σ J2 ⟨e, sJ2⟩ => ?_⟩
          · refine ⟨_, rfl, lp, _, 0, _, rfl, rfl, SqL.of lpJ, at_of (j := 0) (by decide) rfl, _, rfl, Tk p H9, [v, v], TrAll.cons (tc9.same sJ) (TrAll.one (tv9.same sJ)), v, v, rfl, hv8, hv8, fun x1 J1 s1 e1 => ?_⟩
            cases e1
            refine ⟨_, rfl, ?_⟩
            rw [show sameD v v = true from rv]
            refine ⟨_, rfl, lp, _, 1, _, rfl, rfl, SqL.of (s1 _ _ lpJ), at_of (j := 1) (by decide) rfl, _, rfl, Tk p H9, [row, row], TrAll.cons (te9.same (sJ.trans s1)) (TrAll.one (tr9.same (sJ.trans s1))), row, row, rfl, hr8, hr8, fun x2 J2 s2 e2 => ?_⟩
            cases e2
            refine ⟨_, rfl, ?_⟩
            rcases rr with er | rr
            · subst er
              rw [show sameD (.dict []) (.dict []) = false by simp [sameD]]
              obtain ⟨ra, kvs, rfl, hk, hz⟩ := tr9
              cases hz rfl
              have hk2 := ((sJ.trans s1).trans s2) _ _ hk
              refine ⟨_, rfl, fun dq ndq => ⟨ra, dq, [], [], rfl, rfl, same_upd ndq _ _ hk2, upd_same, rfl, (fun _ h => by cases h), _, rfl, ?_⟩⟩
              exact ⟨rfl, (s1.trans s2).trans (same_upd ndq)⟩
            · rw [show sameD row row = true from rr]
              exact ⟨rfl, s1.trans s2⟩
          · subst e
            generalize hd : dueOf wd v row = du at *
            have s92 := sJ.trans sJ2
            have tdT := Tr.mono (S' := fun _ => True) (fun _ _ => True.intro) _ _ (td9.same s92)
            cases du with
            | inr z =>
              obtain ⟨qd, rfl, hq⟩ := ht
              have hq2 := sJ2 _ _ hq
              refine ⟨_, rfl, _, rfl, fun _ => True, [resD (.inr z), resD (.inr z)], TrAll.cons ⟨qd, _, rfl, hq2, .cons rfl (.one rfl)⟩ (TrAll.one tdT), _, _, rfl, okd, okd, fun x3 J3 s3 e3 => ?_⟩
              cases e3
              refine ⟨_, rfl, ?_⟩
              rw [show sameD (resD (.inr z)) (resD (.inr z)) = true from rxd]
              refine ⟨_, rfl, qd, _, 0, _, rfl, rfl, SqT.of (s3 _ _ hq2), at_of (j := 0) (by decide) rfl, rfl, _, rfl, iteN (show ¬ V.str ("refused" : Str) = V.str ("told" : Str) by decide) ?_⟩
              exact ⟨_, _, _, _, _, _, _, _, _, rfl, pool_same (s92.trans s3) pl9⟩
            | inl d =>
              obtain ⟨qd, f, rfl, hq, fo⟩ := ht
              have hq2 := sJ2 _ _ hq
              have fo2 := four_same sJ2 fo
              refine ⟨_, rfl, _, rfl, fun _ => True, [resD (.inl d), resD (.inl d)], TrAll.cons ⟨qd, _, rfl, hq2, .cons rfl (.one (four_tr fo2))⟩ (TrAll.one tdT), _, _, rfl, okd, okd, fun x3 J3 s3 e3 => ?_⟩
              cases e3
              refine ⟨_, rfl, ?_⟩
              rw [show sameD (resD (.inl d)) (resD (.inl d)) = true from rxd]
              have hq3 := s3 _ _ hq2
              have fo3 := four_same s3 fo2
              have s93 := s92.trans s3
              refine ⟨_, rfl, qd, _, 0, _, rfl, rfl, SqT.of hq3, at_of (j := 0) (by decide) rfl, rfl, _, rfl, iteP rfl ?_⟩
              obtain ⟨ta, a1, a2, a3, a4, d1, d2, d3, d4, x1, x2, x3, x4, ed, rfl, hta, ⟨l1, l2, l3, l4⟩, ⟨u1, u2, u3, u4⟩, ⟨m1, m2, m3, m4⟩, nd⟩ := fo3
              have ok4 : d1.length ≤ 100 ∧ d2.length ≤ 100 ∧ d3.length ≤ 100 ∧ d4.length ≤ 100 := by
                rw [ed] at okd
                obtain ⟨_, _, ⟨_, o1, o2, o3, o4, _⟩, _⟩ := okd
                exact ⟨o1.1, o2.1, o3.1, o4.1⟩
              have mN : ∀ z, (z = a1 ∨ z = a2 ∨ z = a3 ∨ z = a4) → H9 z = none := fun z h => by
                rcases h with rfl | rfl | rfl | rfl
                · exact m1
                · exact m2
                · exact m3
                · exact m4
              have ml : ∀ z, (z = a1 ∨ z = a2 ∨ z = a3 ∨ z = a4) → ∃ xs, J3 z = some (.lst xs) ∧ xs.length ≤ 100 + 0 := fun z h => by
                rcases h with rfl | rfl | rfl | rfl
                · exact ⟨_, l1, by rw [u1.len]; exact ok4.1⟩
                · exact ⟨_, l2, by rw [u2.len]; exact ok4.2.1⟩
                · exact ⟨_, l3, by rw [u3.len]; exact ok4.2.2.1⟩
                · exact ⟨_, l4, by rw [u4.len]; exact ok4.2.2.2⟩
              refine ⟨_, rfl, qd, _, 1, _, rfl, rfl, SqT.of hq3, at_of (j := 1) (by decide) rfl, ta, rfl, ⟨_, SqT.of hta⟩, for_it (walk_tup (xs := [.ref a1, .ref a2, .ref a3, .ref a4])) (fun k σ H' => ∃ y, σ = [some (.ref a), some (.ref p), some (.int (0 + (i : Int))), some xw, some xv, some xr, some (.bl b), some xd, some (.ref lp), some (.ref qd), y] ∧ KpL (fun z => z = a1 ∨ z = a2 ∨ z = a3 ∨ z = a4) J3 H' ∧ ∀ z, (z = a1 ∨ z = a2 ∨ z = a3 ∨ z = a4) → ∃ xs, H' z = some (.lst xs) ∧ xs.length ≤ 100 + k) ⟨y10, rfl, KpL.refl, ml⟩ (fun k σ H' _ h => ?_) (fun k x σ H' H2 hk h yy => ?_) (fun σ H' h => ?_)⟩
              · obtain ⟨_, _, kk, _⟩ := h
                exact SqT.of (kk.tup hta)
              · obtain ⟨y, rfl, kk, mm⟩ := h
                obtain ⟨e1, e2⟩ := yy
                subst e1
                have hk : k < 4 := hk
                have hx : ∃ z, x = .ref z ∧ (z = a1 ∨ z = a2 ∨ z = a3 ∨ z = a4) := by
                  have := List.mem_of_getElem? e2
                  simp only [List.mem_cons, List.not_mem_nil, or_false] at this
                  rcases this with rfl | rfl | rfl | rfl
                  · exact ⟨_, rfl, .inl rfl⟩
                  · exact ⟨_, rfl, .inr (.inl rfl)⟩
                  · exact ⟨_, rfl, .inr (.inr (.inl rfl))⟩
                  · exact ⟨_, rfl, .inr (.inr (.inr rfl))⟩
                obtain ⟨z, rfl, hz⟩ := hx
                obtain ⟨xs, hxs, lxs⟩ := mm z hz
                refine ⟨_, rfl, .inl ⟨rfl, _, SqL.of hxs⟩, z, xs, .int 7, rfl, rfl, hxs, small1000 (by omega), ?_⟩
                refine ⟨_, rfl, kk.put hz (by obtain ⟨ys, hy, _⟩ := ml z hz; exact ⟨ys, hy⟩), fun z2 h2 => ?_⟩
                by_cases e : z2 = z
                · rw [e]
                  exact ⟨_, upd_same, by rw [List.length_append]; show xs.length + 1 ≤ _; omega⟩
                · obtain ⟨ys, hy, ly⟩ := mm z2 h2
                  exact ⟨ys, by rw [upd_ne e]; exact hy, by omega⟩
              · obtain ⟨y, rfl, kk, _⟩ := h
                have nM : ∀ z, Tk p H9 z → ¬ (z = a1 ∨ z = a2 ∨ z = a3 ∨ z = a4) := fun z h m => h.2 (mN z m)
                have tw' := Tr.kpl kk nM _ _ (tw9.same s93)
                have tv' := Tr.kpl kk nM _ _ (tv9.same s93)
                have tc' := Tr.kpl kk nM _ _ (tc9.same s93)
                have te' := Tr.kpl kk nM _ _ (te9.same s93)
                have td' := Tr.mono (S' := fun _ => True) (fun _ _ => True.intro) _ _ (Tr.kpl kk nM _ _ (td9.same s93))
                have lp' := kk.at_ (s93 _ _ hlp) (fun m => by have := mN _ m; rw [hlp] at this; cases this)
                have pl' : Pool H' p L := by
                  obtain ⟨ns', e, l⟩ := id pl9
                  exact ⟨ns', kk.at_ (s93 _ _ e) (fun m => by have := mN _ m; rw [e] at this; cases this), l⟩
                refine ⟨_, rfl, lp, _, 0, _, rfl, rfl, SqL.of lp', at_of (j := 0) (by decide) rfl, _, rfl, Tk p H9, [v, v], TrAll.cons tc' (TrAll.one tv'), v, v, rfl, hv8, hv8, fun x5 J5 s5 e5 => ?_⟩
                cases e5
                refine ⟨_, rfl, ?_⟩
                rw [show sameD v v = true from rv]
                have lp5 := s5 _ _ lp'
                refine ⟨_, rfl, _, rfl, lp, _, 0, _, rfl, rfl, SqL.of lp5, at_of (j := 0) (by decide) rfl, _, rfl, lp, _, 1, _, rfl, rfl, SqL.of lp5, at_of (j := 1) (by decide) rfl, _, rfl, Tk p H9, wd, v, row, b, xw, xv2, xr2, rfl, TrAll.cons (tw'.same s5) (TrAll.cons (tc'.same s5) (TrAll.one (te'.same s5))), hw, hv8, hr8, hb, ?_⟩
                rw [hd]
                intro q6 f6 J6 J7 s6' fo6 nq6 e6
                have s67 : Same J6 J7 := by rw [e6]; exact same_upd nq6
                have s57' := (s5.trans s6').trans s67
                refine ⟨_, rfl, fun _ => True, [resD (.inl d), resD (.inl d)], TrAll.cons ⟨q6, _, rfl, by rw [e6]; exact upd_same, .cons rfl (.one (four_tr (four_same s67 fo6)))⟩ (TrAll.one (td'.same s57')), _, _, rfl, okd, okd, fun x8 J8 s8' e8 => ?_⟩
                cases e8
                refine ⟨_, rfl, ?_⟩
                rw [show sameD (resD (.inl d)) (resD (.inl d)) = true from rxd]
                exact ⟨_, _, _, _, _, _, _, _, _, rfl, pool_same (s57'.trans s8') pl'⟩
    · obtain ⟨y2, y3, y4, y5, y6, y7, y8, y9, y10, rfl, plJ⟩ := h
      exact q J
end
theorem all_mk {l : PySem.W.OpenLaw} {w : World} {K : PySem.W.Frag} {h : Heap} {mg : Str → Option Value} {fa f0 f1 f2 f3 f4 f5 f6 f7 f8 f9 f10 f11 f12 f13 f14 f15 f16 f17 f18 f19 f20 f21 f22 f23 : Addr} (X : K.In h) (G : h.Ns mainGlobals mg) (hfa : mg "law" = some (.ref fa))
    {od0 an0 od1 an1 od2 an2 od3 an3 od4 an4 od5 an5 od6 an6 od7 an7 od8 an8 od9 an9 od10 an10 od11 an11 od12 an12 od13 an13 od14 an14 od15 an15 od16 an16 od17 an17 od18 an18 od19 an19 od20 an20 od21 an21 od22 an22 od23 an23 : Option Addr} {sl0 sl1 sl2 sl3 sl4 sl5 sl6 sl7 sl8 sl9 sl10 sl11 sl12 sl13 sl14 sl15 sl16 sl17 sl18 sl19 sl20 sl21 sl22 sl23 : Array (Option Value)}
    {oc0 dc0 pm0 cd0 ct0 kV0 oc1 dc1 pm1 cd1 ct1 kV1 oc2 dc2 pm2 cd2 ct2 kV2 oc3 dc3 pm3 cd3 ct3 kV3 oc4 dc4 pm4 cd4 ct4 kV4 oc5 dc5 pm5 cd5 ct5 kV5 oc6 dc6 pm6 cd6 ct6 kV6 oc7 dc7 pm7 cd7 ct7 kV7 oc8 dc8 pm8 cd8 ct8 oc9 dc9 pm9 cd9 ct9 kV9 oc10 dc10 pm10 cd10 ct10 kV10 oc11 dc11 pm11 cd11 ct11 kV11 oc12 dc12 pm12 cd12 ct12 kV12 oc13 dc13 pm13 cd13 ct13 kV13 oc14 dc14 pm14 cd14 ct14 kV14 oc15 dc15 pm15 cd15 ct15 kV15 oc16 dc16 pm16 cd16 ct16 kV16 oc17 dc17 pm17 cd17 ct17 kV17 oc18 dc18 pm18 cd18 ct18 kV18 oc19 dc19 pm19 cd19 ct19 kV19 oc20 dc20 pm20 cd20 ct20 kV20 oc21 dc21 pm21 cd21 ct21 kV21 oc22 dc22 pm22 cd22 ct22 kV22 oc23 dc23 pm23 cd23 ct23 kV23 : Value}
    {ti0 ti1 : Tok}
    {HE : Addr} {CE0 : Addr}

    (ea0 : PySem.W.nsIn K mainGlobals "NoEquation" = some (some (.ref CE0)))
    (el0 : ∃ nm q N bs sn sub ab col dd k0 k1 k2 k3 k5, K.lookup CE0 = some (excClassObj nm q CE0 N bs [.ref HE, .type "ValueError", .type "Exception", .type "BaseException", .type "object"] true sn sub ab col dd k0 k1 k2 k3 k5 "ValueError.__new__"))
    (es0 : PySem.W.findIn K (.ref CE0) "__setattr__" = some (some (.builtin "object.__setattr__")))
    (eb0 : PySem.W.subIn K (.ref CE0) (.type "BaseException") = some true)
    (et0 : PySem.W.typeIn K (.ref CE0) = some (.type "type"))
    (ek0 : PySem.W.keepIn K (.ref CE0) = true)
    (ec0 : PySem.W.isClsIn K CE0 = true)
    (eg0 : PySem.W.findIn K (.ref CE0) "__getattribute__" = some (some (.builtin "BaseException.__getattribute__")))
    (eh0 : PySem.W.findIn K (.ref CE0) "__getattr__" = some none)
    (ed0 : PySem.W.hasDictIn K CE0 = true)
    (eS0 : PySem.W.subIn K (.ref CE0) (.ref CE0) = some true)
    (en0_0 : PySem.W.findIn K (.ref CE0) "place" = some none)
    (a0 : PySem.W.findIn K (.ref CE0) "__init__" = some (some (.ref f0)))
    (i0 : PySem.W.typeIn K (.ref f0) = some (.type "function"))
    (l0 : K.lookup f0 = some ⟨oc0, od0, .func (PySem.W.fnOf "__init__" "NoEquation.__init__" (defArgs s_NoEquation___init__) (defBody s_NoEquation___init__) (defScope s_NoEquation___init__) .none kV0 dc0 pm0 an0 cd0 ct0), sl0⟩)
    (c0 : PySem.W.codeIn K cd0 "NoEquation.__init__" = true)
    (k0 : PySem.W.keepIn K (.ref f0) = true)
    (a1 : PySem.W.nsIn K mainGlobals "is_integer" = some (some (.ref f1)))
    (l1 : K.lookup f1 = some ⟨oc1, od1, .func (PySem.W.fnOf "is_integer" "is_integer" (defArgs s_is_integer) (defBody s_is_integer) (defScope s_is_integer) .none kV1 dc1 pm1 an1 cd1 ct1), sl1⟩)
    (c1 : PySem.W.codeIn K cd1 "is_integer" = true)
    (k1 : PySem.W.keepIn K (.ref f1) = true)
    (a2 : PySem.W.nsIn K mainGlobals "is_within" = some (some (.ref f2)))
    (l2 : K.lookup f2 = some ⟨oc2, od2, .func (PySem.W.fnOf "is_within" "is_within" (defArgs s_is_within) (defBody s_is_within) (defScope s_is_within) .none kV2 dc2 pm2 an2 cd2 ct2), sl2⟩)
    (c2 : PySem.W.codeIn K cd2 "is_within" = true)
    (k2 : PySem.W.keepIn K (.ref f2) = true)
    (a3 : PySem.W.nsIn K mainGlobals "is_bit" = some (some (.ref f3)))
    (l3 : K.lookup f3 = some ⟨oc3, od3, .func (PySem.W.fnOf "is_bit" "is_bit" (defArgs s_is_bit) (defBody s_is_bit) (defScope s_is_bit) .none kV3 dc3 pm3 an3 cd3 ct3), sl3⟩)
    (c3 : PySem.W.codeIn K cd3 "is_bit" = true)
    (k3 : PySem.W.keepIn K (.ref f3) = true)
    (a4 : PySem.W.nsIn K mainGlobals "is_index" = some (some (.ref f4)))
    (l4 : K.lookup f4 = some ⟨oc4, od4, .func (PySem.W.fnOf "is_index" "is_index" (defArgs s_is_index) (defBody s_is_index) (defScope s_is_index) .none kV4 dc4 pm4 an4 cd4 ct4), sl4⟩)
    (c4 : PySem.W.codeIn K cd4 "is_index" = true)
    (k4 : PySem.W.keepIn K (.ref f4) = true)
    (a5 : PySem.W.nsIn K mainGlobals "is_key" = some (some (.ref f5)))
    (l5 : K.lookup f5 = some ⟨oc5, od5, .func (PySem.W.fnOf "is_key" "is_key" (defArgs s_is_key) (defBody s_is_key) (defScope s_is_key) .none kV5 dc5 pm5 an5 cd5 ct5), sl5⟩)
    (c5 : PySem.W.codeIn K cd5 "is_key" = true)
    (k5 : PySem.W.keepIn K (.ref f5) = true)
    (a6 : PySem.W.nsIn K mainGlobals "are_keys" = some (some (.ref f6)))
    (l6 : K.lookup f6 = some ⟨oc6, od6, .func (PySem.W.fnOf "are_keys" "are_keys" (defArgs s_are_keys) (defBody s_are_keys) (defScope s_are_keys) .none kV6 dc6 pm6 an6 cd6 ct6), sl6⟩)
    (c6 : PySem.W.codeIn K cd6 "are_keys" = true)
    (k6 : PySem.W.keepIn K (.ref f6) = true)
    (a7 : PySem.W.nsIn K mainGlobals "are_parts" = some (some (.ref f7)))
    (l7 : K.lookup f7 = some ⟨oc7, od7, .func (PySem.W.fnOf "are_parts" "are_parts" (defArgs s_are_parts) (defBody s_are_parts) (defScope s_are_parts) .none kV7 dc7 pm7 an7 cd7 ct7), sl7⟩)
    (c7 : PySem.W.codeIn K cd7 "are_parts" = true)
    (k7 : PySem.W.keepIn K (.ref f7) = true)
    (a8 : PySem.W.nsIn K mainGlobals "named" = some (some (.ref f8)))
    {kD8 : Addr}
    (l8 : K.lookup f8 = some ⟨oc8, od8, .func (PySem.W.fnOf "named" "named" (defArgs s_named) (defBody s_named) (defScope s_named) .none (.ref kD8) dc8 pm8 an8 cd8 ct8), sl8⟩)
    (kw8_parts : PySem.W.nsIn K kD8 "parts" = some (some .none))
    (c8 : PySem.W.codeIn K cd8 "named" = true)
    (k8 : PySem.W.keepIn K (.ref f8) = true)
    (a9 : PySem.W.nsIn K mainGlobals "_law_pool" = some (some (.ref f9)))
    (l9 : K.lookup f9 = some ⟨oc9, od9, .func (PySem.W.fnOf "_law_pool" "_law_pool" (defArgs s__law_pool) (defBody s__law_pool) (defScope s__law_pool) .none kV9 dc9 pm9 an9 cd9 ct9), sl9⟩)
    (c9 : PySem.W.codeIn K cd9 "_law_pool" = true)
    (k9 : PySem.W.keepIn K (.ref f9) = true)
    (a10 : PySem.W.nsIn K mainGlobals "_law_draw" = some (some (.ref f10)))
    (l10 : K.lookup f10 = some ⟨oc10, od10, .func (PySem.W.fnOf "_law_draw" "_law_draw" (defArgs s__law_draw) (defBody s__law_draw) (defScope s__law_draw) .none kV10 dc10 pm10 an10 cd10 ct10), sl10⟩)
    (c10 : PySem.W.codeIn K cd10 "_law_draw" = true)
    (k10 : PySem.W.keepIn K (.ref f10) = true)
    (a11 : PySem.W.nsIn K mainGlobals "_law_copied" = some (some (.ref f11)))
    (l11 : K.lookup f11 = some ⟨oc11, od11, .func (PySem.W.fnOf "_law_copied" "_law_copied" (defArgs s__law_copied) (defBody s__law_copied) (defScope s__law_copied) .none kV11 dc11 pm11 an11 cd11 ct11), sl11⟩)
    (c11 : PySem.W.codeIn K cd11 "_law_copied" = true)
    (k11 : PySem.W.keepIn K (.ref f11) = true)
    (a12 : PySem.W.nsIn K mainGlobals "_law_same" = some (some (.ref f12)))
    (l12 : K.lookup f12 = some ⟨oc12, od12, .func (PySem.W.fnOf "_law_same" "_law_same" (defArgs s__law_same) (defBody s__law_same) (defScope s__law_same) .none kV12 dc12 pm12 an12 cd12 ct12), sl12⟩)
    (c12 : PySem.W.codeIn K cd12 "_law_same" = true)
    (k12 : PySem.W.keepIn K (.ref f12) = true)
    (a13 : PySem.W.nsIn K mainGlobals "_law_words" = some (some (.ref f13)))
    (l13 : K.lookup f13 = some ⟨oc13, od13, .func (PySem.W.fnOf "_law_words" "_law_words" (defArgs s__law_words) (defBody s__law_words) (defScope s__law_words) .none kV13 dc13 pm13 an13 cd13 ct13), sl13⟩)
    (c13 : PySem.W.codeIn K cd13 "_law_words" = true)
    (k13 : PySem.W.keepIn K (.ref f13) = true)
    (a14 : PySem.W.nsIn K mainGlobals "_law_integer" = some (some (.ref f14)))
    (l14 : K.lookup f14 = some ⟨oc14, od14, .func (PySem.W.fnOf "_law_integer" "_law_integer" (defArgs s__law_integer) (defBody s__law_integer) (defScope s__law_integer) .none kV14 dc14 pm14 an14 cd14 ct14), sl14⟩)
    (c14 : PySem.W.codeIn K cd14 "_law_integer" = true)
    (k14 : PySem.W.keepIn K (.ref f14) = true)
    (a15 : PySem.W.nsIn K mainGlobals "_law_variable" = some (some (.ref f15)))
    (l15 : K.lookup f15 = some ⟨oc15, od15, .func (PySem.W.fnOf "_law_variable" "_law_variable" (defArgs s__law_variable) (defBody s__law_variable) (defScope s__law_variable) .none kV15 dc15 pm15 an15 cd15 ct15), sl15⟩)
    (c15 : PySem.W.codeIn K cd15 "_law_variable" = true)
    (k15 : PySem.W.keepIn K (.ref f15) = true)
    (a16 : PySem.W.nsIn K mainGlobals "_law_row" = some (some (.ref f16)))
    (l16 : K.lookup f16 = some ⟨oc16, od16, .func (PySem.W.fnOf "_law_row" "_law_row" (defArgs s__law_row) (defBody s__law_row) (defScope s__law_row) .none kV16 dc16 pm16 an16 cd16 ct16), sl16⟩)
    (c16 : PySem.W.codeIn K cd16 "_law_row" = true)
    (k16 : PySem.W.keepIn K (.ref f16) = true)
    (a17 : PySem.W.nsIn K mainGlobals "_law_due" = some (some (.ref f17)))
    (l17 : K.lookup f17 = some ⟨oc17, od17, .func (PySem.W.fnOf "_law_due" "_law_due" (defArgs s__law_due) (defBody s__law_due) (defScope s__law_due) .none kV17 dc17 pm17 an17 cd17 ct17), sl17⟩)
    (c17 : PySem.W.codeIn K cd17 "_law_due" = true)
    (k17 : PySem.W.keepIn K (.ref f17) = true)
    (a18 : PySem.W.nsIn K mainGlobals "_law_number" = some (some (.ref f18)))
    (l18 : K.lookup f18 = some ⟨oc18, od18, .func (PySem.W.fnOf "_law_number" "_law_number" (defArgs s__law_number) (defBody s__law_number) (defScope s__law_number) .none kV18 dc18 pm18 an18 cd18 ct18), sl18⟩)
    (c18 : PySem.W.codeIn K cd18 "_law_number" = true)
    (k18 : PySem.W.keepIn K (.ref f18) = true)
    (a19 : PySem.W.nsIn K mainGlobals "_law_word" = some (some (.ref f19)))
    (l19 : K.lookup f19 = some ⟨oc19, od19, .func (PySem.W.fnOf "_law_word" "_law_word" (defArgs s__law_word) (defBody s__law_word) (defScope s__law_word) .none kV19 dc19 pm19 an19 cd19 ct19), sl19⟩)
    (c19 : PySem.W.codeIn K cd19 "_law_word" = true)
    (k19 : PySem.W.keepIn K (.ref f19) = true)
    (a20 : PySem.W.nsIn K mainGlobals "_law_variables" = some (some (.ref f20)))
    (l20 : K.lookup f20 = some ⟨oc20, od20, .func (PySem.W.fnOf "_law_variables" "_law_variables" (defArgs s__law_variables) (defBody s__law_variables) (defScope s__law_variables) .none kV20 dc20 pm20 an20 cd20 ct20), sl20⟩)
    (c20 : PySem.W.codeIn K cd20 "_law_variables" = true)
    (k20 : PySem.W.keepIn K (.ref f20) = true)
    (a21 : PySem.W.nsIn K mainGlobals "_law_chosen" = some (some (.ref f21)))
    (l21 : K.lookup f21 = some ⟨oc21, od21, .func (PySem.W.fnOf "_law_chosen" "_law_chosen" (defArgs s__law_chosen) (defBody s__law_chosen) (defScope s__law_chosen) .none kV21 dc21 pm21 an21 cd21 ct21), sl21⟩)
    (c21 : PySem.W.codeIn K cd21 "_law_chosen" = true)
    (k21 : PySem.W.keepIn K (.ref f21) = true)
    (a22 : PySem.W.nsIn K mainGlobals "_law_asked" = some (some (.ref f22)))
    (l22 : K.lookup f22 = some ⟨oc22, od22, .func (PySem.W.fnOf "_law_asked" "_law_asked" (defArgs s__law_asked) (defBody s__law_asked) (defScope s__law_asked) .none kV22 dc22 pm22 an22 cd22 ct22), sl22⟩)
    (c22 : PySem.W.codeIn K cd22 "_law_asked" = true)
    (k22 : PySem.W.keepIn K (.ref f22) = true)
    (a23 : PySem.W.nsIn K mainGlobals "law" = some (some (.ref f23)))
    (l23 : K.lookup f23 = some ⟨oc23, od23, .func (PySem.W.fnOf "law" "law" (defArgs s_law) (defBody s_law) (defScope s_law) .none kV23 dc23 pm23 an23 cd23 ct23), sl23⟩)
    (c23 : PySem.W.codeIn K cd23 "law" = true)
    (k23 : PySem.W.keepIn K (.ref f23) = true)
    (z0 : PySem.W.nsIn K mainGlobals "ValueError" = some none)
    (z1 : PySem.W.nsIn K mainGlobals "all" = some none)
    (z2 : PySem.W.nsIn K mainGlobals "bool" = some none)
    (z3 : PySem.W.nsIn K mainGlobals "int" = some none)
    (z4 : PySem.W.nsIn K mainGlobals "isinstance" = some none)
    (z5 : PySem.W.nsIn K mainGlobals "len" = some none)
    (z6 : PySem.W.nsIn K mainGlobals "list" = some none)
    (z7 : PySem.W.nsIn K mainGlobals "range" = some none)
    (z8 : PySem.W.nsIn K mainGlobals "str" = some none)
    (z9 : PySem.W.nsIn K mainGlobals "tuple" = some none)
    (z10 : PySem.W.nsIn K mainGlobals "zip" = some none)
    (gi0 : PySem.W.nsIn K mainGlobals "MOST_PARTS" = some (some (.int 3 ti0)))
    (gi1 : PySem.W.nsIn K mainGlobals "MOST_PROCEDURES" = some (some (.int 3 ti1)))
    {aW : Addr}
    (gW : PySem.W.nsIn K mainGlobals "WORDS" = some (some (.ref aW)))
    {eW : Array DictEntry}
    {nW : Nat}
    (lW : K.lookup aW = some ⟨.type "dict", none, .dict eW nW, #[]⟩) (iB : PySem.W.KeysLit w.params eW.toList) (wB : (aW == sysModules) = false)
    {b0 x0 y0 : Addr} {db0 dx0 dy0 : Option Addr} {nb0 nx0 ny0 : Nat} {sb0 sx0 sy0 : Array (Option Value)} {tm0 : Tok} {tl0_0 : Tok} (rn0 : PySem.W.nsIn K aW "home" = some (some (.ref b0))) (rb0 : K.lookup b0 = some ⟨.type "tuple", db0, .seq ([.int 1 tm0, .ref x0, .ref y0] : List Value).toArray nb0, sb0⟩) (rl0 : K.lookup x0 = some ⟨.type "tuple", dx0, .seq ([.int 0 tl0_0] : List Value).toArray nx0, sx0⟩) (rr0 : K.lookup y0 = some ⟨.type "tuple", dy0, .seq ([] : List Value).toArray ny0, sy0⟩) {b1 x1 y1 : Addr} {db1 dx1 dy1 : Option Addr} {nb1 nx1 ny1 : Nat} {sb1 sx1 sy1 : Array (Option Value)} {tm1 : Tok} {tl1_0 tl1_1 : Tok} {tr1_0 tr1_1 : Tok} (rn1 : PySem.W.nsIn K aW "swap" = some (some (.ref b1))) (rb1 : K.lookup b1 = some ⟨.type "tuple", db1, .seq ([.int 2 tm1, .ref x1, .ref y1] : List Value).toArray nb1, sb1⟩) (rl1 : K.lookup x1 = some ⟨.type "tuple", dx1, .seq ([.int 0 tl1_0, .int 1 tl1_1] : List Value).toArray nx1, sx1⟩) (rr1 : K.lookup y1 = some ⟨.type "tuple", dy1, .seq ([.int 1 tr1_0, .int 0 tr1_1] : List Value).toArray ny1, sy1⟩) {b2 x2 y2 : Addr} {db2 dx2 dy2 : Option Addr} {nb2 nx2 ny2 : Nat} {sb2 sx2 sy2 : Array (Option Value)} {tm2 : Tok} {tl2_0 tl2_1 : Tok} (rn2 : PySem.W.nsIn K aW "undo" = some (some (.ref b2))) (rb2 : K.lookup b2 = some ⟨.type "tuple", db2, .seq ([.int 2 tm2, .ref x2, .ref y2] : List Value).toArray nb2, sb2⟩) (rl2 : K.lookup x2 = some ⟨.type "tuple", dx2, .seq ([.int 0 tl2_0, .int 1 tl2_1] : List Value).toArray nx2, sx2⟩) (rr2 : K.lookup y2 = some ⟨.type "tuple", dy2, .seq ([] : List Value).toArray ny2, sy2⟩) {b3 x3 y3 : Addr} {db3 dx3 dy3 : Option Addr} {nb3 nx3 ny3 : Nat} {sb3 sx3 sy3 : Array (Option Value)} {tm3 : Tok} {tl3_0 tl3_1 : Tok} {tr3_0 : Tok} (rn3 : PySem.W.nsIn K aW "first" = some (some (.ref b3))) (rb3 : K.lookup b3 = some ⟨.type "tuple", db3, .seq ([.int 2 tm3, .ref x3, .ref y3] : List Value).toArray nb3, sb3⟩) (rl3 : K.lookup x3 = some ⟨.type "tuple", dx3, .seq ([.int 0 tl3_0, .int 1 tl3_1] : List Value).toArray nx3, sx3⟩) (rr3 : K.lookup y3 = some ⟨.type "tuple", dy3, .seq ([.int 0 tr3_0] : List Value).toArray ny3, sy3⟩) {b4 x4 y4 : Addr} {db4 dx4 dy4 : Option Addr} {nb4 nx4 ny4 : Nat} {sb4 sx4 sy4 : Array (Option Value)} {tm4 : Tok} {tl4_0 tl4_1 : Tok} {tr4_0 : Tok} (rn4 : PySem.W.nsIn K aW "last" = some (some (.ref b4))) (rb4 : K.lookup b4 = some ⟨.type "tuple", db4, .seq ([.int 2 tm4, .ref x4, .ref y4] : List Value).toArray nb4, sb4⟩) (rl4 : K.lookup x4 = some ⟨.type "tuple", dx4, .seq ([.int 0 tl4_0, .int 1 tl4_1] : List Value).toArray nx4, sx4⟩) (rr4 : K.lookup y4 = some ⟨.type "tuple", dy4, .seq ([.int 1 tr4_0] : List Value).toArray ny4, sy4⟩) {b5 x5 y5 : Addr} {db5 dx5 dy5 : Option Addr} {nb5 nx5 ny5 : Nat} {sb5 sx5 sy5 : Array (Option Value)} {tm5 : Tok} {tl5_0 tl5_1 tl5_2 : Tok} {tr5_0 tr5_1 tr5_2 : Tok} (rn5 : PySem.W.nsIn K aW "ring" = some (some (.ref b5))) (rb5 : K.lookup b5 = some ⟨.type "tuple", db5, .seq ([.int 3 tm5, .ref x5, .ref y5] : List Value).toArray nb5, sb5⟩) (rl5 : K.lookup x5 = some ⟨.type "tuple", dx5, .seq ([.int 0 tl5_0, .int 1 tl5_1, .int 2 tl5_2] : List Value).toArray nx5, sx5⟩) (rr5 : K.lookup y5 = some ⟨.type "tuple", dy5, .seq ([.int 1 tr5_0, .int 2 tr5_1, .int 0 tr5_2] : List Value).toArray ny5, sy5⟩)
    (q0 : PySem.W.nsIn K aW "Home" = some none) (q1 : PySem.W.nsIn K aW "" = some none) (q2 : PySem.W.nsIn K aW "swap " = some none) (q3 : PySem.W.nsIn K aW "rings" = some none) (q4 : PySem.W.nsIn K aW "las" = some none)
    {aHE : Addr}
    (gHE : PySem.W.nsIn K mainGlobals "HomeError" = some (some (.ref aHE)))
    (ix1 : PySem.W.findIn K (.ref CE0) "__class__" = some (some (.builtin "object.__class__"))) (ix2 : PySem.W.specialIn K (.builtin "object.__class__") "__get__" = some (some (.builtin "getset_descriptor.__get__"))) (ix3 : PySem.W.takesIn K (.builtin "object.__class__") = some true) (ix4 : PySem.W.mroIn K CE0 (.type "object") = some true) (ix5 : PySem.W.isClsIn K CE0 = true)
    (kh1 : PySem.W.isClsIn K aHE = true) (kh2 : PySem.W.typeIn K (.ref aHE) = some (.type "type")) (kh3 : PySem.W.subIn K (.ref CE0) (.ref aHE) = some true)
    (kh4 : PySem.W.subIn K (.ref CE0) (.type "ValueError") = some true)
    : ∃ fd : FuncData, (∀ (s : Shared) (v : Value), BindsTo s fd ⟨[v], []⟩ [("_law_script", v)]) ∧ ∀ base : Heap, K.In base → base.Ns mainGlobals mg → FnOk l.prog w K mg base CX0 11 fa fd ["_law_script"] (spLaw K) := by
  have e := hfa.symm.trans (PySem.W.mg_of X G a23)
  cases e
  have F0 := fun_mk (st := s_NoEquation___init__) l0 c0 k0
  have F1 := fun_mk (st := s_is_integer) l1 c1 k1
  have F2 := fun_mk (st := s_is_within) l2 c2 k2
  have F3 := fun_mk (st := s_is_bit) l3 c3 k3
  have F4 := fun_mk (st := s_is_index) l4 c4 k4
  have F5 := fun_mk (st := s_is_key) l5 c5 k5
  have F6 := fun_mk (st := s_are_keys) l6 c6 k6
  have F7 := fun_mk (st := s_are_parts) l7 c7 k7
  have F8 := fun_mk (st := s_named) l8 c8 k8
  have F9 := fun_mk (st := s__law_pool) l9 c9 k9
  have F10 := fun_mk (st := s__law_draw) l10 c10 k10
  have F11 := fun_mk (st := s__law_copied) l11 c11 k11
  have F12 := fun_mk (st := s__law_same) l12 c12 k12
  have F13 := fun_mk (st := s__law_words) l13 c13 k13
  have F14 := fun_mk (st := s__law_integer) l14 c14 k14
  have F15 := fun_mk (st := s__law_variable) l15 c15 k15
  have F16 := fun_mk (st := s__law_row) l16 c16 k16
  have F17 := fun_mk (st := s__law_due) l17 c17 k17
  have F18 := fun_mk (st := s__law_number) l18 c18 k18
  have F19 := fun_mk (st := s__law_word) l19 c19 k19
  have F20 := fun_mk (st := s__law_variables) l20 c20 k20
  have F21 := fun_mk (st := s__law_chosen) l21 c21 k21
  have F22 := fun_mk (st := s__law_asked) l22 c22 k22
  have F23 := fun_mk (st := s_law) l23 c23 k23
  have T : ∃ T : Top w K mg, T.a_law = fa ∧ T.d_law = PySem.W.fnOf "law" "law" (defArgs s_law) (defBody s_law) (defScope s_law) .none kV23 dc23 pm23 an23 cd23 ct23 := ⟨{ C_NoEquation := CE0, g_NoEquation := PySem.W.mg_of X G ea0, O_NoEquation := ⟨oex_cls el0, es0, eb0, et0, ek0⟩, x_NoEquation := exm_of eb0 ec0 et0 eS0, xf_NoEquation := ⟨eg0, eh0, eb0, ed0⟩, no_NoEquation_place := en0_0, a_NoEquation___init__ := f0, d_NoEquation___init__ := PySem.W.fnOf "__init__" "NoEquation.__init__" (defArgs s_NoEquation___init__) (defBody s_NoEquation___init__) (defScope s_NoEquation___init__) .none kV0 dc0 pm0 an0 cd0 ct0, F_NoEquation___init__ := F0, io_NoEquation := a0, to_NoEquation := i0, a_is_integer := f1, d_is_integer := PySem.W.fnOf "is_integer" "is_integer" (defArgs s_is_integer) (defBody s_is_integer) (defScope s_is_integer) .none kV1 dc1 pm1 an1 cd1 ct1, F_is_integer := F1, g_is_integer := PySem.W.mg_of X G a1, a_is_within := f2, d_is_within := PySem.W.fnOf "is_within" "is_within" (defArgs s_is_within) (defBody s_is_within) (defScope s_is_within) .none kV2 dc2 pm2 an2 cd2 ct2, F_is_within := F2, g_is_within := PySem.W.mg_of X G a2, a_is_bit := f3, d_is_bit := PySem.W.fnOf "is_bit" "is_bit" (defArgs s_is_bit) (defBody s_is_bit) (defScope s_is_bit) .none kV3 dc3 pm3 an3 cd3 ct3, F_is_bit := F3, g_is_bit := PySem.W.mg_of X G a3, a_is_index := f4, d_is_index := PySem.W.fnOf "is_index" "is_index" (defArgs s_is_index) (defBody s_is_index) (defScope s_is_index) .none kV4 dc4 pm4 an4 cd4 ct4, F_is_index := F4, g_is_index := PySem.W.mg_of X G a4, a_is_key := f5, d_is_key := PySem.W.fnOf "is_key" "is_key" (defArgs s_is_key) (defBody s_is_key) (defScope s_is_key) .none kV5 dc5 pm5 an5 cd5 ct5, F_is_key := F5, g_is_key := PySem.W.mg_of X G a5, a_are_keys := f6, d_are_keys := PySem.W.fnOf "are_keys" "are_keys" (defArgs s_are_keys) (defBody s_are_keys) (defScope s_are_keys) .none kV6 dc6 pm6 an6 cd6 ct6, F_are_keys := F6, g_are_keys := PySem.W.mg_of X G a6, a_are_parts := f7, d_are_parts := PySem.W.fnOf "are_parts" "are_parts" (defArgs s_are_parts) (defBody s_are_parts) (defScope s_are_parts) .none kV7 dc7 pm7 an7 cd7 ct7, F_are_parts := F7, g_are_parts := PySem.W.mg_of X G a7, FD_named := ⟨⟨_, _, _, _, _, _, _, _, _, _, rfl, l8, c8, .inl ⟨rfl, rfl⟩, .inr ⟨kD8, rfl, fun q hq => by rw [List.mem_singleton.mp hq]; exact ⟨_, kw8_parts, rfl⟩⟩⟩, k8⟩, a_named := f8, d_named := PySem.W.fnOf "named" "named" (defArgs s_named) (defBody s_named) (defScope s_named) .none (.ref kD8) dc8 pm8 an8 cd8 ct8, F_named := F8, g_named := PySem.W.mg_of X G a8, a__law_pool := f9, d__law_pool := PySem.W.fnOf "_law_pool" "_law_pool" (defArgs s__law_pool) (defBody s__law_pool) (defScope s__law_pool) .none kV9 dc9 pm9 an9 cd9 ct9, F__law_pool := F9, g__law_pool := PySem.W.mg_of X G a9, a__law_draw := f10, d__law_draw := PySem.W.fnOf "_law_draw" "_law_draw" (defArgs s__law_draw) (defBody s__law_draw) (defScope s__law_draw) .none kV10 dc10 pm10 an10 cd10 ct10, F__law_draw := F10, g__law_draw := PySem.W.mg_of X G a10, a__law_copied := f11, d__law_copied := PySem.W.fnOf "_law_copied" "_law_copied" (defArgs s__law_copied) (defBody s__law_copied) (defScope s__law_copied) .none kV11 dc11 pm11 an11 cd11 ct11, F__law_copied := F11, g__law_copied := PySem.W.mg_of X G a11, a__law_same := f12, d__law_same := PySem.W.fnOf "_law_same" "_law_same" (defArgs s__law_same) (defBody s__law_same) (defScope s__law_same) .none kV12 dc12 pm12 an12 cd12 ct12, F__law_same := F12, g__law_same := PySem.W.mg_of X G a12, a__law_words := f13, d__law_words := PySem.W.fnOf "_law_words" "_law_words" (defArgs s__law_words) (defBody s__law_words) (defScope s__law_words) .none kV13 dc13 pm13 an13 cd13 ct13, F__law_words := F13, g__law_words := PySem.W.mg_of X G a13, a__law_integer := f14, d__law_integer := PySem.W.fnOf "_law_integer" "_law_integer" (defArgs s__law_integer) (defBody s__law_integer) (defScope s__law_integer) .none kV14 dc14 pm14 an14 cd14 ct14, F__law_integer := F14, g__law_integer := PySem.W.mg_of X G a14, a__law_variable := f15, d__law_variable := PySem.W.fnOf "_law_variable" "_law_variable" (defArgs s__law_variable) (defBody s__law_variable) (defScope s__law_variable) .none kV15 dc15 pm15 an15 cd15 ct15, F__law_variable := F15, g__law_variable := PySem.W.mg_of X G a15, a__law_row := f16, d__law_row := PySem.W.fnOf "_law_row" "_law_row" (defArgs s__law_row) (defBody s__law_row) (defScope s__law_row) .none kV16 dc16 pm16 an16 cd16 ct16, F__law_row := F16, g__law_row := PySem.W.mg_of X G a16, a__law_due := f17, d__law_due := PySem.W.fnOf "_law_due" "_law_due" (defArgs s__law_due) (defBody s__law_due) (defScope s__law_due) .none kV17 dc17 pm17 an17 cd17 ct17, F__law_due := F17, g__law_due := PySem.W.mg_of X G a17, a__law_number := f18, d__law_number := PySem.W.fnOf "_law_number" "_law_number" (defArgs s__law_number) (defBody s__law_number) (defScope s__law_number) .none kV18 dc18 pm18 an18 cd18 ct18, F__law_number := F18, g__law_number := PySem.W.mg_of X G a18, a__law_word := f19, d__law_word := PySem.W.fnOf "_law_word" "_law_word" (defArgs s__law_word) (defBody s__law_word) (defScope s__law_word) .none kV19 dc19 pm19 an19 cd19 ct19, F__law_word := F19, g__law_word := PySem.W.mg_of X G a19, a__law_variables := f20, d__law_variables := PySem.W.fnOf "_law_variables" "_law_variables" (defArgs s__law_variables) (defBody s__law_variables) (defScope s__law_variables) .none kV20 dc20 pm20 an20 cd20 ct20, F__law_variables := F20, g__law_variables := PySem.W.mg_of X G a20, a__law_chosen := f21, d__law_chosen := PySem.W.fnOf "_law_chosen" "_law_chosen" (defArgs s__law_chosen) (defBody s__law_chosen) (defScope s__law_chosen) .none kV21 dc21 pm21 an21 cd21 ct21, F__law_chosen := F21, g__law_chosen := PySem.W.mg_of X G a21, a__law_asked := f22, d__law_asked := PySem.W.fnOf "_law_asked" "_law_asked" (defArgs s__law_asked) (defBody s__law_asked) (defScope s__law_asked) .none kV22 dc22 pm22 an22 cd22 ct22, F__law_asked := F22, g__law_asked := PySem.W.mg_of X G a22, a_law := fa, d_law := PySem.W.fnOf "law" "law" (defArgs s_law) (defBody s_law) (defScope s_law) .none kV23 dc23 pm23 an23 cd23 ct23, F_law := F23, g_law := PySem.W.mg_of X G a23, z_ValueError := PySem.W.mg_none_of X G z0, z_all := PySem.W.mg_none_of X G z1, z_bool := PySem.W.mg_none_of X G z2, z_int := PySem.W.mg_none_of X G z3, z_isinstance := PySem.W.mg_none_of X G z4, z_len := PySem.W.mg_none_of X G z5, z_list := PySem.W.mg_none_of X G z6, z_range := PySem.W.mg_none_of X G z7, z_str := PySem.W.mg_none_of X G z8, z_tuple := PySem.W.mg_none_of X G z9, z_zip := PySem.W.mg_none_of X G z10, c_MOST_PARTS := ⟨_, PySem.W.mg_of X G gi0, ⟨_, rfl⟩⟩, c_MOST_PROCEDURES := ⟨_, PySem.W.mg_of X G gi1, ⟨_, rfl⟩⟩, a_WORDS := aW, c_WORDS := ⟨_, PySem.W.mg_of X G gW, rfl⟩, e_W := eW, n_W := nW, D_W := ⟨lW, iB, wB⟩, W_ok := words_of ⟨b0, x0, y0, ⟨eW, nW, _, lW, iB, rn0, rfl⟩, sqK rb0 (by simp) (.cons ⟨tm0, rfl⟩ (.cons rfl (.cons rfl .nil))), sqK rl0 (by simp) (.cons ⟨tl0_0, rfl⟩ .nil), sqK rr0 (by simp) .nil⟩ ⟨b1, x1, y1, ⟨eW, nW, _, lW, iB, rn1, rfl⟩, sqK rb1 (by simp) (.cons ⟨tm1, rfl⟩ (.cons rfl (.cons rfl .nil))), sqK rl1 (by simp) (.cons ⟨tl1_0, rfl⟩ (.cons ⟨tl1_1, rfl⟩ .nil)), sqK rr1 (by simp) (.cons ⟨tr1_0, rfl⟩ (.cons ⟨tr1_1, rfl⟩ .nil))⟩ ⟨b2, x2, y2, ⟨eW, nW, _, lW, iB, rn2, rfl⟩, sqK rb2 (by simp) (.cons ⟨tm2, rfl⟩ (.cons rfl (.cons rfl .nil))), sqK rl2 (by simp) (.cons ⟨tl2_0, rfl⟩ (.cons ⟨tl2_1, rfl⟩ .nil)), sqK rr2 (by simp) .nil⟩ ⟨b3, x3, y3, ⟨eW, nW, _, lW, iB, rn3, rfl⟩, sqK rb3 (by simp) (.cons ⟨tm3, rfl⟩ (.cons rfl (.cons rfl .nil))), sqK rl3 (by simp) (.cons ⟨tl3_0, rfl⟩ (.cons ⟨tl3_1, rfl⟩ .nil)), sqK rr3 (by simp) (.cons ⟨tr3_0, rfl⟩ .nil)⟩ ⟨b4, x4, y4, ⟨eW, nW, _, lW, iB, rn4, rfl⟩, sqK rb4 (by simp) (.cons ⟨tm4, rfl⟩ (.cons rfl (.cons rfl .nil))), sqK rl4 (by simp) (.cons ⟨tl4_0, rfl⟩ (.cons ⟨tl4_1, rfl⟩ .nil)), sqK rr4 (by simp) (.cons ⟨tr4_0, rfl⟩ .nil)⟩ ⟨b5, x5, y5, ⟨eW, nW, _, lW, iB, rn5, rfl⟩, sqK rb5 (by simp) (.cons ⟨tm5, rfl⟩ (.cons rfl (.cons rfl .nil))), sqK rl5 (by simp) (.cons ⟨tl5_0, rfl⟩ (.cons ⟨tl5_1, rfl⟩ (.cons ⟨tl5_2, rfl⟩ .nil))), sqK rr5 (by simp) (.cons ⟨tr5_0, rfl⟩ (.cons ⟨tr5_1, rfl⟩ (.cons ⟨tr5_2, rfl⟩ .nil)))⟩, W_no := nowords q0 q1 q2 q3 q4, a_HomeError := aHE, c_HomeError := ⟨_, PySem.W.mg_of X G gHE, rfl⟩, IX := ⟨ix1, ix2, ix3, ix4, ix5⟩, KH := kit_ref kh1 kh2 kh3, KV := kit_typ (by decide +kernel) kh4 }, rfl, rfl⟩
  obtain ⟨T, e1, e2⟩ := T
  refine ⟨PySem.W.fnOf "law" "law" (defArgs s_law) (defBody s_law) (defScope s_law) .none kV23 dc23 pm23 an23 cd23 ct23, fun s v => .of_eq rfl, fun base _ _ => ?_⟩
  · rw [← e1, ← e2]; exact ok_law T
end My
open PySem PySem.W PyProof.Rows
set_option maxRecDepth 100000 in
set_option maxHeartbeats 0 in
theorem PySem.Challenge.cw_penhome_k60_named_equations_holds : PySem.Challenge.rw_penhome_k60_named_equations.Holds := by
  w_on; o_law; k_head; (case hw => w_witness2)
  k_fill
  refine L2.walk_of (l := PySem.Challenge.rw_penhome_k60_named_equations) (n := 63) (k := 11) (x := "_law_script") (CX := fun _ => L2.CX0) (sp := fun w => My.spLaw _) rfl (by decide) rfl ⟨rfl, by decide, by decide⟩ (fun w h Y => PySem.W.kIn_of Y) ?F (fun _ _ a ns hl _ hS => ⟨a, ns, rfl, hS, hl, fun _ => rfl⟩) (fun _ _ _ _ _ h => h)
  case F =>
    intro w mg fa h KX G hmg
    refine' My.all_mk KX G hmg ?ea0 ?el0 ?es0 ?eb0 ?et0 ?ek0 ?ec0 ?eg0 ?eh0 ?ed0 ?eS0 ?en0_0 ?a0 ?i0 ?l0 ?c0 ?k0 ?a1 ?l1 ?c1 ?k1 ?a2 ?l2 ?c2 ?k2 ?a3 ?l3 ?c3 ?k3 ?a4 ?l4 ?c4 ?k4 ?a5 ?l5 ?c5 ?k5 ?a6 ?l6 ?c6 ?k6 ?a7 ?l7 ?c7 ?k7 ?a8 ?l8 ?kw8_parts ?c8 ?k8 ?a9 ?l9 ?c9 ?k9 ?a10 ?l10 ?c10 ?k10 ?a11 ?l11 ?c11 ?k11 ?a12 ?l12 ?c12 ?k12 ?a13 ?l13 ?c13 ?k13 ?a14 ?l14 ?c14 ?k14 ?a15 ?l15 ?c15 ?k15 ?a16 ?l16 ?c16 ?k16 ?a17 ?l17 ?c17 ?k17 ?a18 ?l18 ?c18 ?k18 ?a19 ?l19 ?c19 ?k19 ?a20 ?l20 ?c20 ?k20 ?a21 ?l21 ?c21 ?k21 ?a22 ?l22 ?c22 ?k22 ?a23 ?l23 ?c23 ?k23 ?z0 ?z1 ?z2 ?z3 ?z4 ?z5 ?z6 ?z7 ?z8 ?z9 ?z10 ?gi0 ?gi1 ?gW ?lW ?iB ?wB ?rn0 ?rb0 ?rl0 ?rr0 ?rn1 ?rb1 ?rl1 ?rr1 ?rn2 ?rb2 ?rl2 ?rr2 ?rn3 ?rb3 ?rl3 ?rr3 ?rn4 ?rb4 ?rl4 ?rr4 ?rn5 ?rb5 ?rl5 ?rr5 ?q0 ?q1 ?q2 ?q3 ?q4 ?gHE ?ix1 ?ix2 ?ix3 ?ix4 ?ix5 ?kh1 ?kh2 ?kh3 ?kh4
    (case ea0 => k_is); (case el0 => exact ⟨_, _, _, _, _, _, _, _, _, _, _, _, _, _, by k_is⟩); (case es0 => k_is); (case eb0 => k_is); (case et0 => k_is); (case ek0 => k_is); (case ec0 => k_is); (case eg0 => k_is); (case eh0 => k_is); (case ed0 => k_is); (case eS0 => first | rfl | k_is); (case en0_0 => k_is); (case a0 => k_is); (case i0 => k_is); (case l0 => k_is); (case c0 => k_is); (case k0 => k_is); (case a1 => k_is); (case l1 => k_is); (case c1 => k_is); (case k1 => k_is); (case a2 => k_is); (case l2 => k_is); (case c2 => k_is); (case k2 => k_is); (case a3 => k_is); (case l3 => k_is); (case c3 => k_is); (case k3 => k_is); (case a4 => k_is); (case l4 => k_is); (case c4 => k_is); (case k4 => k_is); (case a5 => k_is); (case l5 => k_is); (case c5 => k_is); (case k5 => k_is); (case a6 => k_is); (case l6 => k_is); (case c6 => k_is); (case k6 => k_is); (case a7 => k_is); (case l7 => k_is); (case c7 => k_is); (case k7 => k_is); (case a8 => k_is); (case l8 => k_is); (case kw8_parts => k_is); (case c8 => k_is); (case k8 => k_is); (case a9 => k_is); (case l9 => k_is); (case c9 => k_is); (case k9 => k_is); (case a10 => k_is); (case l10 => k_is); (case c10 => k_is); (case k10 => k_is); (case a11 => k_is); (case l11 => k_is); (case c11 => k_is); (case k11 => k_is); (case a12 => k_is); (case l12 => k_is); (case c12 => k_is); (case k12 => k_is); (case a13 => k_is); (case l13 => k_is); (case c13 => k_is); (case k13 => k_is); (case a14 => k_is); (case l14 => k_is); (case c14 => k_is); (case k14 => k_is); (case a15 => k_is); (case l15 => k_is); (case c15 => k_is); (case k15 => k_is); (case a16 => k_is); (case l16 => k_is); (case c16 => k_is); (case k16 => k_is); (case a17 => k_is); (case l17 => k_is); (case c17 => k_is); (case k17 => k_is); (case a18 => k_is); (case l18 => k_is); (case c18 => k_is); (case k18 => k_is); (case a19 => k_is); (case l19 => k_is); (case c19 => k_is); (case k19 => k_is); (case a20 => k_is); (case l20 => k_is); (case c20 => k_is); (case k20 => k_is); (case a21 => k_is); (case l21 => k_is); (case c21 => k_is); (case k21 => k_is); (case a22 => k_is); (case l22 => k_is); (case c22 => k_is); (case k22 => k_is); (case a23 => k_is); (case l23 => k_is); (case c23 => k_is); (case k23 => k_is); (case z0 => k_is); (case z1 => k_is); (case z2 => k_is); (case z3 => k_is); (case z4 => k_is); (case z5 => k_is); (case z6 => k_is); (case z7 => k_is); (case z8 => k_is); (case z9 => k_is); (case z10 => k_is); (case gi0 => k_is); (case gi1 => k_is); (case gW => k_is); (case lW => k_is); (case iB => repeat (first | exact True.intro | refine ⟨⟨_, _, rfl, rfl⟩, ?_⟩)); (case wB => decide); (case rn0 => k_is); (case rb0 => k_is); (case rl0 => k_is); (case rr0 => k_is); (case rn1 => k_is); (case rb1 => k_is); (case rl1 => k_is); (case rr1 => k_is); (case rn2 => k_is); (case rb2 => k_is); (case rl2 => k_is); (case rr2 => k_is); (case rn3 => k_is); (case rb3 => k_is); (case rl3 => k_is); (case rr3 => k_is); (case rn4 => k_is); (case rb4 => k_is); (case rl4 => k_is); (case rr4 => k_is); (case rn5 => k_is); (case rb5 => k_is); (case rl5 => k_is); (case rr5 => k_is); (case q0 => k_is); (case q1 => k_is); (case q2 => k_is); (case q3 => k_is); (case q4 => k_is); (case gHE => k_is); (case ix1 => k_is); (case ix2 => k_is); (case ix3 => k_is); (case ix4 => k_is); (case ix5 => k_is); (case kh1 => k_is); (case kh2 => k_is); (case kh3 => k_is); (case kh4 => k_is)

