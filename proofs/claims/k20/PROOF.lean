import PyProof.Rows.All
import Wide.All
import OpenK.AllK
import Wide.FinOn
import HandS.ForMost
import HandS.Star
import HandS.Wide
import HandS.Flow
import HandS.IsInst
import HandS.Walk
import HandS.NoneIn
import HandS.Zip
import HandS.More
import HandS.Codes
import HandS.ExcOwn
import HandS.ExcInit
import HandS.ExcField
import HandS.Deep
import HandS.OwnEq
import HandS.TupAny
import HandS.WordsExc
import HandS.TryMany
import HandS.DictComp
import HandS.Defaults
import HandS.CallSlots
import HandS.Style
import HandS.Text
import HandS.GenList
import HandS.GenYield
import PyProof.ForAny
import KE.GoesMore
import KE.GoesZip
import KE.GoesEnum
import PyProof.CollectIter
import PyProof.WalksMore
import KE.KUnpack
import PyProof.ReprRoads
import PySem.Challenge.RW_penhome_k20_keep_puts_place_and_heading
set_option Elab.async false
set_option linter.all false
set_option maxRecDepth 100000
namespace My
open PySem PySem.Spec PyProof.Rows L2
theorem hu64 {A : Around} {k : Nat} (hr : Room k A) : A.units + 64 < cLine := by
  have := hr.un
  omega
section
variable {X : Cx}
theorem call_intI : CallR X (.type "int") (fun xs H Q => ∃ i, xs = [.int i] ∧ Q (.int i) H) := fun pins s σ H xs us Q I r ⟨i, e, q⟩ => call_int1 pins s σ H xs us Q I r (.inl ⟨i, e, q⟩)
theorem call_intB : CallR X (.type "int") (fun xs H Q => ∃ k, xs = [.bl k] ∧ Q (.int (if k then 1 else 0)) H) := fun pins s σ H xs us Q I r ⟨i, e, q⟩ => call_int1 pins s σ H xs us Q I r (.inr ⟨i, e, q⟩)
theorem call_lenA : CallR X (.builtin "len") (fun xs H Q => ∃ p ys, xs = [.ref p] ∧ (SqL X.K H p ys ∨ SqT X.K H p ys) ∧ Q (.int ys.length) H) := call_len_seq
theorem call_listL : CallR X (.type "list") (fun xs H Q => ∃ p ys, xs = [.ref p] ∧ (SqL X.K H p ys ∨ SqT X.K H p ys) ∧ ∀ l, H l = none → Q (.ref l) (upd H l (.lst ys))) := call_list_of
theorem call_tupL : CallR X (.type "tuple") (fun xs H Q => ∃ p ys, xs = [.ref p] ∧ SqL X.K H p ys ∧ ∀ l, H l = none → Q (.ref l) (upd H l (.tup ys))) := fun pins s σ H xs us Q I r ⟨p, ys, e, h, q⟩ => call_tuple_of pins s σ H xs us Q I r ⟨p, ys, e, .inl ⟨h, q⟩⟩
theorem get_lst : PGet X (fun o i H Q => ∃ p xs k v, o = .ref p ∧ i = .int k ∧ 0 ≤ k ∧ SqL X.K H p xs ∧ xs[k.toNat]? = some v ∧ Q v H) := by
  intro pins s σ H o i ov iv Q I r1 r2 h
  obtain ⟨p, xs, k, v, rfl, rfl, h0, hq, he, q⟩ := h
  cases r1
  obtain ⟨t, rfl⟩ := r2
  obtain ⟨its, r, pl, hz⟩ := I.list hq
  obtain ⟨w, ew, rw'⟩ := r.get he
  have hl := r.length
  have hn := line63
  have hlt : k.toNat < xs.length := (List.getElem?_eq_some_iff.mp he).1
  exact wpAny_getItem_list pl.isList h0 (by omega) (by simpa using ew) ⟨v, H, I, rw', q⟩
end
/-! ### lists and tuples of ints compared -/
theorem dpAllInts {K : PySem.W.Frag} {H : Hp} : ∀ ns : List Int, DpAll K H (ns.map V.int) (ns.map PyData.int)
  | [] => .nil
  | n :: r => .cons (.int n) (dpAllInts r)
theorem canAllInts : ∀ ns : List Int, PyData.canLayAll0 (ns.map PyData.int) = true
  | [] => by simp [PyData.canLayAll0]
  | n :: r => by simp [PyData.canLayAll0, PyData.canLay0, canAllInts r]
theorem depthAllInts : ∀ ns : List Int, PyData.depthAll (ns.map PyData.int) = 0
  | [] => by simp [PyData.depthAll]
  | n :: r => by simp [PyData.depthAll, PyData.depth, depthAllInts r]
theorem shList (ns : List Int) : SeqAt.shaped (.list (ns.map PyData.int)) = true := by
  simp [SeqAt.shaped, PyData.canLay0, PyData.depth, canAllInts, depthAllInts]
theorem shTup (ns : List Int) : SeqAt.shaped (.tuple (ns.map PyData.int)) = true := by
  simp [SeqAt.shaped, PyData.canLay0, PyData.depth, canAllInts, depthAllInts]
theorem eqvAllInts : ∀ ns ms : List Int, PyData.eqvAll (ns.map PyData.int) (ms.map PyData.int) = decide (ns = ms)
  | [], [] => by simp [PyData.eqvAll]
  | [], m :: r => by simp [PyData.eqvAll]
  | n :: r, [] => by simp [PyData.eqvAll]
  | n :: r, m :: q => by
    rw [List.map_cons, List.map_cons, PyData.eqvAll, eqvAllInts r q, PyData.eqv]
    by_cases e : n = m
    · subst e; simp
    · simp [e]
section
variable {X : Cx}
def rEqI (K : PySem.W.Frag) : R2 := fun x y H Q => ∃ (a b : Addr) (ns ms : List Int), x = .ref a ∧ y = .ref b ∧ SqL K H a (ns.map V.int) ∧ SqL K H b (ms.map V.int) ∧ Q (.bl (decide (ns = ms))) H
def rNeI (K : PySem.W.Frag) : R2 := fun x y H Q => ∃ (a b : Addr) (ns ms : List Int), x = .ref a ∧ y = .ref b ∧ SqL K H a (ns.map V.int) ∧ SqL K H b (ms.map V.int) ∧ Q (.bl (!decide (ns = ms))) H
def rEqTI (K : PySem.W.Frag) : R2 := fun x y H Q => ∃ (a b : Addr) (ns ms : List Int), x = .ref a ∧ y = .ref b ∧ SqT K H a (ns.map V.int) ∧ SqT K H b (ms.map V.int) ∧ Q (.bl (decide (ns = ms))) H
def rNeTI (K : PySem.W.Frag) : R2 := fun x y H Q => ∃ (a b : Addr) (ns ms : List Int), x = .ref a ∧ y = .ref b ∧ SqT K H a (ns.map V.int) ∧ SqT K H b (ms.map V.int) ∧ Q (.bl (!decide (ns = ms))) H
theorem op_eqI (hu : X.A.units + 64 < cLine) : OpR X (compareOp .Eq) (rEqI X.K) := fun pins s σ H x y v u Q I rx ry ⟨a, b, ns, ms, e1, e2, h1, h2, q⟩ =>
  op_eqD hu pins s σ H x y v u Q I rx ry ⟨_, _, e1 ▸ .lst h1 (dpAllInts ns), e2 ▸ .lst h2 (dpAllInts ms), shList ns, shList ms, by rw [PyData.eqv, eqvAllInts]; exact q⟩
theorem op_neI (hu : X.A.units + 64 < cLine) : OpR X (compareOp .NotEq) (rNeI X.K) := fun pins s σ H x y v u Q I rx ry ⟨a, b, ns, ms, e1, e2, h1, h2, q⟩ =>
  op_neD hu pins s σ H x y v u Q I rx ry ⟨_, _, e1 ▸ .lst h1 (dpAllInts ns), e2 ▸ .lst h2 (dpAllInts ms), shList ns, shList ms, by rw [PyData.eqv, eqvAllInts]; exact q⟩
theorem op_eqTI (hu : X.A.units + 64 < cLine) : OpR X (compareOp .Eq) (rEqTI X.K) := fun pins s σ H x y v u Q I rx ry ⟨a, b, ns, ms, e1, e2, h1, h2, q⟩ =>
  op_eqD hu pins s σ H x y v u Q I rx ry ⟨_, _, e1 ▸ .tup h1 (dpAllInts ns), e2 ▸ .tup h2 (dpAllInts ms), shTup ns, shTup ms, by rw [PyData.eqv, eqvAllInts]; exact q⟩
theorem op_neTI (hu : X.A.units + 64 < cLine) : OpR X (compareOp .NotEq) (rNeTI X.K) := fun pins s σ H x y v u Q I rx ry ⟨a, b, ns, ms, e1, e2, h1, h2, q⟩ =>
  op_neD hu pins s σ H x y v u Q I rx ry ⟨_, _, e1 ▸ .tup h1 (dpAllInts ns), e2 ▸ .tup h2 (dpAllInts ms), shTup ns, shTup ms, by rw [PyData.eqv, eqvAllInts]; exact q⟩
end
/-! ### heaps -/
theorem same_upd {H : Hp} {p : Addr} {o : HO} (h : H p = none) : Same H (upd H p o) := fun b x e => by
  rw [upd_ne (ne_of_none e h)]
  exact e
/-- all that was tracked is as it was, but for what is at p -/
def Kp (p : Addr) (H H' : Hp) : Prop := ∀ b o, b ≠ p → H b = some o → H' b = some o
theorem Kp.refl (p : Addr) (H : Hp) : Kp p H H := fun _ _ _ h => h
theorem Kp.trans {p : Addr} {H H1 H2 : Hp} (a : Kp p H H1) (b : Kp p H1 H2) : Kp p H H2 := fun c o n h => b c o n (a c o n h)
theorem Kp.upd {p : Addr} {H : Hp} {o : HO} : Kp p H (upd H p o) := fun b x n e => by rw [upd_ne n]; exact e
theorem Kp.of {p : Addr} {H H' : Hp} (s : Same H H') : Kp p H H' := fun b o _ e => s b o e
theorem Kp.new {p q : Addr} {H H1 : Hp} {o : HO} (k : Kp p H H1) (n : H q = none) : Kp p H (L2.upd H1 q o) := fun b x nb e => by
  rw [upd_ne (ne_of_none e n)]
  exact k b x nb e
theorem same_new {q : Addr} {H H1 : Hp} {o : HO} (k : Same H H1) (n : H q = none) : Same H (upd H1 q o) := fun b x e => by
  rw [upd_ne (ne_of_none e n)]
  exact k b x e
theorem Kp.none {p q : Addr} {H H' : Hp} (k : Kp p H H') (h : H' q = none) (n : q ≠ p) : H q = none := by
  cases e : H q with
  | none => rfl
  | some o =>
    rw [k q o n e] at h
    cases h
/-- the law's pool: a list of L ints -/
def Pool (H : Hp) (p : Addr) (L : Nat) : Prop := ∃ ns : List Int, H p = some (.lst (ns.map V.int)) ∧ ns.length = L
theorem Pool.ne {H : Hp} {p q : Addr} {L : Nat} (h : Pool H p L) (n : H q = none) : q ≠ p := fun e => by
  obtain ⟨ns, h, _⟩ := h
  rw [← e, n] at h
  cases h
theorem Pool.new {H : Hp} {p q : Addr} {o : HO} {L : Nat} (h : Pool H p L) (n : H q = none) : Pool (upd H q o) p L := by
  have hn := (h.ne n).symm
  obtain ⟨ns, h, e⟩ := h
  exact ⟨ns, by rw [upd_ne hn]; exact h, e⟩
theorem Pool.keep {H : Hp} {p q : Addr} {o : HO} {L : Nat} (h : Pool H p L) (n : q ≠ p) : Pool (upd H q o) p L := by
  obtain ⟨ns, h, e⟩ := h
  exact ⟨ns, by rw [upd_ne n.symm]; exact h, e⟩
theorem get_map {ns : List Int} {i : Nat} {n : Int} (h : ns[i]? = some n) : (ns.map V.int)[i]? = some (.int n) := by
  rw [List.getElem?_map, h]
  rfl
theorem at_map {ns : List Int} {i : Int} (h0 : 0 ≤ i) (h1 : i < ns.length) : ∃ n, ns[i.toNat]? = some n ∧ atI (ns.map V.int) i = some (.int n) := by
  have hi : i.toNat < ns.length := by omega
  refine ⟨ns[i.toNat], List.getElem?_eq_getElem hi, ?_⟩
  refine at_of (j := i.toNat) (by omega) ?_
  exact get_map (List.getElem?_eq_getElem hi)
theorem ixN_in {n : Nat} {i : Int} (h0 : 0 ≤ i) (h1 : i < n) : ixN n i = some i.toNat := by
  unfold ixN
  rw [if_pos h0, if_pos h1]
theorem set_map {ns : List Int} {j : Nat} {z : Int} : (ns.map V.int).set j (.int z) = (ns.set j z).map V.int := by
  rw [List.map_set]
theorem small100 {n : Nat} (h : n ≤ 1000) : n ≤ sizeLine := Nat.le_of_lt (small1000 h)
theorem len_map (ns : List Int) : (ns.map V.int).length = ns.length := List.length_map ..
/-! ### what a for walks: a list or a tuple -/
def iSeq (K : PySem.W.Frag) (tl : TE) : TI := fun σ H R => iList K tl σ H R ∨ iTup K tl σ H R
theorem pi_seq {X : Cx} {tg l : Expr} {tl : TE} (h1 : PI X tg l (iList X.K tl)) (h2 : PI X tg l (iTup X.K tl)) : PI X tg l (iSeq X.K tl) :=
  ⟨fun pins s σ H R I h => h.elim (fun h => h1.run pins s σ H R I h) fun h => h2.run pins s σ H R I h⟩
theorem pi_sq {X : Cx} {tg l : Expr} {tl : TE} (h : PE X l tl) : PI X tg l (iSeq X.K tl) := pi_seq (pi_list h) (pi_tup h)
/-! ### the same rules, the written part by name (within a comprehension's block) -/
section
variable (K : PySem.W.Frag) {X : Cx}
def rLenA (K : PySem.W.Frag) : List V → Hp → VK → Prop := fun xs H Q => ∃ p ys, xs = [V.ref p] ∧ (SqL K H p ys ∨ SqT K H p ys) ∧ Q (.int ys.length) H
def rListL (K : PySem.W.Frag) : List V → Hp → VK → Prop := fun xs H Q => ∃ p ys, xs = [V.ref p] ∧ (SqL K H p ys ∨ SqT K H p ys) ∧ ∀ l, H l = none → Q (.ref l) (upd H l (.lst ys))
def rTupL (K : PySem.W.Frag) : List V → Hp → VK → Prop := fun xs H Q => ∃ p ys, xs = [V.ref p] ∧ SqL K H p ys ∧ ∀ l, H l = none → Q (.ref l) (upd H l (.tup ys))
theorem k_len (hK : X.K = K := by rfl) : CallR X (.builtin "len") (rLenA K) := hK ▸ call_lenA
theorem k_list (hK : X.K = K := by rfl) : CallR X (.type "list") (rListL K) := hK ▸ call_listL
theorem k_tuple (hK : X.K = K := by rfl) : CallR X (.type "tuple") (rTupL K) := hK ▸ call_tupL
theorem k_isi (hK : X.K = K := by rfl) : CallR X (.builtin "isinstance") (rIsi K) := hK ▸ call_isi
theorem k_all (hK : X.K = K := by rfl) (hc : X.calm = true := by rfl) : CallR X (.builtin "all") (rAll K) := hK ▸ cr_all hc
theorem k_sum (hK : X.K = K := by rfl) (hc : X.calm = true := by rfl) : CallR X (.builtin "sum") (rSum K) := hK ▸ cr_sum hc
theorem k_ixL (hK : X.K = K := by rfl) : IxR X (rIxL K) := hK ▸ ix_list
theorem k_ixT (hK : X.K = K := by rfl) : IxR X (rIxT K) := hK ▸ ix_tup
theorem k_slL (hK : X.K = K := by rfl) : SlR X (rSlL K) := hK ▸ sl_list
theorem k_slT (hK : X.K = K := by rfl) : SlR X (rSlT K) := hK ▸ sl_tup
theorem k_piL {tg l : Expr} {tl : TE} (hl : PE X l tl) (hK : X.K = K := by rfl) : PI X tg l (iList K tl) := hK ▸ pi_list hl
theorem k_piT {tg l : Expr} {tl : TE} (hl : PE X l tl) (hK : X.K = K := by rfl) : PI X tg l (iTup K tl) := hK ▸ pi_tup hl
theorem k_piS {tg l : Expr} {tl : TE} (hl : PE X l tl) (hK : X.K = K := by rfl) : PI X tg l (iSeq K tl) := hK ▸ pi_sq hl
theorem k_eqI (hu : X.A.units + 64 < cLine) (hK : X.K = K := by rfl) : OpR X (compareOp .Eq) (rEqI K) := hK ▸ op_eqI hu
theorem k_neI (hu : X.A.units + 64 < cLine) (hK : X.K = K := by rfl) : OpR X (compareOp .NotEq) (rNeI K) := hK ▸ op_neI hu
theorem k_eqTI (hu : X.A.units + 64 < cLine) (hK : X.K = K := by rfl) : OpR X (compareOp .Eq) (rEqTI K) := hK ▸ op_eqTI hu
theorem k_neTI (hu : X.A.units + 64 < cLine) (hK : X.K = K := by rfl) : OpR X (compareOp .NotEq) (rNeTI K) := hK ▸ op_neTI hu
theorem k_getL (hK : X.K = K := by rfl) : PGet X (fun o i H Q => ∃ p xs k v, o = .ref p ∧ i = .int k ∧ 0 ≤ k ∧ SqL K H p xs ∧ xs[k.toNat]? = some v ∧ Q v H) := hK ▸ get_lst
theorem k_star {e : Expr} {es : List Expr} {te : TE} {t : TA} {p : Pos} (he : PE X e te) (hr : PA X es t) (hK : X.K = K := by rfl) (hs : starEach (.Starred e p :: es) X.env = (true, eval e X.env) :: starEach es X.env := by rfl) : PA X (.Starred e p :: es) (StX.tStar K te t) := hK ▸ StX.pa_star he hr hs
end
theorem iteP {c A B : Prop} [Decidable c] (hc : c) (h : A) : if decide c = true then A else B := by
  rw [if_pos (decide_eq_true hc)]
  exact h
section
variable (K : PySem.W.Frag) {X : Cx}
theorem k_listT (hK : X.K = K := by rfl) : CallR X (.type "list") (rListL K) := k_list K hK
end
section
variable (K : PySem.W.Frag) {X : Cx}
theorem k_zipD {ta : TA} {e e2 : Expr} {p pos tpos : Pos} {elts : List Expr} {kk : Nat} (hg : Gl X "zip") (hm : X.mg "zip" = none) (ha : PA X [e, e2] ta) (hK : X.K = K := by rfl)
    (hs : starEach [e, e2] X.env = (false, eval e X.env) :: starEach [e2] X.env := by rfl) (hpl : (backTo pos (starEach [e2] X.env)).any (·.1) = false := by rfl) :
    PI X (.Tuple elts kk tpos) (.Call (.Name "zip" p) [e, e2] [] pos) (iZip K ta) := hK ▸ pi_zip hg hm ha hs hpl
end
section
variable (K : PySem.W.Frag) {X : Cx}
theorem k_isiT (hK : X.K = K := by rfl) : CallR X (.builtin "isinstance") (rIsiT K) := hK ▸ call_isiT
theorem k_ixQ (hK : X.K = K := by rfl) : IxR X (rIx K) := hK ▸ ix_seq
end

/-! ### word, *numbers = t -/
section
variable {prog : Program} {w : World} {A : Around} {E : Value → Shared → Prop} {s : Shared}
theorem tup_walks (hh : A.handled = none) (it t : Addr) (hne : t ≠ it) (items : Array Value) (k : Nat) :
    WalksS prog w A it [it, t] [it] (fun a b => b = a) (items.size - k) (fun i v => items[k + i]? = some v) (fun i s => IsTupIter s.heap it t (k + i) ∧ IsTup s.heap t items) where
  sub := fun b hb => by rw [List.mem_singleton.mp hb]; exact List.mem_cons_self ..
  grefl := fun _ => rfl
  gtrans := fun _ _ _ h1 h2 => h2.trans h1
  frame := fun i s h' tk st _ hk => by
    obtain ⟨⟨o, ho, r⟩, ⟨p, hp, u⟩⟩ := st
    exact ⟨⟨o, hk it (by simp) o ho, r⟩, ⟨p, hk t (by simp) p hp, u⟩⟩
  item := fun i s Q E hi st hQ => by
    have hlt : k + i < items.size := by omega
    refine next_tuple_item st.1 st.2 (x := items[k + i]) (by simp [hlt]) fun h' hit hs => ?_
    refine hQ _ _ (by simp [hlt]) ⟨hit, st.2.extBut hs.extBut hne⟩ ⟨fun b o hb e => hs.extBut b o (fun q => hb (by simp [q])) e, rfl, rfl, rfl, Nat.le_refl _⟩
  done := fun s Q E st hQ => next_tuple_end hh st.1 st.2 (by simp; omega) fun h' he => hQ _ ⟨fun b o hb e => he b o (fun q => hb (by simp [q])) e, rfl, rfl, rfl, Nat.le_refl _⟩
  self := fun i s Q E st hQ => wpAny_pyIter_tupleiter st.1 hQ
theorem unpack_star {t : Addr} {x : Value} {rest : List Value} {Q : List Value → Shared → Prop} (hh : A.handled = none) (ht : IsTup s.heap t (x :: rest).toArray) (hz : (x :: rest).length ≤ sizeLine)
    (hQ : ∀ (h' : Heap) (tk : Nat), (∀ b o, s.heap.get? b = some o → h'.get? b = some o) → Q [x, .ref h'.objs.size] { s with heap := h'.push { cls := .type "list", data := .seq rest.toArray }, toks := tk }) :
    wpAny (model prog w) A (unpackItems (.ref t) 2 (some 1)) Q E s := by
  have hlt : t < s.heap.objs.size := by
    obtain ⟨o, ho, _⟩ := id ht
    exact Heap.lt_size ho
  have hne : t ≠ s.heap.objs.size := Nat.ne_of_lt hlt
  unfold unpackItems
  refine wpAny_bind (show wpAny (model prog w) A (notIterableAtAll (.ref t)) _ E s from ?_)
  unfold notIterableAtAll
  refine wpAny_bind (wpAny_specialOf ht.typeIs slot_tuple_iter.lookup (wpAny_pure ?_))
  simp only [Bool.false_eq_true, if_false]
  refine wpAny_bind (wpAny_holding (iter_tuple ht ?_))
  refine wpAny_bind (wpAny_holding (draw_tuple hne 1 0 _ _ ⟨_, Heap.get?_push_size _ rfl, rfl, rfl⟩ (ht.push _) (by simp) fun h1 hit hs => ?_))
  have e1 : List.take 1 (List.drop 0 (x :: rest).toArray.toList) = [x] := by simp
  rw [e1, if_neg (by simp)]
  have ht1 : IsTup h1 t (x :: rest).toArray := (ht.push _).extBut hs.extBut hne
  have hlen : (x :: rest).toArray.size - 1 = rest.length := by simp
  have hlt1 : ∀ b ∈ [s.heap.objs.size, t], b < h1.objs.size := fun b hb => by
    have e : b = s.heap.objs.size ∨ b = t := by simpa using hb
    rcases e with rfl | rfl
    · obtain ⟨o, ho, _⟩ := id hit
      exact Heap.lt_size ho
    · obtain ⟨o, ho, _⟩ := id ht1
      exact Heap.lt_size ho
  refine wpAny_bind (wpAny_holding (wpAny_collect_iter (.inr (.inr (.inr rfl))) (tup_walks (A := A.in1) (prog := prog) (w := w) hh s.heap.objs.size t hne (x :: rest).toArray 1) (fun i s' st => ?_) ⟨hit, ht1⟩ hlt1 (by simp) (fun s' acc hm ha => ?_) (by rw [hlen]; rw [List.length_cons] at hz; omega)))
  · obtain ⟨o, ho, hc, _⟩ := st.1
    exact ⟨o, ho, hc⟩
  · have hacc : acc.toList = rest := by
      obtain ⟨hsz, hit⟩ := ha
      refine List.ext_getElem (by rw [Array.length_toList, hsz]; exact hlen) fun j h1 h2 => ?_
      have := hit j acc[j] (by simp [Array.length_toList] at h1; simp [h1])
      simp [Nat.add_comm 1 j] at this
      rw [List.getElem?_eq_getElem h2] at this
      simpa using (Option.some.inj this).symm
    rw [hacc]
    rw [if_neg (by omega)]
    simp only [Nat.sub_self, show 2 - 1 - 1 = 0 from rfl, Nat.sub_zero, List.take_length, List.drop_length, List.append_nil]
    obtain ⟨hp, gens, drawn, toks, os⟩ := s'
    obtain ⟨m1, m2, m3, m4, m5⟩ := hm
    cases m2
    cases m3
    cases m4
    refine wpAny_bind (wpAny_newObj_type (wpAny_pure ?_) (by show rest.toArray.size ≤ sizeLine; rw [List.size_toArray]; rw [List.length_cons] at hz; omega))
    refine hQ hp toks fun b o e => ?_
    have hb : b ≠ s.heap.objs.size := Nat.ne_of_lt (Heap.lt_size e)
    exact m1 b o (by simpa using hb) (hs.extBut b o hb (Heap.get?_push_of_some _ e))
end
def gStar (K : PySem.W.Frag) (g1 g2 : TG) : TG := fun v σ H Q => ∃ (a : Addr) (z : V) (xs : List V), v = .ref a ∧ SqT K H a (z :: xs) ∧ ∀ q, H q = none → g1 z σ (upd H q (.lst xs)) fun σ' H' => g2 (.ref q) σ' H' Q
theorem pg_star (K : PySem.W.Frag) {X : Cx} {t1 t2 : Expr} {g1 g2 : TG} {k : Nat} {p pos : Pos} (hc : X.calm = true) (h1 : PG X t1 g1) (h2 : PG X t2 g2) (hK : X.K = K := by rfl)
    (hs : assignEach [t1, .Starred t2 p] X.env = [(false, assign t1 X.env), (true, assign t2 X.env)] := by rfl) : PG X (.Tuple [t1, .Starred t2 p] k pos) (gStar K g1 g2) := by
  subst hK
  refine ⟨fun pins s σ H v u Q I r hw => ?_⟩
  obtain ⟨a, z, xs, rfl, hq, hw⟩ := hw
  cases r
  obtain ⟨its, rv, ht, hz⟩ := I.tuple hq
  cases rv with
  | @cons _ uz _ us rz rs =>
    rw [assign_Tuple, hs]
    refine wpAny_bind (wpAny_standAt ?_)
    unfold unpack
    refine wpAny_bind (wpAny_holding (unpack_star (I.ok.hd hc) ht (by have := rs.length; rw [List.length_cons] at hz ⊢; omega) fun h' tk hk => ?_))
    have I1 : Inv X pins σ H { s with heap := h', toks := tk } := I.kept (t' := tk) hk
    have hf : H h'.objs.size = none := I1.hok.fresh (Nat.le_refl _)
    have I2 : Inv X pins σ (upd H h'.objs.size (.lst xs)) { s with heap := h'.push { cls := .type "list", data := .seq us.toArray }, toks := tk } :=
      I1.laid (t' := tk) (o := .lst xs) (fun b ob q => Heap.get?_push_of_some _ q) (Nat.le_refl _) ⟨by rw [List.length_cons] at hz; omega, us, 0, rs, Heap.get?_push_size _ rfl⟩
    refine assignInOrder_cons (thn (h1.run pins _ σ _ z uz _ I2 rz (hw _ hf)) fun _ s3 ⟨σ3, H3, I3, q3⟩ => ?_)
    exact assignInOrder_cons (thn (h2.run pins s3 σ3 H3 (.ref h'.objs.size) _ _ I3 rfl q3) fun _ s4 h4 => assignInOrder_nil h4)

/-! ### first, *others = a list -/
section
variable {prog : Program} {w : World} {A : Around} {E : Value → Shared → Prop} {s : Shared}
theorem lst_walks (hh : A.handled = none) (it t : Addr) (hne : t ≠ it) (items : Array Value) (k : Nat) :
    WalksS prog w A it [it, t] [it] (fun a b => b = a) (items.size - k) (fun i v => items[k + i]? = some v) (fun i s => s.heap.IsListIter it t (k + i) ∧ s.heap.IsList t items) where
  sub := fun b hb => by rw [List.mem_singleton.mp hb]; exact List.mem_cons_self ..
  grefl := fun _ => rfl
  gtrans := fun _ _ _ h1 h2 => h2.trans h1
  frame := fun i s h' tk st _ hk => by
    obtain ⟨⟨o, ho, r⟩, ⟨p, hp, u⟩⟩ := st
    exact ⟨⟨o, hk it (by simp) o ho, r⟩, ⟨p, hk t (by simp) p hp, u⟩⟩
  item := fun i s Q E hi st hQ => by
    have hlt : k + i < items.size := by omega
    refine wpAny_pyNext_list_item st.1 st.2 (x := items[k + i]) (by simp [hlt]) fun h' hit hs => ?_
    refine hQ _ _ (by simp [hlt]) ⟨hit, st.2.extBut hs.extBut hne⟩ ⟨fun b o hb e => hs.extBut b o (fun q => hb (by simp [q])) e, rfl, rfl, rfl, Nat.le_refl _⟩
  done := fun s Q E st hQ => wpAny_pyNext_list_end hh st.1 st.2 (by simp; omega) fun h' he => hQ _ ⟨fun b o hb e => he b o (fun q => hb (by simp [q])) e, rfl, rfl, rfl, Nat.le_refl _⟩
  self := fun i s Q E st hQ => wpAny_pyIter_listiter st.1 hQ
theorem unpack_starL {t : Addr} {x : Value} {rest : List Value} {Q : List Value → Shared → Prop} (hh : A.handled = none) (ht : s.heap.IsList t (x :: rest).toArray) (hz : (x :: rest).length ≤ sizeLine)
    (hQ : ∀ (h' : Heap) (tk : Nat), (∀ b o, s.heap.get? b = some o → h'.get? b = some o) → Q [x, .ref h'.objs.size] { s with heap := h'.push { cls := .type "list", data := .seq rest.toArray }, toks := tk }) :
    wpAny (model prog w) A (unpackItems (.ref t) 2 (some 1)) Q E s := by
  have hlt : t < s.heap.objs.size := by
    obtain ⟨o, ho, _⟩ := id ht
    exact Heap.lt_size ho
  have hne : t ≠ s.heap.objs.size := Nat.ne_of_lt hlt
  unfold unpackItems
  refine wpAny_bind (show wpAny (model prog w) A (notIterableAtAll (.ref t)) _ E s from ?_)
  unfold notIterableAtAll
  refine wpAny_bind (wpAny_specialOf ht.typeIs slot_list_iter.lookup (wpAny_pure ?_))
  simp only [Bool.false_eq_true, if_false]
  refine wpAny_bind (wpAny_holding (wpAny_pyIter_list ht ?_))
  refine wpAny_bind (wpAny_holding (PySem.W.kun_draw hne 1 0 _ _ ⟨_, Heap.get?_push_size _ rfl, rfl, rfl⟩ (ht.push _) (by simp) fun h1 hit hs => ?_))
  have e1 : List.take 1 (List.drop 0 (x :: rest).toArray.toList) = [x] := by simp
  rw [e1, if_neg (by simp)]
  have ht1 : h1.IsList t (x :: rest).toArray := (ht.push _).extBut hs.extBut hne
  have hlen : (x :: rest).toArray.size - 1 = rest.length := by simp
  have hlt1 : ∀ b ∈ [s.heap.objs.size, t], b < h1.objs.size := fun b hb => by
    have e : b = s.heap.objs.size ∨ b = t := by simpa using hb
    rcases e with rfl | rfl
    · obtain ⟨o, ho, _⟩ := id hit
      exact Heap.lt_size ho
    · obtain ⟨o, ho, _⟩ := id ht1
      exact Heap.lt_size ho
  refine wpAny_bind (wpAny_holding (wpAny_collect_iter (.inr (.inr (.inl rfl))) (lst_walks (A := A.in1) (prog := prog) (w := w) hh s.heap.objs.size t hne (x :: rest).toArray 1) (fun i s' st => ?_) ⟨hit, ht1⟩ hlt1 (by simp) (fun s' acc hm ha => ?_) (by rw [hlen]; rw [List.length_cons] at hz; omega)))
  · obtain ⟨o, ho, hc, _⟩ := st.1
    exact ⟨o, ho, hc⟩
  · have hacc : acc.toList = rest := by
      obtain ⟨hsz, hit⟩ := ha
      refine List.ext_getElem (by rw [Array.length_toList, hsz]; exact hlen) fun j h1 h2 => ?_
      have := hit j acc[j] (by simp [Array.length_toList] at h1; simp [h1])
      simp [Nat.add_comm 1 j] at this
      rw [List.getElem?_eq_getElem h2] at this
      simpa using (Option.some.inj this).symm
    rw [hacc]
    rw [if_neg (by omega)]
    simp only [Nat.sub_self, show 2 - 1 - 1 = 0 from rfl, Nat.sub_zero, List.take_length, List.drop_length, List.append_nil]
    obtain ⟨hp, gens, drawn, toks, os⟩ := s'
    obtain ⟨m1, m2, m3, m4, m5⟩ := hm
    cases m2
    cases m3
    cases m4
    refine wpAny_bind (wpAny_newObj_type (wpAny_pure ?_) (by show rest.toArray.size ≤ sizeLine; rw [List.size_toArray]; rw [List.length_cons] at hz; omega))
    refine hQ hp toks fun b o e => ?_
    have hb : b ≠ s.heap.objs.size := Nat.ne_of_lt (Heap.lt_size e)
    exact m1 b o (by simpa using hb) (hs.extBut b o hb (Heap.get?_push_of_some _ e))
end
def gStarL (K : PySem.W.Frag) (g1 g2 : TG) : TG := fun v σ H Q => ∃ (a : Addr) (z : V) (xs : List V), v = .ref a ∧ SqL K H a (z :: xs) ∧ ∀ q, H q = none → g1 z σ (upd H q (.lst xs)) fun σ' H' => g2 (.ref q) σ' H' Q
theorem pg_starL (K : PySem.W.Frag) {X : Cx} {t1 t2 : Expr} {g1 g2 : TG} {k : Nat} {p pos : Pos} (hc : X.calm = true) (h1 : PG X t1 g1) (h2 : PG X t2 g2) (hK : X.K = K := by rfl)
    (hs : assignEach [t1, .Starred t2 p] X.env = [(false, assign t1 X.env), (true, assign t2 X.env)] := by rfl) : PG X (.Tuple [t1, .Starred t2 p] k pos) (gStarL K g1 g2) := by
  subst hK
  refine ⟨fun pins s σ H v u Q I r hw => ?_⟩
  obtain ⟨a, z, xs, rfl, hq, hw⟩ := hw
  cases r
  obtain ⟨its, rv, ht, hz⟩ := I.list hq
  cases rv with
  | @cons _ uz _ us rz rs =>
    obtain ⟨o, n, ho, hoc, _, hod⟩ := ht
    have ht : s.heap.IsList a (uz :: us).toArray := ⟨o, ho, hoc, n, hod⟩
    rw [assign_Tuple, hs]
    refine wpAny_bind (wpAny_standAt ?_)
    unfold unpack
    refine wpAny_bind (wpAny_holding (unpack_starL (I.ok.hd hc) ht (by have := rs.length; rw [List.length_cons] at hz ⊢; omega) fun h' tk hk => ?_))
    have I1 : Inv X pins σ H { s with heap := h', toks := tk } := I.kept (t' := tk) hk
    have hf : H h'.objs.size = none := I1.hok.fresh (Nat.le_refl _)
    have I2 : Inv X pins σ (upd H h'.objs.size (.lst xs)) { s with heap := h'.push { cls := .type "list", data := .seq us.toArray }, toks := tk } :=
      I1.laid (t' := tk) (o := .lst xs) (fun b ob q => Heap.get?_push_of_some _ q) (Nat.le_refl _) ⟨by rw [List.length_cons] at hz; omega, us, 0, rs, Heap.get?_push_size _ rfl⟩
    refine assignInOrder_cons (thn (h1.run pins _ σ _ z uz _ I2 rz (hw _ hf)) fun _ s3 ⟨σ3, H3, I3, q3⟩ => ?_)
    exact assignInOrder_cons (thn (h2.run pins s3 σ3 H3 (.ref h'.objs.size) _ _ I3 rfl q3) fun _ s4 h4 => assignInOrder_nil h4)
/-- zip of two lists, within a block of a comprehension -/
theorem k_zip (K : PySem.W.Frag) {X : Cx} {e e2 : Expr} {ta : TA} {p pos tpos : Pos} {elts : List Expr} {kk : Nat} (hg : Gl X "zip") (hm : X.mg "zip" = none) (ha : PA X [e, e2] ta) (hK : X.K = K := by rfl)
    (hs : starEach [e, e2] X.env = (false, eval e X.env) :: starEach [e2] X.env := by rfl) (hpl : (backTo pos (starEach [e2] X.env)).any (·.1) = false := by rfl) :
    PI X (.Tuple elts kk tpos) (.Call (.Name "zip" p) [e, e2] [] pos) (iZip K ta) := hK ▸ pi_zip hg hm ha hs hpl

/-! ### zip of a list and a tuple -/
section
variable {prog : Program} {w : World} {A : Around}
theorem draws_tuple (hh : A.handled = none) (it t : Addr) (hne : t ≠ it) (items : Array Value) :
    Draws prog w A it [it, t] items.size (fun i v => items[i]? = some v) (fun i h => h.IsTupleIter it t i ∧ h.IsTuple t items) where
  live := fun _ _ st => by
    obtain ⟨⟨o, ho, _⟩, _⟩ := st
    exact ⟨o, ho⟩
  frame := fun _ _ _ st hk => ⟨st.1.at fun o e => hk it (by simp) o e, st.2.at fun o e => hk t (by simp) o e⟩
  item := fun i s Q E hi st hQ => RZ.nextOf_tuple_item st.1 st.2 (x := items[i]) (by simp [hi]) fun h' hit' hs' => hQ _ h' s.toks (by simp [hi]) ⟨hit', st.2.extBut hs'.extBut hne⟩ hs'
  done := fun s Q E st hE => RZ.nextOf_tuple_end hh st.1 st.2 (by simp) hE
end
def ItzLT (K : PySem.W.Frag) (a b : Addr) : It where
  go := fun i H => ∃ (xs ys : List V) (x y : V), SqL K H a xs ∧ SqT K H b ys ∧ xs[i]? = some x ∧ ys[i]? = some y
  yld := fun i H v H' => ∃ T x y, v = .ref T ∧ H T = none ∧ H' = upd H T (.tup [x, y]) ∧ (∀ xs, SqL K H a xs → xs[i]? = some x) ∧ ∀ ys, SqT K H b ys → ys[i]? = some y
  stop := fun i H => ∃ xs ys : List V, SqL K H a xs ∧ SqT K H b ys ∧ ((i = xs.length ∧ i ≤ ys.length) ∨ (i = ys.length ∧ i ≤ xs.length))
structure Five (z TI TO i1 i2 a b : Addr) : Prop where
  sep : ZipSep2 z TI TO i1 i2 [i1, a] [i2, b]
  ai : a ≠ i1
  bi : b ≠ i2
def StLT (z TI TO i1 i2 a b : Addr) (i : Nat) (h : Heap) : Prop := IsZip h z TI TO .none ∧ IsTupOf2 h TI (.ref i1) (.ref i2) ∧ (∃ x y, IsTupOf2 h TO x y) ∧ h.IsListIter i1 a i ∧ h.IsTupleIter i2 b i
theorem mem5 {c z TI TO i1 i2 : Addr} (h : c ∈ [z, TI, TO, i1, i2]) : c = z ∨ c = TI ∨ c = TO ∨ c = i1 ∨ c = i2 := by simpa using h
theorem StLT.lt {z TI TO i1 i2 a b : Addr} {i : Nat} {h : Heap} (st : StLT z TI TO i1 i2 a b i h) {c : Addr} (hc : c ∈ [z, TI, TO, i1, i2]) : c < h.objs.size := by
  obtain ⟨hz, hTI, ⟨_, _, hTO⟩, ⟨_, e1, _⟩, ⟨_, e2, _⟩⟩ := st
  rcases mem5 hc with rfl | rfl | rfl | rfl | rfl
  · exact Heap.lt_size hz
  · exact Heap.lt_size hTI
  · exact Heap.lt_size hTO
  · exact Heap.lt_size e1
  · exact Heap.lt_size e2
theorem turn_zipLT {P : Program} {w : World} {K : PySem.W.Frag} {elts : List Expr} {kk : Nat} {tpos : Pos} {a b z TI TO i1 i2 : Addr} (D : Five z TI TO i1 i2 a b) :
    Turn P w K (.Tuple elts kk tpos) (ItzLT K a b) [z, TI, TO, i1, i2] z (StLT z TI TO i1 i2 a b) where
  mem := List.mem_cons_self ..
  obj := fun i h st c hc => by
    obtain ⟨hz, hTI, ⟨x, y, hTO⟩, ⟨o1, e1, _, d1⟩, ⟨o2, e2, _, d2⟩⟩ := st
    rcases mem5 hc with rfl | rfl | rfl | rfl | rfl
    · exact ⟨_, hz, fun v q => nomatch q⟩
    · exact ⟨_, hTI, fun v q => nomatch q⟩
    · exact ⟨_, hTO, fun v q => nomatch q⟩
    · exact ⟨o1, e1, fun v q => by rw [d1] at q; cases q⟩
    · exact ⟨o2, e2, fun v q => by rw [d2] at q; cases q⟩
  keep := fun i h h' st k => by
    obtain ⟨hz, hTI, ⟨x, y, hTO⟩, h1, h2⟩ := st
    exact ⟨k _ (by simp) _ hz, k _ (by simp) _ hTI, ⟨x, y, k _ (by simp) _ hTO⟩, h1.at fun o q => k _ (by simp) o q, h2.at fun o q => k _ (by simp) o q⟩
  item := by
    intro X eP eW eK hc i pins s σ H E I hf st hg
    subst eP eW eK
    have st0 := st
    obtain ⟨hz, hTI, ⟨x0, y0, hTO⟩, h1, h2⟩ := st
    obtain ⟨xs, ys, x, y, qx, qy, gx, gy⟩ := hg
    obtain ⟨us, r1, p1, _⟩ := I.list qx
    obtain ⟨ws, r2, p2, _⟩ := I.tuple qy
    obtain ⟨u, hu, ru⟩ := r1.get gx
    obtain ⟨v, hv, rv⟩ := r2.get gy
    have lu := (List.getElem?_eq_some_iff.mp hu).1
    have lv := (List.getElem?_eq_some_iff.mp hv).1
    have hh := I.ok.hd hc
    refine wpAny_pyNext_zipD2_item D.sep (Draws.list (A := X.A.in1) hh i1 a D.ai us.toArray) (draws_tuple (A := X.A.in1) hh i2 b D.bi ws.toArray) hz hTI hTO ⟨h1, p1.isList⟩ ⟨h2, p2⟩ (by simpa using lu) (by simpa using lv) fun x1 x2 h' tk e1 e2 hz' hTO' s1 s2 hT hsz hk => ?_
    have e1 : u = x1 := by
      have : us[i]? = some x1 := by simpa using e1
      rw [hu] at this
      exact Option.some.inj this
    have e2 : v = x2 := by
      have : ws[i]? = some x2 := by simpa using e2
      rw [hv] at this
      exact Option.some.inj this
    subst e1 e2
    refine ⟨_, rfl, wpAny_letOwnedTupleGo_zip (s := { s with heap := h', toks := tk }) hz' fun h2' hz2 sb => ?_⟩
    have zlt : z < s.heap.objs.size := st0.lt (by simp)
    have hT2 : h2'.get? s.heap.objs.size = some { cls := .type "tuple", data := .seq #[u, v] } := (sb.2 _ (Nat.ne_of_gt zlt)).trans hT
    have new : ObjOk X.prog X.w (upd H s.heap.objs.size (.tup [x, y])) h2' s.heap.objs.size (.tup [x, y]) := ⟨small100 (n := 2) (by decide), [u, v], .cons ru (.cons rv .nil), ⟨_, hT2, rfl, _, rfl⟩⟩
    have old : ∀ c o, c ∉ [z, TI, TO, i1, i2] → s.heap.get? c = some o → h2'.get? c = some o := fun c o hb q => by
      simp only [List.mem_cons, List.not_mem_nil, or_false, not_or] at hb
      exact (sb.2 c hb.1).trans (hk c o hb.1 hb.2.2.1 hb.2.2.2.1 hb.2.2.2.2 q)
    have I1 : Inv X pins σ (upd H s.heap.objs.size (.tup [x, y])) { s with heap := h2', toks := tk } := I.turnedNew (t' := tk) (ch := [z, TI, TO, i1, i2]) old hf (Nat.le_refl _) new
    refine ⟨.ref s.heap.objs.size, _, I1, rfl, ⟨_, x, y, rfl, I.hok.fresh (Nat.le_refl _), rfl, fun l hl => ?_, fun l hl => ?_⟩, ⟨hz2, ?_, ⟨u, v, ?_⟩, ?_, ?_⟩, fun c hcm => ?_⟩
    · rw [I.list_inj hl qx]
      exact gx
    · rw [I.tuple_inj hl qy]
      exact gy
    · exact (sb.2 _ D.sep.TIz).trans (hk _ _ D.sep.TIz D.sep.TITO D.sep.TIi1 D.sep.TIi2 hTI)
    · exact (sb.2 _ D.sep.TOz).trans hTO'
    · exact s1.1.at fun o q => (sb.2 _ D.sep.zi1.symm).trans q
    · exact s2.1.at fun o q => (sb.2 _ D.sep.zi2.symm).trans q
    · rw [upd_ne (Nat.ne_of_lt (st0.lt hcm))]
      exact (hf c hcm).1
  done := by
    intro X eP eW eK hc i pins s σ H E I hf st hg
    subst eP eW eK
    obtain ⟨hz, hTI, ⟨x0, y0, hTO⟩, h1, h2⟩ := st
    obtain ⟨xs, ys, qx, qy, hend⟩ := hg
    obtain ⟨us, r1, p1, _⟩ := I.list qx
    obtain ⟨ws, r2, p2, _⟩ := I.tuple qy
    have l1 := r1.length
    have l2 := r2.length
    have hh := I.ok.hd hc
    have e1 : us.toArray.size = us.length := by simp
    have e2 : ws.toArray.size = ws.length := by simp
    refine wpAny_pyNext_zipD2_end D.sep (Draws.list (A := X.A.in1) hh i1 a D.ai us.toArray) (draws_tuple (A := X.A.in1) hh i2 b D.bi ws.toArray) hz hTI hTO ⟨h1, p1.isList⟩ ⟨h2, p2⟩ (by omega) (by omega) (by omega) fun h' tk hk => ⟨rfl, ?_⟩
    refine I.turnedL (t' := tk) (ch := [z, TI, TO, i1, i2]) (fun c o hb q => ?_) hf
    simp only [List.mem_cons, List.not_mem_nil, or_false, not_or] at hb
    exact hk c o hb.1 hb.2.2.1 hb.2.2.2.1 hb.2.2.2.2 q
  self := fun A i s Q E st h => wpAny_pyIter_zip st.1 h
def iZipLT (K : PySem.W.Frag) (ta : TA) : TI := fun σ H R => ta σ H fun vs H1 => ∃ (a b : Addr) (xs ys : List V), vs = [.ref a, .ref b] ∧ SqL K H1 a xs ∧ SqT K H1 b ys ∧ R (ItzLT K a b) H1
theorem pi_zipLT (K : PySem.W.Frag) {X : Cx} {e e2 : Expr} {ta : TA} {p pos tpos : Pos} {elts : List Expr} {kk : Nat} (hg : Gl X "zip") (hm : X.mg "zip" = none) (ha : PA X [e, e2] ta) (hK : X.K = K := by rfl)
    (hs : starEach [e, e2] X.env = (false, eval e X.env) :: starEach [e2] X.env := by rfl) (hpl : (backTo pos (starEach [e2] X.env)).any (·.1) = false := by rfl) :
    PI X (.Tuple elts kk tpos) (.Call (.Name "zip" p) [e, e2] [] pos) (iZipLT K ta) := by
  subst hK
  refine ⟨fun pins s σ H R I h => ?_⟩
  refine Call_ (ld_blt I hg hm PyProof.Rows.boot_zip (PyProof.Rows.callWith_type1 (thn (ha.run pos pins s σ H _ I h) fun us s1 ⟨vs, H1, I1, r1, q1⟩ => ?_) hs hpl))
  obtain ⟨a, b, xs, ys, rfl, qx, qy, q⟩ := q1
  obtain ⟨u1, u2, rfl, ra, rb⟩ := vals2 r1
  cases (show u1 = Value.ref a from ra)
  cases (show u2 = Value.ref b from rb)
  obtain ⟨ws, _, p1, _⟩ := I1.list qx
  obtain ⟨zs, _, p2, _⟩ := I1.tuple qy
  have la : a < s1.heap.objs.size := p1.lt
  have lb : b < s1.heap.objs.size := by
    obtain ⟨o, ho, _⟩ := id p2
    exact Heap.lt_size ho
  refine zip_begins2 (begins_list a ws.toArray) (begins_tuple b zs.toArray) p1.isList p2 fun h' hz hTI hTO g1 g2 hsz hk => wpAny_pyIter_zip hz ?_
  have I2 : Inv X pins σ H1 { s1 with heap := h' } := I1.kept (t' := s1.toks) hk
  have sep : ZipSep2 (s1.heap.objs.size + 4) (s1.heap.objs.size + 2) (s1.heap.objs.size + 3) s1.heap.objs.size (s1.heap.objs.size + 1) [s1.heap.objs.size, a] [s1.heap.objs.size + 1, b] :=
    zip_sep2 (fun c hc => by rw [List.mem_singleton.mp hc]; exact la) fun c hc => by rw [List.mem_singleton.mp hc]; exact lb
  have D : Five (s1.heap.objs.size + 4) (s1.heap.objs.size + 2) (s1.heap.objs.size + 3) s1.heap.objs.size (s1.heap.objs.size + 1) a b := ⟨sep, Nat.ne_of_lt la, Nat.ne_of_lt (Nat.lt_succ_of_lt lb)⟩
  refine ⟨_, [s1.heap.objs.size + 4, s1.heap.objs.size + 2, s1.heap.objs.size + 3, s1.heap.objs.size, s1.heap.objs.size + 1], _, _, H1, rfl, I2, turn_zipLT D, ⟨hz, hTI, ⟨_, _, hTO⟩, ⟨_, g1, rfl, rfl⟩, ⟨_, g2, rfl, rfl⟩⟩, fun c hcm => ?_, q⟩
  have hle : s1.heap.objs.size ≤ c := by rcases mem5 hcm with rfl | rfl | rfl | rfl | rfl <;> omega
  exact I1.fpOk hle (I1.hok.fresh hle)
theorem walk_zipLT {K : PySem.W.Frag} {a b : Addr} {xs ys : List V} {n : Nat} (h1 : xs.length = n) (h2 : ys.length = n) :
    Walk (ItzLT K a b) n (fun H => SqL K H a xs ∧ SqT K H b ys) (YPair (fun i => xs[i]?) (fun i => ys[i]?)) :=
  ⟨fun i H hi q => ⟨xs, ys, xs[i], ys[i], q.1, q.2, by simp, by simp⟩, fun H q => ⟨xs, ys, q.1, q.2, .inl ⟨h1.symm, by omega⟩⟩,
    fun i H v H' _ q y => by
      obtain ⟨T, x, y, e1, e2, e3, e4, e5⟩ := y
      exact ⟨T, x, y, e1, e2, e3, e4 _ q.1, e5 _ q.2⟩⟩

/-! ### the commands -/
inductive Cm where
  | go (k : Int) | turn (n : Int) | mirror | scale (k : Int) | aim (a b : Int) | place (a b : Int) | mark | ret | exch
def Cm.word : Cm → Str
  | .go _ => "go" | .turn _ => "turn" | .mirror => "mirror" | .scale _ => "scale" | .aim _ _ => "aim" | .place _ _ => "place" | .mark => "mark" | .ret => "return" | .exch => "exchange"
def Cm.nums : Cm → List Int
  | .go k => [k] | .turn n => [n] | .scale k => [k] | .aim a b => [a, b] | .place a b => [a, b] | _ => []
def Cm.lims : Cm → List (Int × Int)
  | .go _ => [(-9, 9)] | .turn _ => [(1, 3)] | .scale _ => [(-3, 3)] | .aim _ _ => [(-9, 9), (-9, 9)] | .place _ _ => [(-9, 9), (-9, 9)] | _ => []
def Cm.ok (c : Cm) : Prop := ∀ (i : Nat) (z : Int) (l : Int × Int), c.nums[i]? = some z → c.lims[i]? = some l → l.1 ≤ z ∧ z ≤ l.2
def Cm.vals (c : Cm) : List V := V.str c.word :: c.nums.map V.int
def rot : Nat → Int × Int → Int × Int
  | 0, h => h
  | n + 1, h => (-(rot n h).2, (rot n h).1)
def Cm.mv (c : Cm) : List Int → List Int
  | [x, y, u, v, p, q] => match c with
    | .go k => [x + k * u, y + k * v, u, v, p, q]
    | .turn n => [x, y, (rot n.toNat (u, v)).1, (rot n.toNat (u, v)).2, p, q]
    | .mirror => [x, y, u, -v, p, q]
    | .scale k => [x, y, k * u, k * v, p, q]
    | .aim a b => [x, y, a, b, p, q]
    | .place a b => [a, b, u, v, p, q]
    | .mark => [x, y, u, v, x, y]
    | .ret => [p, q, u, v, p, q]
    | .exch => [p, q, u, v, x, y]
  | ps => ps
/-- the module's table of limits -/
structure Lims (w : World) (K : PySem.W.Frag) (d : Addr) : Prop where
  row : ∀ c : Cm, ∃ (ab : Addr) (ps : List Addr), KDct K w d c.word (.ref ab) ∧ (∀ H, SqT K H ab (ps.map V.ref)) ∧ ps.length = c.nums.length ∧ c.lims.length = c.nums.length ∧
    ∀ (i : Nat) (p : Addr), ps[i]? = some p → ∃ l, c.lims[i]? = some l ∧ ∀ H, SqT K H p [.int l.1, .int l.2]
theorem sqK {K : PySem.W.Frag} {a : Addr} {d : Option Addr} {us : List Value} {n : Nat} {sl : Array (Option Value)} {xs : List V} (h : K.lookup a = some ⟨.type "tuple", d, .seq us.toArray n, sl⟩) (hl : us.length ≤ 1000) (r : Vals xs us) : ∀ H, SqT K H a xs :=
  fun H => .inr ⟨_, us.toArray, n, h, rfl, rfl, by rw [List.size_toArray]; exact small100 hl, r⟩

theorem iteN {c A B : Prop} [Decidable c] (hc : ¬ c) (h : B) : if decide c = true then A else B := by
  rw [if_neg (by rw [decide_eq_false hc]; exact Bool.false_ne_true)]
  exact h
theorem iteNN {c A B : Prop} [Decidable c] (hc : ¬ c) (h : A) : if (!decide c) = true then A else B := by
  rw [if_pos (by rw [decide_eq_false hc]; rfl)]
  exact h


def Row (w : World) (K : PySem.W.Frag) (d : Addr) (wd : Str) (ls : List (Int × Int)) : Prop := ∃ (ab : Addr) (ps : List Addr), KDct K w d wd (.ref ab) ∧ (∀ H, SqT K H ab (ps.map V.ref)) ∧ ps.length = ls.length ∧
  ∀ (i : Nat) (p : Addr), ps[i]? = some p → ∃ l, ls[i]? = some l ∧ ∀ H, SqT K H p [.int l.1, .int l.2]
section
variable {w : World} {K : PySem.W.Frag} {aB : Addr} {eB : Array DictEntry} {nB : Nat} {wd : Str} {b p p' : Addr} {db dp dp' : Option Addr} {nb np np' : Nat} {sb sp sp' : Array (Option Value)} {lo hi lo' hi' : Int} {t u t' u' : Tok}
theorem pairK (h : K.lookup p = some ⟨.type "tuple", dp, .seq ([.int lo t, .int hi u] : List Value).toArray np, sp⟩) : ∀ H, SqT K H p [.int lo, .int hi] := sqK h (by simp) (.cons ⟨t, rfl⟩ (.cons ⟨u, rfl⟩ .nil))
theorem row0 (lB : K.lookup aB = some ⟨.type "dict", none, .dict eB nB, #[]⟩) (iB : PySem.W.KeysLit w.params eB.toList) (n : PySem.W.nsIn K aB wd = some (some (.ref b))) (l : K.lookup b = some ⟨.type "tuple", db, .seq ([] : List Value).toArray nb, sb⟩) : Row w K aB wd [] :=
  ⟨b, [], ⟨eB, nB, _, lB, iB, n, rfl⟩, sqK l (by simp) .nil, rfl, fun i p e => by simp at e⟩
theorem row1 (lB : K.lookup aB = some ⟨.type "dict", none, .dict eB nB, #[]⟩) (iB : PySem.W.KeysLit w.params eB.toList) (n : PySem.W.nsIn K aB wd = some (some (.ref b))) (l : K.lookup b = some ⟨.type "tuple", db, .seq ([.ref p] : List Value).toArray nb, sb⟩)
    (q : K.lookup p = some ⟨.type "tuple", dp, .seq ([.int lo t, .int hi u] : List Value).toArray np, sp⟩) : Row w K aB wd [(lo, hi)] :=
  ⟨b, [p], ⟨eB, nB, _, lB, iB, n, rfl⟩, sqK l (by simp) (.cons rfl .nil), rfl, fun i z e => by
    match i, e with
    | 0, e => cases e; exact ⟨_, rfl, pairK q⟩⟩
theorem row2 (lB : K.lookup aB = some ⟨.type "dict", none, .dict eB nB, #[]⟩) (iB : PySem.W.KeysLit w.params eB.toList) (n : PySem.W.nsIn K aB wd = some (some (.ref b))) (l : K.lookup b = some ⟨.type "tuple", db, .seq ([.ref p, .ref p'] : List Value).toArray nb, sb⟩)
    (q : K.lookup p = some ⟨.type "tuple", dp, .seq ([.int lo t, .int hi u] : List Value).toArray np, sp⟩) (q' : K.lookup p' = some ⟨.type "tuple", dp', .seq ([.int lo' t', .int hi' u'] : List Value).toArray np', sp'⟩) : Row w K aB wd [(lo, hi), (lo', hi')] :=
  ⟨b, [p, p'], ⟨eB, nB, _, lB, iB, n, rfl⟩, sqK l (by simp) (.cons rfl (.cons rfl .nil)), rfl, fun i z e => by
    match i, e with
    | 0, e => cases e; exact ⟨_, rfl, pairK q⟩
    | 1, e => cases e; exact ⟨_, rfl, pairK q'⟩⟩
theorem lims_of (r0 : Row w K aB "go" [(-9, 9)]) (r1 : Row w K aB "turn" [(1, 3)]) (r2 : Row w K aB "mirror" []) (r3 : Row w K aB "scale" [(-3, 3)]) (r4 : Row w K aB "aim" [(-9, 9), (-9, 9)]) (r5 : Row w K aB "place" [(-9, 9), (-9, 9)])
    (r6 : Row w K aB "mark" []) (r7 : Row w K aB "return" []) (r8 : Row w K aB "exchange" []) : Lims w K aB := by
  refine ⟨fun c => ?_⟩
  have fit : ∀ {ls : List (Int × Int)}, Row w K aB c.word ls → c.lims = ls → c.lims.length = c.nums.length → ∃ (ab : Addr) (ps : List Addr), KDct K w aB c.word (.ref ab) ∧ (∀ H, SqT K H ab (ps.map V.ref)) ∧ ps.length = c.nums.length ∧ c.lims.length = c.nums.length ∧ ∀ (i : Nat) (p : Addr), ps[i]? = some p → ∃ l, c.lims[i]? = some l ∧ ∀ H, SqT K H p [.int l.1, .int l.2] := fun {ls} r e1 e2 => by
    obtain ⟨ab, ps, h1, h2, h3, h4⟩ := r
    exact ⟨ab, ps, h1, h2, by rw [h3, ← e1, e2], e2, by rw [e1]; exact h4⟩
  cases c with
  | go k => exact fit r0 rfl rfl
  | turn k => exact fit r1 rfl rfl
  | mirror => exact fit r2 rfl rfl
  | scale k => exact fit r3 rfl rfl
  | aim a b => exact fit r4 rfl rfl
  | place a b => exact fit r5 rfl rfl
  | mark => exact fit r6 rfl rfl
  | ret => exact fit r7 rfl rfl
  | exch => exact fit r8 rfl rfl
end

/-! ### data that stand in the heap, their lists at addresses of a kind -/
section
variable (S : Addr → Prop) (H : Hp)
mutual
def Tr : PyData → V → Prop
  | .none, v => v = .non
  | .bool b, v => v = .bl b
  | .int i, v => v = .int i
  | .str s, v => v = .str s
  | .list ds, v => ∃ a xs, v = .ref a ∧ S a ∧ H a = some (.lst xs) ∧ TrAll ds xs
  | .tuple ds, v => ∃ a xs, v = .ref a ∧ H a = some (.tup xs) ∧ TrAll ds xs
  | .dict ds, v => ∃ a kvs, v = .ref a ∧ H a = some (.dK kvs) ∧ (ds = [] → kvs = [])
def TrAll : List PyData → List V → Prop
  | [], xs => xs = []
  | d :: ds, xs => ∃ x r, xs = x :: r ∧ Tr d x ∧ TrAll ds r
end
end
/-- lists at M may have changed, nothing else that was tracked -/
def KpL (M : Addr → Prop) (H H' : Hp) : Prop := ∀ b o, (M b → ∀ xs, o ≠ .lst xs) → H b = some o → H' b = some o
section
variable {S S' M M' : Addr → Prop} {H H' H'' : Hp}
theorem KpL.refl : KpL M H H := fun _ _ _ h => h
theorem KpL.trans (a : KpL M H H') (b : KpL M H' H'') : KpL M H H'' := fun c o n h => b c o n (a c o n h)
theorem KpL.of (s : Same H H') : KpL M H H' := fun b o _ h => s b o h
theorem KpL.mono (k : KpL M H H') (h : ∀ a, M a → M' a) : KpL M' H H' := fun b o n e => k b o (fun m => n (h b m)) e
theorem KpL.at_ (k : KpL M H H') {b : Addr} {o : HO} (e : H b = some o) (n : ¬ M b) : H' b = some o := k b o (fun m => absurd m n) e
theorem KpL.tup (k : KpL M H H') {b : Addr} {xs : List V} (e : H b = some (.tup xs)) : H' b = some (.tup xs) := k b _ (fun _ _ z => nomatch z) e
theorem KpL.ins (k : KpL M H H') {b C dx : Addr} {xs : List (Str × V)} (e : H b = some (.ins C dx xs)) : H' b = some (.ins C dx xs) := k b _ (fun _ _ z => nomatch z) e
theorem KpL.put (k : KpL M H H') {p : Addr} {xs : List V} (hp : M p) (h : ∃ ys, H p = some (.lst ys)) : KpL M H (upd H' p (.lst xs)) := fun b o n e => by
  by_cases hb : b = p
  · subst hb
    obtain ⟨ys, h⟩ := h
    rw [h] at e
    cases e
    exact absurd rfl (n hp ys)
  · rw [upd_ne hb]
    exact k b o n e
theorem KpL.new {q : Addr} {o : HO} (k : KpL M H H') (n : H q = none) : KpL M H (upd H' q o) := fun b x m e => by
  rw [upd_ne (ne_of_none e n)]
  exact k b x m e
theorem KpL.kp {p : Addr} (k : Kp p H H') (hp : M p) (h : ∃ ys, H p = some (.lst ys)) : KpL M H H' := fun b o n e => by
  by_cases hb : b = p
  · subst hb
    obtain ⟨ys, h⟩ := h
    rw [h] at e
    cases e
    exact absurd rfl (n hp ys)
  · exact k b o hb e
/-- what is tracked stays tracked -/
theorem KpL.free {q : Addr} (k : KpL M H H') (hM : ∀ a, M a → ∃ ys, H' a = some (.lst ys)) (e : H' q = none) : H q = none := by
  cases h : H q with
  | none => rfl
  | some o =>
    by_cases m : M q
    · obtain ⟨ys, hy⟩ := hM q m
      rw [hy] at e
      cases e
    · rw [k.at_ h m] at e
      cases e
theorem KpL.same (k : KpL M H H') (hM : ∀ a, M a → H a = none) : Same H H' := fun b o e => k b o (fun m => by rw [hM b m] at e; cases e) e
mutual
theorem Tr.mono (h : ∀ a, S a → S' a) : ∀ (d : PyData) (v : V), Tr S H d v → Tr S' H d v
  | .none, v, e => e
  | .bool b, v, e => e
  | .int i, v, e => e
  | .str s, v, e => e
  | .list ds, v, ⟨a, xs, e, s, l, t⟩ => ⟨a, xs, e, h a s, l, TrAll.mono h ds xs t⟩
  | .tuple ds, v, ⟨a, xs, e, l, t⟩ => ⟨a, xs, e, l, TrAll.mono h ds xs t⟩
  | .dict _, v, e => e
theorem TrAll.mono (h : ∀ a, S a → S' a) : ∀ (ds : List PyData) (xs : List V), TrAll S H ds xs → TrAll S' H ds xs
  | [], xs, e => e
  | d :: ds, xs, ⟨x, r, e, t, q⟩ => ⟨x, r, e, Tr.mono h d x t, TrAll.mono h ds r q⟩
end
mutual
theorem Tr.kpl (k : KpL M H H') (h : ∀ a, S a → ¬ M a) : ∀ (d : PyData) (v : V), Tr S H d v → Tr S H' d v
  | .none, v, e => e
  | .bool b, v, e => e
  | .int i, v, e => e
  | .str s, v, e => e
  | .list ds, v, ⟨a, xs, e, s, l, t⟩ => ⟨a, xs, e, s, k.at_ l (h a s), TrAll.kpl k h ds xs t⟩
  | .tuple ds, v, ⟨a, xs, e, l, t⟩ => ⟨a, xs, e, k.tup l, TrAll.kpl k h ds xs t⟩
  | .dict _, v, ⟨a, kvs, e, l, z⟩ => ⟨a, kvs, e, k a _ (fun _ _ z => nomatch z) l, z⟩
theorem TrAll.kpl (k : KpL M H H') (h : ∀ a, S a → ¬ M a) : ∀ (ds : List PyData) (xs : List V), TrAll S H ds xs → TrAll S H' ds xs
  | [], xs, e => e
  | d :: ds, xs, ⟨x, r, e, t, q⟩ => ⟨x, r, e, Tr.kpl k h d x t, TrAll.kpl k h ds r q⟩
end
theorem Tr.same (s : Same H H') {d : PyData} {v : V} (t : Tr S H d v) : Tr S H' d v := Tr.kpl (M := fun _ => False) (KpL.of s) (fun _ _ h => h) d v t
theorem TrAll.same (s : Same H H') {ds : List PyData} {xs : List V} (t : TrAll S H ds xs) : TrAll S H' ds xs := TrAll.kpl (M := fun _ => False) (KpL.of s) (fun _ _ h => h) ds xs t
theorem TrAll.len : ∀ {ds : List PyData} {xs : List V}, TrAll S H ds xs → xs.length = ds.length
  | [], xs, e => by cases e; rfl
  | d :: ds, xs, ⟨x, r, e, _, q⟩ => by rw [e, List.length_cons, List.length_cons, q.len]
theorem TrAll.get : ∀ {ds : List PyData} {xs : List V} {i : Nat} {x : V}, TrAll S H ds xs → xs[i]? = some x → ∃ d, ds[i]? = some d ∧ Tr S H d x
  | [], xs, i, x, e, h => by cases e; simp at h
  | d :: ds, xs, 0, x, ⟨y, r, e, t, q⟩, h => by subst e; cases h; exact ⟨d, rfl, t⟩
  | d :: ds, xs, i + 1, x, ⟨y, r, e, t, q⟩, h => by subst e; exact q.get (i := i) h
theorem TrAll.get' : ∀ {ds : List PyData} {xs : List V} {i : Nat} {d : PyData}, TrAll S H ds xs → ds[i]? = some d → ∃ x, xs[i]? = some x ∧ Tr S H d x
  | [], xs, i, x, e, h => by simp at h
  | d :: ds, xs, 0, x, ⟨y, r, e, t, q⟩, h => by subst e; cases h; exact ⟨y, rfl, t⟩
  | d :: ds, xs, i + 1, x, ⟨y, r, e, t, q⟩, h => by subst e; exact q.get' (i := i) h
theorem TrAll.append : ∀ {ds es : List PyData} {xs ys : List V}, TrAll S H ds xs → TrAll S H es ys → TrAll S H (ds ++ es) (xs ++ ys)
  | [], es, xs, ys, e, t => by cases e; exact t
  | d :: ds, es, xs, ys, ⟨x, r, e, q, t⟩, u => by subst e; exact ⟨x, r ++ ys, rfl, q, TrAll.append t u⟩
theorem TrAll.nil : TrAll S H [] [] := rfl
theorem TrAll.one {d : PyData} {x : V} (t : Tr S H d x) : TrAll S H [d] [x] := ⟨x, [], rfl, t, rfl⟩
theorem TrAll.cons {d : PyData} {ds : List PyData} {x : V} {xs : List V} (t : Tr S H d x) (q : TrAll S H ds xs) : TrAll S H (d :: ds) (x :: xs) := ⟨x, xs, rfl, t, q⟩
theorem TrAll.snoc {ds : List PyData} {xs : List V} {d : PyData} {x : V} (q : TrAll S H ds xs) (t : Tr S H d x) : TrAll S H (ds ++ [d]) (xs ++ [x]) := q.append (TrAll.one t)
theorem TrAll.take : ∀ {ds : List PyData} {xs : List V} (n : Nat), TrAll S H ds xs → TrAll S H (ds.take n) (xs.take n)
  | [], xs, n, e => by cases e; simp [TrAll]
  | d :: ds, xs, 0, _ => by simp [TrAll]
  | d :: ds, xs, n + 1, ⟨x, r, e, t, q⟩ => by subst e; exact ⟨x, r.take n, rfl, t, q.take n⟩
theorem TrAll.drop : ∀ {ds : List PyData} {xs : List V} (n : Nat), TrAll S H ds xs → TrAll S H (ds.drop n) (xs.drop n)
  | [], xs, n, e => by cases e; simp [TrAll]
  | d :: ds, xs, 0, t => t
  | d :: ds, xs, n + 1, ⟨x, r, e, t, q⟩ => by subst e; exact q.drop n
theorem TrAll.ints : ∀ {ns : List Int} {us : List V}, TrAll S H (ns.map PyData.int) us → us = ns.map V.int
  | [], us, h => h
  | n :: r, us, ⟨x, q, e, t, h⟩ => by
    cases t
    rw [e, h.ints]
    rfl
theorem TrAll.ofInts : ∀ (ns : List Int), TrAll S H (ns.map PyData.int) (ns.map V.int)
  | [] => rfl
  | n :: r => ⟨_, _, rfl, rfl, TrAll.ofInts r⟩
mutual
theorem Tr.dp {K : PySem.W.Frag} : ∀ (d : PyData) (v : V), PyData.canLay0 d = true → Tr S H d v → Dp K H v d
  | .none, v, _, e => by cases e; exact .non
  | .bool b, v, _, e => by cases e; exact .bl b
  | .int i, v, _, e => by cases e; exact .int i
  | .str s, v, _, e => by cases e; exact .str s
  | .list ds, v, c, ⟨a, xs, e, s, l, t⟩ => by subst e; exact .lst (SqL.of l) (TrAll.dp ds xs (by simpa [PyData.canLay0] using c) t)
  | .tuple ds, v, c, ⟨a, xs, e, l, t⟩ => by subst e; exact .tup (SqT.of l) (TrAll.dp ds xs (by simpa [PyData.canLay0] using c) t)
  | .dict _, v, c, _ => by simp [PyData.canLay0] at c
theorem TrAll.dp {K : PySem.W.Frag} : ∀ (ds : List PyData) (xs : List V), PyData.canLayAll0 ds = true → TrAll S H ds xs → DpAll K H xs ds
  | [], xs, _, e => by cases e; exact .nil
  | d :: ds, xs, c, ⟨x, r, e, t, q⟩ => by
    have c : d.canLay0 = true ∧ PyData.canLayAll0 ds = true := by simpa [PyData.canLayAll0] using c
    subst e
    exact .cons (Tr.dp d x c.1 t) (TrAll.dp ds r c.2 q)
end
end
/-- new since H -/
abbrev New (H : Hp) : Addr → Prop := fun a => H a = none
/-! ### a new list of new data under construction -/
def Bld (H1 : Hp) (D : Addr) (ds : List PyData) (H' : Hp) : Prop := Same H1 H' ∧ ∃ zs, H' D = some (.lst zs) ∧ TrAll (fun a => H1 a = none ∧ a ≠ D) H' ds zs
section
variable {H1 H' H2 : Hp} {D : Addr} {ds : List PyData}
theorem Bld.nil (h : H1 D = none) : Bld H1 D [] (upd H1 D (.lst [])) := ⟨same_upd h, [], upd_same, TrAll.nil⟩
theorem Bld.push {d : PyData} {r : V} (m : Bld H1 D ds H') (nD : H1 D = none) (s : Same H' H2) (t : Tr (New H') H2 d r) : ∃ zs, H2 D = some (.lst zs) ∧ zs.length = ds.length ∧ Bld H1 D (ds ++ [d]) (upd H2 D (.lst (zs ++ [r]))) := by
  obtain ⟨sm, zs, hD, tz⟩ := m
  have k2 : KpL (fun a => a = D) H2 (upd H2 D (.lst (zs ++ [r]))) := KpL.refl.put rfl ⟨zs, s _ _ hD⟩
  refine ⟨zs, s _ _ hD, tz.len, same_new (sm.trans s) nD, zs ++ [r], upd_same, TrAll.snoc ?_ ?_⟩
  · exact TrAll.kpl k2 (fun a na e => na.2 e) _ _ (tz.same s)
  · refine Tr.kpl k2 (fun a na e => na.2 e) _ _ (Tr.mono (fun a na => ⟨sm.free na, fun e => ?_⟩) _ _ t)
    have na : H' a = none := na
    rw [e, hD] at na
    cases na
theorem Bld.done (m : Bld H1 D ds H') (nD : H1 D = none) : Tr (New H1) H' (.list ds) (.ref D) := by
  obtain ⟨sm, zs, hD, tz⟩ := m
  exact ⟨D, zs, rfl, nD, hD, TrAll.mono (fun a na => na.1) _ _ tz⟩
theorem Bld.len (m : Bld H1 D ds H') : ∃ zs, H' D = some (.lst zs) ∧ zs.length = ds.length := ⟨_, m.2.choose_spec.1, m.2.choose_spec.2.len⟩
end
theorem Tr.newer {H0 H1 H2 : Hp} {d : PyData} {v : V} (s : Same H0 H1) (t : Tr (New H1) H2 d v) : Tr (New H0) H2 d v := Tr.mono (fun _ n => s.free n) _ _ t
theorem TrAll.newer {H0 H1 H2 : Hp} {d : List PyData} {v : List V} (s : Same H0 H1) (t : TrAll (New H1) H2 d v) : TrAll (New H0) H2 d v := TrAll.mono (fun _ n => s.free n) _ _ t
section
variable {S : Addr → Prop} {H H' : Hp}
mutual
theorem Tr.keep (k : ∀ b o, ((∃ xs, o = .lst xs) ∧ S b ∨ (∃ xs, o = .tup xs) ∨ ∃ xs, o = .dK xs) → H b = some o → H' b = some o) : ∀ (d : PyData) (v : V), Tr S H d v → Tr S H' d v
  | .none, v, e => e
  | .bool b, v, e => e
  | .int i, v, e => e
  | .str s, v, e => e
  | .list ds, v, ⟨a, xs, e, s, l, t⟩ => ⟨a, xs, e, s, k a _ (.inl ⟨⟨_, rfl⟩, s⟩) l, TrAll.keep k ds xs t⟩
  | .tuple ds, v, ⟨a, xs, e, l, t⟩ => ⟨a, xs, e, k a _ (.inr (.inl ⟨_, rfl⟩)) l, TrAll.keep k ds xs t⟩
  | .dict _, v, ⟨a, kvs, e, l, z⟩ => ⟨a, kvs, e, k a _ (.inr (.inr ⟨_, rfl⟩)) l, z⟩
theorem TrAll.keep (k : ∀ b o, ((∃ xs, o = .lst xs) ∧ S b ∨ (∃ xs, o = .tup xs) ∨ ∃ xs, o = .dK xs) → H b = some o → H' b = some o) : ∀ (ds : List PyData) (xs : List V), TrAll S H ds xs → TrAll S H' ds xs
  | [], xs, e => e
  | d :: ds, xs, ⟨x, r, e, t, q⟩ => ⟨x, r, e, Tr.keep k d x t, TrAll.keep k ds r q⟩
end
/-- an object's attributes are stored to -/
theorem Tr.put {p C dx : Addr} {fs gs : List (Str × V)} {d : PyData} {v : V} (h : H p = some (.ins C dx fs)) (t : Tr S H d v) : Tr S (upd H p (.ins C dx gs)) d v :=
  Tr.keep (fun b o n e => by
    by_cases hb : b = p
    · subst hb
      rw [h] at e
      cases e
      rcases n with ⟨⟨_, n⟩, _⟩ | ⟨_, n⟩ | ⟨_, n⟩ <;> cases n
    · rw [upd_ne hb]
      exact e) d v t
end
theorem Tr.lst {S : Addr → Prop} {H : Hp} {ds : List PyData} {a : Addr} (t : Tr S H (.list ds) (.ref a)) : ∃ xs, S a ∧ H a = some (.lst xs) ∧ TrAll S H ds xs := by
  obtain ⟨b, xs, e, h⟩ := t
  cases e
  exact ⟨xs, h⟩
theorem Tr.tup {S : Addr → Prop} {H : Hp} {ds : List PyData} {a : Addr} (t : Tr S H (.tuple ds) (.ref a)) : ∃ xs, H a = some (.tup xs) ∧ TrAll S H ds xs := by
  obtain ⟨b, xs, e, h⟩ := t
  cases e
  exact ⟨xs, h⟩
section
variable {S : Addr → Prop} {H : Hp}
mutual
theorem Tr.tracked : ∀ (d : PyData) (v : V), Tr S H d v → Tr (fun a => S a ∧ H a ≠ none) H d v
  | .none, v, e => e
  | .bool b, v, e => e
  | .int i, v, e => e
  | .str s, v, e => e
  | .list ds, v, ⟨a, xs, e, s, l, t⟩ => ⟨a, xs, e, ⟨s, by rw [l]; exact fun z => nomatch z⟩, l, TrAll.tracked ds xs t⟩
  | .tuple ds, v, ⟨a, xs, e, l, t⟩ => ⟨a, xs, e, l, TrAll.tracked ds xs t⟩
  | .dict _, v, e => e
theorem TrAll.tracked : ∀ (ds : List PyData) (xs : List V), TrAll S H ds xs → TrAll (fun a => S a ∧ H a ≠ none) H ds xs
  | [], xs, e => e
  | d :: ds, xs, ⟨x, r, e, t, q⟩ => ⟨x, r, e, Tr.tracked d x t, TrAll.tracked ds r q⟩
end
end

/-! ### statements -/
inductive Stm where
  | cmd (c : Cm)
  | fin (way : Bool)
  | keep (b : List Stm)
  | again (b : List Stm)
  | either (a b : List Stm)
  | call (p : Nat) (saved : Bool) (a b : List Stm)
def Cm.d (c : Cm) : PyData := .tuple (.str c.word :: c.nums.map .int)
mutual
def Stm.d : Stm → PyData
  | .cmd c => c.d
  | .fin w => .tuple [.str "end", .int (if w then 1 else 0)]
  | .keep b => .tuple [.str "keep", .list (blkD b)]
  | .again b => .tuple [.str "again", .list (blkD b)]
  | .either a b => .tuple [.str "either", .list (blkD a), .list (blkD b)]
  | .call p s a b => .tuple [.str "call", .int p, .bool s, .list [.list (blkD a), .list (blkD b)]]
def blkD : List Stm → List PyData
  | [] => []
  | s :: r => s.d :: blkD r
end
mutual
/-- how many statements, all levels -/
def Stm.cnt : Stm → Nat
  | .keep b => 1 + cntB b
  | .again b => 1 + cntB b
  | .either a b => 1 + (cntB a + cntB b)
  | .call _ _ a b => 1 + (cntB a + cntB b)
  | _ => 1
def cntB : List Stm → Nat
  | [] => 0
  | s :: r => s.cnt + cntB r
end
mutual
/-- a statement of a list at level l of a book of many procedures -/
def Stm.ok (many : Nat) : Stm → Nat → Prop
  | .cmd c, _ => c.ok
  | .fin _, _ => True
  | .keep b, l => l < 3 ∧ b.length ≤ 8 ∧ okB many b (l + 1)
  | .again b, l => l < 3 ∧ b.length ≤ 8 ∧ okB many b (l + 1)
  | .either a b, l => l < 3 ∧ (a.length ≤ 8 ∧ okB many a (l + 1)) ∧ b.length ≤ 8 ∧ okB many b (l + 1)
  | .call p _ a b, l => l < 3 ∧ p < many ∧ (a.length ≤ 8 ∧ okB many a (l + 1)) ∧ b.length ≤ 8 ∧ okB many b (l + 1)
def okB (many : Nat) : List Stm → Nat → Prop
  | [], _ => True
  | s :: r, l => s.ok many l ∧ okB many r l
end
def Stm.blocks : Stm → List (List Stm)
  | .keep b => [b]
  | .again b => [b]
  | .either a b => [a, b]
  | .call _ _ a b => [a, b]
  | _ => []
theorem blkD_map : ∀ b : List Stm, blkD b = b.map Stm.d
  | [] => rfl
  | s :: r => by rw [blkD, blkD_map r]; rfl
theorem blkD_append (a b : List Stm) : blkD (a ++ b) = blkD a ++ blkD b := by rw [blkD_map, blkD_map, blkD_map, List.map_append]
theorem blkD_len (b : List Stm) : (blkD b).length = b.length := by rw [blkD_map, List.length_map]
theorem blkD_get {b : List Stm} {i : Nat} {d : PyData} (h : (blkD b)[i]? = some d) : ∃ s, b[i]? = some s ∧ d = s.d := by
  rw [blkD_map, List.getElem?_map] at h
  cases e : b[i]? with
  | none => rw [e] at h; cases h
  | some s => rw [e] at h; cases h; exact ⟨s, rfl, rfl⟩
theorem cntB_append : ∀ a b : List Stm, cntB (a ++ b) = cntB a + cntB b
  | [], b => by simp [cntB]
  | s :: r, b => by rw [List.cons_append, cntB, cntB_append r b, cntB]; omega
theorem Stm.cnt_pos : ∀ s : Stm, 1 ≤ s.cnt
  | .cmd _ => Nat.le_refl _
  | .fin _ => Nat.le_refl _
  | .keep b => by simp [Stm.cnt]
  | .again b => by simp [Stm.cnt]
  | .either a b => by simp [Stm.cnt]
  | .call _ _ a b => by simp [Stm.cnt]
theorem len_cntB : ∀ b : List Stm, b.length ≤ cntB b
  | [] => Nat.le_refl _
  | s :: r => by
    have := len_cntB r
    have := s.cnt_pos
    rw [List.length_cons, cntB]
    omega
theorem okB_append {many : Nat} : ∀ {a b : List Stm} {l : Nat}, okB many a l → okB many b l → okB many (a ++ b) l
  | [], b, l, _, h => h
  | s :: r, b, l, h1, h2 => ⟨h1.1, okB_append h1.2 h2⟩
theorem okB_get {many : Nat} : ∀ {b : List Stm} {l i : Nat} {s : Stm}, okB many b l → b[i]? = some s → s.ok many l
  | [], l, i, s, _, e => by simp at e
  | s :: r, l, 0, _, h, e => by cases e; exact h.1
  | s :: r, l, i + 1, _, h, e => okB_get (i := i) h.2 e
/-! ### what the program says of any value -/
def isI : PyData → Bool
  | .int _ => true
  | _ => false
def inD (d : PyData) (l : Int × Int) : Bool := match d with
  | .int z => decide (l.1 ≤ z) && decide (z ≤ l.2)
  | _ => false
def isLs : PyData → Bool
  | .list _ => true
  | _ => false
def isTp : PyData → Bool
  | .tuple _ => true
  | _ => false
def isBl : PyData → Bool
  | .bool _ => true
  | _ => false

def boundsOf (s : Str) : Option (List (Int × Int)) :=
  if s = "go" then some [(-9, 9)] else if s = "turn" then some [(1, 3)] else if s = "mirror" then some [] else if s = "scale" then some [(-3, 3)] else if s = "aim" then some [(-9, 9), (-9, 9)] else
  if s = "place" then some [(-9, 9), (-9, 9)] else if s = "mark" then some [] else if s = "return" then some [] else if s = "exchange" then some [] else none
def cmdOk : PyData → Bool
  | .tuple (.str s :: ns) => match boundsOf s with
    | some ls => decide (ns.length = ls.length) && (List.zipWith inD ns ls).all id
    | none => false
  | _ => false
def areBl (n : Nat) : PyData → Bool
  | .list bs => decide (bs.length = n) && bs.all isLs
  | _ => false
def areBlT (n : Nat) (bs : List PyData) : Bool := decide (bs.length = n) && bs.all isLs
def callOk (many : Int) : List PyData → Bool
  | [_, p, s, b] => inD p (0, many - 1) && isBl s && areBl 2 b
  | _ => false
def endOk : List PyData → Bool
  | [y] => inD y (0, 1)
  | _ => false
def stRest (level many : Int) : PyData → Bool
  | .tuple (x :: r) =>
    if PyData.eqv x (.str "end") then endOk r
    else if level = 3 then false
    else if PyData.eqv x (.str "call") then callOk many (x :: r)
    else if PyData.eqv x (.str "either") then areBlT 2 r
    else (PyData.eqv x (.str "keep") || PyData.eqv x (.str "again")) && areBlT 1 r
  | _ => false
def stOk (level many : Int) (d : PyData) : Bool := cmdOk d || stRest level many d
def oddWords : List Str := ["keep", "again", "either", "call", "end", "Mark", "bad"]
def WordOk : PyData → Prop
  | .tuple (.str s :: _) => s ∈ oddWords ∨ ∃ c : Cm, c.word = s
  | _ => True
theorem bounds_cm (c : Cm) : boundsOf c.word = some c.lims := by cases c <;> (simp only [Cm.word, Cm.lims]; decide +kernel)
theorem bounds_odd {s : Str} (h : s ∈ oddWords) : boundsOf s = none := by
  simp only [oddWords, List.mem_cons, List.not_mem_nil, or_false] at h
  rcases h with rfl | rfl | rfl | rfl | rfl | rfl | rfl <;> decide +kernel
theorem zip_ok : ∀ (ns : List Int) (ls : List (Int × Int)), (∀ (i : Nat) (z : Int) (l : Int × Int), ns[i]? = some z → ls[i]? = some l → l.1 ≤ z ∧ z ≤ l.2) → (List.zipWith inD (ns.map PyData.int) ls).all id = true
  | [], ls, _ => by cases ls <;> rfl
  | n :: r, [], _ => rfl
  | n :: r, l :: q, h => by
    have h0 := h 0 n l rfl rfl
    have hr := zip_ok r q fun i z k e1 e2 => h (i + 1) z k e1 e2
    show (inD (.int n) l && (List.zipWith inD (r.map PyData.int) q).all id) = true
    rw [hr]
    simp [inD, h0.1, h0.2]
theorem cmdOk_ok {c : Cm} (h : c.ok) : cmdOk c.d = true := by
  have hl : c.nums.length = c.lims.length := by cases c <;> rfl
  unfold Cm.d cmdOk
  dsimp only
  rw [bounds_cm]
  dsimp only
  rw [zip_ok _ _ h, List.length_map, hl]
  simp
theorem wordOk_d (s : Stm) : WordOk s.d := by
  cases s with
  | cmd c => exact .inr ⟨c, rfl⟩
  | _ => exact .inl (by simp [oddWords])
theorem stOk_ok {many : Nat} {s : Stm} {l : Nat} (h : s.ok many l) : stOk l many s.d = true := by
  have e3 : l < 3 → ((l : Int) = 3) = False := fun h => by simp; omega
  cases s with
  | cmd c =>
    show (cmdOk c.d || _) = true
    rw [cmdOk_ok h]
    rfl
  | fin w => cases w <;> simp [stOk, stRest, endOk, Stm.d, PyData.eqv, inD]
  | keep b =>
    have n1 : ¬ (("keep" : Str) = "end") := by decide +kernel
    have n2 : ¬ (("keep" : Str) = "call") := by decide +kernel
    have n3 : ¬ (("keep" : Str) = "either") := by decide +kernel
    simp [stOk, stRest, endOk, Stm.d, PyData.eqv, e3 h.1, n1, n2, n3, areBlT, isLs]
  | again b =>
    have n1 : ¬ (("again" : Str) = "end") := by decide +kernel
    have n2 : ¬ (("again" : Str) = "call") := by decide +kernel
    have n3 : ¬ (("again" : Str) = "either") := by decide +kernel
    simp [stOk, stRest, endOk, Stm.d, PyData.eqv, e3 h.1, n1, n2, n3, areBlT, isLs]
  | either a b =>
    have n1 : ¬ (("either" : Str) = "end") := by decide +kernel
    have n2 : ¬ (("either" : Str) = "call") := by decide +kernel
    simp [stOk, stRest, endOk, Stm.d, PyData.eqv, e3 h.1, n1, n2, areBlT, isLs]
  | call p s a b =>
    have n1 : ¬ (("call" : Str) = "end") := by decide +kernel
    have h2 := h.2.1
    have i1 : (0 : Int) ≤ (p : Int) := by omega
    have i2 : (p : Int) ≤ (many : Int) - 1 := by omega
    simp [stOk, stRest, endOk, Stm.d, PyData.eqv, e3 h.1, n1, callOk, areBl, isLs, isBl, inD, i2]
abbrev bD (b : List Stm) : PyData := .list (blkD b)
def isBlk (w : Str) : Bool := inV (.str w) [.str "keep", .str "either", .str "again"]
def callBl : List PyData → List PyData
  | [_, _, .list bs] => bs
  | _ => []
def blocksR (w : Str) (r : List PyData) : List PyData :=
  if w = "call" then callBl r else if isBlk w = true then r else []
theorem isBlk_cm (c : Cm) : isBlk c.word = false := by cases c <;> (simp only [Cm.word]; decide +kernel)
theorem cm_call (c : Cm) : ¬ c.word = "call" := by cases c <;> (simp only [Cm.word]; decide +kernel)
/-- the word and what stands behind it -/
def Stm.word : Stm → Str
  | .cmd c => c.word
  | .fin _ => "end"
  | .keep _ => "keep"
  | .again _ => "again"
  | .either _ _ => "either"
  | .call _ _ _ _ => "call"
def Stm.rest : Stm → List PyData
  | .cmd c => c.nums.map .int
  | .fin w => [.int (if w then 1 else 0)]
  | .keep b => [bD b]
  | .again b => [bD b]
  | .either a b => [bD a, bD b]
  | .call p s a b => [.int p, .bool s, .list [bD a, bD b]]
theorem Stm.d_eq (s : Stm) : s.d = .tuple (.str s.word :: s.rest) := by cases s <;> simp only [Stm.d, Stm.word, Stm.rest, Cm.d]
theorem blocksR_d (s : Stm) : blocksR s.word s.rest = s.blocks.map bD := by
  unfold blocksR
  cases s with
  | cmd c => simp only [Stm.word, if_neg (cm_call c), isBlk_cm, Bool.false_eq_true, if_false, Stm.blocks, List.map_nil]
  | fin w => simp only [Stm.word, if_neg (show ¬ ("end" : Str) = "call" by decide +kernel), show isBlk "end" = false by decide +kernel, Bool.false_eq_true, if_false, Stm.blocks, List.map_nil]
  | keep b => simp only [Stm.word, if_neg (show ¬ ("keep" : Str) = "call" by decide +kernel), show isBlk "keep" = true by decide +kernel, if_true, Stm.blocks, Stm.rest, List.map_nil, List.map_cons]
  | again b => simp only [Stm.word, if_neg (show ¬ ("again" : Str) = "call" by decide +kernel), show isBlk "again" = true by decide +kernel, if_true, Stm.blocks, Stm.rest, List.map_nil, List.map_cons]
  | either a b => simp only [Stm.word, if_neg (show ¬ ("either" : Str) = "call" by decide +kernel), show isBlk "either" = true by decide +kernel, if_true, Stm.blocks, Stm.rest, List.map_nil, List.map_cons]
  | call p s a b => simp only [Stm.word, if_true, callBl, Stm.blocks, Stm.rest, List.map_nil, List.map_cons]
theorem Stm.rest_len (s : Stm) : s.rest.length ≤ 3 := by
  cases s with
  | cmd c => cases c <;> simp [Stm.rest, Cm.nums]
  | _ => simp [Stm.rest]
theorem Stm.rest_call {s : Stm} (h : s.word = "call") : ∃ p q bs, s.rest = [p, q, .list bs] := by
  cases s with
  | call p s a b => exact ⟨_, _, _, rfl⟩
  | cmd c => exact absurd h (cm_call c)
  | fin w => exact absurd h (show ¬ ("end" : Str) = "call" by decide +kernel)
  | keep w => exact absurd h (show ¬ ("keep" : Str) = "call" by decide +kernel)
  | again w => exact absurd h (show ¬ ("again" : Str) = "call" by decide +kernel)
  | either w z => exact absurd h (show ¬ ("either" : Str) = "call" by decide +kernel)
def cntBs : List (List Stm) → Nat
  | [] => 0
  | b :: r => cntB b + cntBs r
theorem cnt_blocks (z : Stm) : z.cnt = 1 + cntBs z.blocks := by cases z <;> simp [Stm.cnt, Stm.blocks, cntBs]
theorem cntB_take : ∀ {b : List Stm} {i : Nat} {z : Stm}, b[i]? = some z → cntB (b.take (i + 1)) = cntB (b.take i) + z.cnt
  | [], i, z, e => by simp at e
  | s :: r, 0, z, e => by cases e; simp [cntB]
  | s :: r, i + 1, z, e => by
    have := cntB_take (b := r) (i := i) e
    rw [List.take_succ_cons, List.take_succ_cons, cntB, cntB, this]
    omega
theorem cntB_le : ∀ {b : List Stm} {i : Nat} {z : Stm}, b[i]? = some z → cntB (b.take i) + z.cnt ≤ cntB b
  | [], i, z, e => by simp at e
  | s :: r, 0, z, e => by cases e; simp [cntB]
  | s :: r, i + 1, z, e => by
    have := cntB_le (b := r) (i := i) e
    rw [List.take_succ_cons, cntB, cntB]
    omega
theorem cntBs_take : ∀ {b : List (List Stm)} {i : Nat} {z : List Stm}, b[i]? = some z → cntBs (b.take (i + 1)) = cntBs (b.take i) + cntB z
  | [], i, z, e => by simp at e
  | s :: r, 0, z, e => by cases e; simp [cntBs]
  | s :: r, i + 1, z, e => by
    have := cntBs_take (b := r) (i := i) e
    rw [List.take_succ_cons, List.take_succ_cons, cntBs, cntBs, this]
    omega
theorem cntBs_le : ∀ {b : List (List Stm)} {i : Nat} {z : List Stm}, b[i]? = some z → cntBs (b.take i) + cntB z ≤ cntBs b
  | [], i, z, e => by simp at e
  | s :: r, 0, z, e => by cases e; simp [cntBs]
  | s :: r, i + 1, z, e => by
    have := cntBs_le (b := r) (i := i) e
    rw [List.take_succ_cons, cntBs, cntBs]
    omega
theorem word_ok (z : Stm) : PyData.strOk z.word = true := by
  cases z with
  | cmd c => cases c <;> (simp only [Stm.word, Cm.word]; decide +kernel)
  | _ => simp only [Stm.word]; decide +kernel
abbrev bookD (bs : List (List Stm)) : PyData := .list (bs.map bD)
structure OkBook (bs : List (List Stm)) : Prop where
  lo : 1 ≤ bs.length
  hi : bs.length ≤ 3
  each : ∀ b ∈ bs, b.length ≤ 8 ∧ cntB b ≤ 12 ∧ okB bs.length b 0
theorem get_bodies {bs : List (List Stm)} {i : Nat} {d : PyData} (h : (bs.map bD)[i]? = some d) : ∃ b, bs[i]? = some b ∧ b ∈ bs ∧ d = bD b := by
  rw [List.getElem?_map] at h
  cases e : bs[i]? with
  | none => rw [e] at h; cases h
  | some b => rw [e] at h; cases h; exact ⟨b, rfl, List.mem_of_getElem? e, rfl⟩

/-! ### of what class a value is -/
def clsN : PyData → String
  | .none => "NoneType" | .bool _ => "bool" | .int _ => "int" | .str _ => "str" | .list _ => "list" | .tuple _ => "tuple" | .dict _ => "dict"
section
variable {S : Addr → Prop} {H : Hp} {d : PyData} {v : V} {Q : VK}
theorem tr_ty (K : PySem.W.Frag) : ∀ {d : PyData} {v : V}, Tr S H d v → TyX K H v (.type (clsN d))
  | .none, v, e => by cases e; exact .base .non
  | .bool b, v, e => by cases e; exact .base (.bl b)
  | .int b, v, e => by cases e; exact .base (.int b)
  | .str b, v, e => by cases e; exact .base (.str b)
  | .list _, v, ⟨a, xs, e, _, l, _⟩ => by cases e; exact .base (.lst l)
  | .tuple _, v, ⟨a, xs, e, l, _⟩ => by cases e; exact .base (.tup l)
  | .dict _, v, ⟨a, xs, e, l, _⟩ => by cases e; exact .base (.dK l)
def isNum : PyData → Bool
  | .int _ => true
  | .bool _ => true
  | _ => false
def isStr : PyData → Bool
  | .str _ => true
  | _ => false
variable (K : PySem.W.Frag)
theorem ki_int (d : PyData) : PySem.W.kitOne K (.type (clsN d)) (.type "int") = some (isNum d) := by cases d <;> (simp only [clsN, isNum, isBl, isStr, isLs, isTp]; exact kit_ty (by decide +kernel))
theorem ki_bool (d : PyData) : PySem.W.kitOne K (.type (clsN d)) (.type "bool") = some (isBl d) := by cases d <;> (simp only [clsN, isNum, isBl, isStr, isLs, isTp]; exact kit_ty (by decide +kernel))
theorem ki_str (d : PyData) : PySem.W.kitOne K (.type (clsN d)) (.type "str") = some (isStr d) := by cases d <;> (simp only [clsN, isNum, isBl, isStr, isLs, isTp]; exact kit_ty (by decide +kernel))
theorem ki_list (d : PyData) : PySem.W.kitOne K (.type (clsN d)) (.type "list") = some (isLs d) := by cases d <;> (simp only [clsN, isNum, isBl, isStr, isLs, isTp]; exact kit_ty (by decide +kernel))
theorem ki_tuple (d : PyData) : PySem.W.kitOne K (.type (clsN d)) (.type "tuple") = some (isTp d) := by cases d <;> (simp only [clsN, isNum, isBl, isStr, isLs, isTp]; exact kit_ty (by decide +kernel))
end
theorem ifTrue {A B : Prop} {b : Bool} (h : b = true) (q : A) : if b = true then A else B := by rw [if_pos h]; exact q
theorem ifFalse {A B : Prop} {b : Bool} (h : b = false) (q : B) : if b = true then A else B := by rw [if_neg (by rw [h]; exact Bool.false_ne_true)]; exact q
theorem ifB {A B : Prop} {b : Bool} (h1 : b = true → A) (h2 : b = false → B) : if b = true then A else B := by
  cases b
  · exact ifFalse rfl (h2 rfl)
  · exact ifTrue rfl (h1 rfl)

/-! ### signs of an own class: len(o), x in o, a == b, a + b -/
section
variable {X : Cx} {CX : CXT} {k : Nat} {f C : Addr} {fd : FuncData} {ps : List Str} {sp : Sp} {E : XK}
theorem run_sub {A : Around} {pins : List (Addr × Obj)} {σ : L2.St} {H : Hp} {s : Shared} {Q : VK} {us : List Value} {vs : List V} (hA : A.frames = X.A.frames) (hr : Room k A) (F : FnOk X.prog X.w X.K X.mg X.base CX k f fd ps sp) (hb : Binds X.K fd ps []) (hx : Passes CX X E) (I : Inv X pins σ H s) (r : Vals vs us) (h : sp vs H Q E) :
    wpAny (model X.prog X.w) A (call (.ref f) us) (EP X pins σ Q) X.xe s := by
  have e0 : Env0 X.prog X.w X.K X.mg X.base A X.stack s H := by
    have e := I.env0
    exact ⟨by rw [hA]; exact e.frames, e.mod, e.bs, e.bsz, e.funs, e.frf, e.hok, e.bare⟩
  have hl := F.len _ _ _ _ h
  have hl2 : us.length = ps.length := by rw [← r.length]; exact hl
  refine wpAny_call (codeAny_mono (F.run A X.stack s H ⟨us, []⟩ us vs Q E hr e0 (by
    have := hb s us I.kIn (by simpa using hl2)
    simpa using this) r h) fun r s' hq => ?_)
  cases r with
  | error e => exact hx pins σ H s e s' I hq
  | ok fl =>
    cases fl with
    | ret w => exact I.after hq
    | next => exact False.elim hq
    | brk => exact False.elim hq
    | cont => exact False.elim hq
def rLenO (C : Addr) (sp : Sp) (E : XK) : List V → Hp → VK → Prop := fun xs H Q => ∃ a dx fs, xs = [V.ref a] ∧ H a = some (.ins C dx fs) ∧ sp [.ref a] H (fun v H' => ∃ n : Int, v = .int n ∧ (0 ≤ n ∧ n < 2 ^ 63) ∧ Q (.int n) H') E
theorem call_lenO (F : FnOk X.prog X.w X.K X.mg X.base CX k f fd ps sp) (hm : Meth X.K C "__len__" f) (hr : Room (k + 1) X.A) (hb : Binds X.K fd ps []) (hx : Passes CX X E) : CallR X (.builtin "len") (rLenO C sp E) := by
  intro pins s σ H xs us Q I r h
  obtain ⟨a, dx, fs, rfl, ha, q⟩ := h
  cases r with
  | cons r1 r2 =>
    cases r2
    cases r1
    obtain ⟨mA, J, _⟩ := ins_get I.hok ha
    obtain ⟨od, J, _⟩ := J.look
    obtain ⟨m, hF⟩ := I.fr
    refine PySem.W.len_K hF I.ok.mod.kin J hm.at_ hm.fn ?_
    refine wpAny_mono (run_sub (A := X.A.in1) rfl hr.in1 F (us := [.ref a]) (vs := [.ref a]) hb hx I (.cons rfl .nil) q) (fun u s' z => ?_) fun _ _ z => z
    obtain ⟨v, H', I', rv, n, rfl, b, q'⟩ := z
    obtain ⟨t, rfl⟩ := rv
    exact ⟨b, .int n, H', I'.tok _, ⟨_, rfl⟩, q'⟩
def rInO (C : Addr) (sp : Sp) (E : XK) : R2 := fun x y H Q => ∃ a dx fs, y = V.ref a ∧ H a = some (.ins C dx fs) ∧ sp [.ref a, x] H (fun v H' => ∃ b : Bool, v = .bl b ∧ Q (.bl b) H') E
theorem op_inO (F : FnOk X.prog X.w X.K X.mg X.base CX k f fd ps sp) (hm : Meth X.K C "__contains__" f) (hr : Room k X.A) (hb : Binds X.K fd ps []) (hx : Passes CX X E) : OpR X (compareOp .In) (rInO C sp E) := by
  intro pins s σ H x y v u Q I rx ry h
  obtain ⟨a, dx, fs, rfl, ha, q⟩ := h
  cases ry
  obtain ⟨mA, J, _⟩ := ins_get I.hok ha
  obtain ⟨od, J, _⟩ := J.look
  obtain ⟨m, hF⟩ := I.fr
  refine PySem.W.in_K hF I.ok.mod.kin J hm.at_ hm.fn ?_
  refine wpAny_mono (run_sub (A := X.A) rfl hr F (us := [.ref a, v]) (vs := [.ref a, x]) hb hx I (.cons rfl (.cons rx .nil)) q) (fun u s' z => ?_) fun _ _ z => z
  obtain ⟨v, H', I', rv, b, rfl, q'⟩ := z
  cases rv
  exact wpAny_truthy_bool ⟨.bl b, H', I', rfl, q'⟩
def rNotInO (C : Addr) (sp : Sp) (E : XK) : R2 := fun x y H Q => ∃ a dx fs, y = V.ref a ∧ H a = some (.ins C dx fs) ∧ sp [.ref a, x] H (fun v H' => ∃ b : Bool, v = .bl b ∧ Q (.bl (!b)) H') E
theorem op_notInO (F : FnOk X.prog X.w X.K X.mg X.base CX k f fd ps sp) (hm : Meth X.K C "__contains__" f) (hr : Room k X.A) (hb : Binds X.K fd ps []) (hx : Passes CX X E) : OpR X (compareOp .NotIn) (rNotInO C sp E) := by
  intro pins s σ H x y v u Q I rx ry h
  obtain ⟨a, dx, fs, rfl, ha, q⟩ := h
  cases ry
  obtain ⟨mA, J, _⟩ := ins_get I.hok ha
  obtain ⟨od, J, _⟩ := J.look
  obtain ⟨m, hF⟩ := I.fr
  refine PySem.W.notIn_K hF I.ok.mod.kin J hm.at_ hm.fn ?_
  refine wpAny_mono (run_sub (A := X.A) rfl hr F (us := [.ref a, v]) (vs := [.ref a, x]) hb hx I (.cons rfl (.cons rx .nil)) q) (fun u s' z => ?_) fun _ _ z => z
  obtain ⟨v, H', I', rv, b, rfl, q'⟩ := z
  cases rv
  exact wpAny_truthy_bool ⟨.bl (!b), H', I', rfl, q'⟩
/-- a == b, two of one own class -/
def rEqO (C : Addr) (sp : Sp) (E : XK) : R2 := fun x y H Q => ∃ a b dx dy fs gs, x = V.ref a ∧ y = V.ref b ∧ H a = some (.ins C dx fs) ∧ H b = some (.ins C dy gs) ∧ sp [.ref a, .ref b] H (fun v H' => ∃ b : Bool, v = .bl b ∧ Q (.bl b) H') E
theorem op_eqO (F : FnOk X.prog X.w X.K X.mg X.base CX k f fd ps sp) (hm : Meth X.K C "__eq__" f) (hr : Room k X.A) (hb : Binds X.K fd ps []) (hx : Passes CX X E) : OpR X (compareOp .Eq) (rEqO C sp E) := by
  intro pins s σ H x y v u Q I rx ry h
  obtain ⟨a, b, dx, dy, fs, gs, rfl, rfl, ha, hb', q⟩ := h
  cases rx
  cases ry
  obtain ⟨mA, J, _⟩ := ins_get I.hok ha
  obtain ⟨mB, J', _⟩ := ins_get I.hok hb'
  obtain ⟨od, J, _⟩ := J.look
  obtain ⟨od', J', _⟩ := J'.look
  obtain ⟨m, hF⟩ := I.fr
  show wpAny (model X.prog X.w) X.A (richCompare .Eq _ _) (EP X pins σ Q) X.xe s
  refine PySem.W.cmp_K (op := .Eq) (tb := .ref C) hr.units0 hF I.ok.mod.kin J J'.type (by simp [PySem.W.notFirst]) hm.at_ hm.fn ?_
  refine wpAny_mono (run_sub (A := X.A) rfl hr F (us := [.ref a, .ref b]) (vs := [.ref a, .ref b]) hb hx I (.cons rfl (.cons rfl .nil)) q) (fun u s' z => ?_) fun _ _ z => z
  obtain ⟨v, H', I', rv, b, rfl, q'⟩ := z
  cases rv
  exact ⟨.bl b, H', I', rfl, q'⟩
/-- a + b, a * b, two of one own class -/
def rBinO (C : Addr) (sp : Sp) (E : XK) : R2 := fun x y H Q => ∃ a b dx dy fs gs, x = V.ref a ∧ y = V.ref b ∧ H a = some (.ins C dx fs) ∧ H b = some (.ins C dy gs) ∧ sp [.ref a, .ref b] H (fun v H' => (∃ p, v = .ref p) ∧ Q v H') E
theorem op_binO {op : Operator} (F : FnOk X.prog X.w X.K X.mg X.base CX k f fd ps sp) (hc : PySem.W.selfFirst X.K C = true) (hm : Meth X.K C (PySem.dunder op.info.2) f) (hr : Room k X.A) (hb : Binds X.K fd ps []) (hx : Passes CX X E) : OpR X (binaryOp op) (rBinO C sp E) := by
  intro pins s σ H x y v u Q I rx ry h
  obtain ⟨a, b, dx, dy, fs, gs, rfl, rfl, ha, hb', q⟩ := h
  cases rx
  cases ry
  obtain ⟨mA, J, _⟩ := ins_get I.hok ha
  obtain ⟨mB, J', _⟩ := ins_get I.hok hb'
  obtain ⟨od, J, _⟩ := J.look
  obtain ⟨od', J', _⟩ := J'.look
  obtain ⟨m, hF⟩ := I.fr
  refine PySem.W.binop_K hF I.ok.mod.kin J J'.type hc hm.at_ hm.fn ?_
  refine wpAny_mono (run_sub (A := X.A) rfl hr F (us := [.ref a, .ref b]) (vs := [.ref a, .ref b]) hb hx I (.cons rfl (.cons rfl .nil)) q) (fun u s' z => ?_) fun _ _ z => z
  obtain ⟨v, H', I', rv, ⟨p, rfl⟩, q'⟩ := z
  cases rv
  exact ⟨.ref p, H', I', rfl, q'⟩
end
theorem kit_self {K : PySem.W.Frag} {C : Addr} : PySem.W.kitOne K (.ref C) (.ref C) = some true := by
  unfold PySem.W.kitOne
  simp
/-! ### o[i], o of an own class -/
def rGetO (C : Addr) (sp : Sp) (E : XK) : R2 := fun x y H Q => ∃ a dx fs, x = V.ref a ∧ H a = some (.ins C dx fs) ∧ sp [.ref a, y] H Q E
theorem pe_getO {X : Cx} {CX : CXT} {k : Nat} {f C : Addr} {fd : FuncData} {ps : List Str} {sp : Sp} {E : XK} {a b : Expr} {ta tb : TE} {pos : Pos} (F : FnOk X.prog X.w X.K X.mg X.base CX k f fd ps sp) (hm : Meth X.K C "__getitem__" f) (hf : PySem.W.fnIn X.K f = true) (hr : Room (k + 1) X.A) (hb : Binds X.K fd ps []) (hx : Passes CX X E) (ha : PE X a ta) (hbx : PE X b tb)
    (hsl : ∀ (x : Addr) (i : Value), subscripted b true (.ref x) i = runValue (.builtin "lifetime.subscript" ⟨[.ref x, i], []⟩) := by intro x i; with_unfolding_all rfl) : PE X (.Subscript a b pos) (tOp (rGetO C sp E) ta tb) := by
  refine ⟨fun pins s σ H Q I h => ?_⟩
  refine Subscript_ (binT ha hbx I h fun v u s2 x y H2 I2 rx ry q => ?_)
  obtain ⟨o, dx, fs, rfl, ho, q⟩ := q
  cases rx
  obtain ⟨mA, J, _⟩ := ins_get I2.hok ho
  obtain ⟨od, J, _⟩ := J.look
  obtain ⟨m, hF⟩ := I2.fr
  refine PySem.W.sub_K hF I2.ok.mod.kin J hm.at_ hf hm.fn ?_ (hsl _ _)
  exact run_sub (A := X.A.in1) rfl hr.in1 F (us := [.ref o, u]) (vs := [.ref o, y]) hb hx I2 (.cons rfl (.cons ry .nil)) q

/-! ### what the law's draws of statements go by: the pool at p, the room at r, the calls at c -/
structure Drw (H : Hp) (p r c : Addr) (L : Nat) (m k : Int) (many : Nat) : Prop where
  pl : Pool H p L
  r : H r = some (.lst [.int m])
  c : H c = some (.lst [.int k, .int many])
structure Sep (p r c : Addr) : Prop where
  pr : p ≠ r
  pc : p ≠ c
  rc : r ≠ c
abbrev MM (p r c : Addr) : Addr → Prop := fun a => a = p ∨ a = r ∨ a = c
section
variable {H H' : Hp} {p r c : Addr} {L many : Nat} {m k : Int}
theorem Drw.lst (d : Drw H p r c L m k many) : ∀ a, MM p r c a → ∃ ys, H a = some (.lst ys) := fun a h => by
  obtain ⟨ns, hp, _⟩ := d.pl
  rcases h with rfl | rfl | rfl
  · exact ⟨_, hp⟩
  · exact ⟨_, d.r⟩
  · exact ⟨_, d.c⟩
theorem Drw.ne (d : Drw H p r c L m k many) {a : Addr} (h : H a = none) : ¬ MM p r c a := fun e => by
  obtain ⟨ys, hy⟩ := d.lst a e
  rw [hy] at h
  cases h
theorem Drw.kp (d : Drw H p r c L m k many) (s : Sep p r c) (e : Kp p H H') (pl : Pool H' p L) : Drw H' p r c L m k many := ⟨pl, e _ _ s.pr.symm d.r, e _ _ s.pc.symm d.c⟩
theorem Drw.gone (d : Drw H p r c L m k many) (s : Sep p r c) (e : Kp p H H') : KpL (MM p r c) H H' := KpL.kp e (.inl rfl) (d.lst p (.inl rfl))
theorem Drw.same (d : Drw H p r c L m k many) (e : Same H H') : Drw H' p r c L m k many := by
  obtain ⟨⟨ns, hp, hl⟩, h1, h2⟩ := d
  exact ⟨⟨ns, e _ _ hp, hl⟩, e _ _ h1, e _ _ h2⟩
theorem Drw.new (d : Drw H p r c L m k many) {q : Addr} {o : HO} (n : H q = none) : Drw (upd H q o) p r c L m k many := d.same (same_upd n)
theorem Drw.room (d : Drw H p r c L m k many) (s : Sep p r c) (z : Int) : Drw (upd H r (.lst [.int z])) p r c L z k many := by
  obtain ⟨⟨ns, hp, hl⟩, h1, h2⟩ := d
  exact ⟨⟨ns, by rw [upd_ne s.pr]; exact hp, hl⟩, upd_same, by rw [upd_ne s.rc.symm]; exact h2⟩
theorem Drw.calls (d : Drw H p r c L m k many) (s : Sep p r c) (z : Int) : Drw (upd H c (.lst [.int z, .int many])) p r c L m z many := by
  obtain ⟨⟨ns, hp, hl⟩, h1, h2⟩ := d
  exact ⟨⟨ns, by rw [upd_ne s.pc]; exact hp, hl⟩, by rw [upd_ne s.rc]; exact h1, upd_same⟩
theorem New.kpl {H0 : Hp} (d : Drw H0 p r c L m k many) {ds : PyData} {v : V} (e : KpL (MM p r c) H H') (t : Tr (New H0) H ds v) : Tr (New H0) H' ds v := Tr.kpl e (fun a n => d.ne n) _ _ t
theorem New.kplA {H0 : Hp} (d : Drw H0 p r c L m k many) {ds : List PyData} {v : List V} (e : KpL (MM p r c) H H') (t : TrAll (New H0) H ds v) : TrAll (New H0) H' ds v := TrAll.kpl e (fun a n => d.ne n) _ _ t
/-- new since a later heap is new since an earlier one -/
theorem New.old {H0 : Hp} {m' k' : Int} (e : KpL (MM p r c) H0 H) (d : Drw H p r c L m' k' many) {ds : PyData} {v : V} (t : Tr (New H) H' ds v) : Tr (New H0) H' ds v := Tr.mono (fun _ n => e.free d.lst n) _ _ t
end
/-- a list of statements is drawn: m statements may still be made, at least lo; n: how deep; mo: of how many procedures, none where no call may be made -/
def spD (lo : Int) (n : Nat) : Sp := fun vs H Q _ => ∃ (p r c : Addr) (L l many mo : Nat) (mood m k low : Int), vs = [.ref p, .int mood, .int l, .ref r, .ref c, .int low] ∧ Sep p r c ∧ Drw H p r c L m k many ∧
  (2 ≤ L ∧ L ≤ 64 ∧ 0 ≤ mood ∧ mood < 8 ∧ l ≤ 3 ∧ 0 ≤ low ∧ lo ≤ m ∧ m ≤ 8 ∧ m ≤ n ∧ many ≤ 3 ∧ (mo = many ∨ mo = 0 ∧ k ≤ 0)) ∧
  ∀ (q : Addr) (ss : List Stm) (H' : Hp) (m' k' : Int), KpL (MM p r c) H H' → Drw H' p r c L m' k' many → (0 ≤ m' ∧ k' ≤ k) → m' + cntB ss = m → okB mo ss l → Tr (New H) H' (bD ss) (.ref q) → Q (.ref q) H'
theorem mo_le {mo many : Nat} {k k2 : Int} (h : mo = many ∨ mo = 0 ∧ k ≤ 0) (l : k2 ≤ k) : mo = many ∨ mo = 0 ∧ k2 ≤ 0 := h.imp id fun h => ⟨h.1, by omega⟩

/-! ### the law's own comparison -/
mutual
def sameD : PyData → PyData → Bool
  | .list xs, .list ys => sameAll xs ys
  | .tuple xs, .tuple ys => sameAll xs ys
  | .bool a, .bool b => a == b
  | .int a, .int b => a == b
  | .str a, .str b => a == b
  | .none, .none => true
  | _, _ => false
def sameAll : List PyData → List PyData → Bool
  | [], [] => true
  | x :: xs, y :: ys => sameD x y && sameAll xs ys
  | _, _ => false
end
mutual
/-- nested below n, lists of at most a hundred -/
def Fit : PyData → Nat → Prop
  | _, 0 => False
  | .list ds, n + 1 => ds.length ≤ 100 ∧ FitAll ds n
  | .tuple ds, n + 1 => ds.length ≤ 100 ∧ FitAll ds n
  | .str s, _ + 1 => PyData.strOk s = true
  | .dict _, _ + 1 => False
  | _, _ + 1 => True
def FitAll : List PyData → Nat → Prop
  | [], _ => True
  | d :: r, n => Fit d n ∧ FitAll r n
end
theorem FitAll.get : ∀ {ds : List PyData} {n i : Nat} {d : PyData}, FitAll ds n → ds[i]? = some d → Fit d n
  | [], n, i, d, _, e => by simp at e
  | x :: r, n, 0, d, h, e => by cases e; exact h.1
  | x :: r, n, i + 1, d, h, e => FitAll.get (i := i) h.2 e
theorem FitAll.of : ∀ {ds : List PyData} {n : Nat}, (∀ d ∈ ds, Fit d n) → FitAll ds n
  | [], _, _ => True.intro
  | d :: r, n, h => ⟨h d List.mem_cons_self, FitAll.of fun x hx => h x (List.mem_cons_of_mem _ hx)⟩
mutual
theorem Fit.lay : ∀ (d : PyData) (n : Nat), Fit d n → d.canLay0 = true ∧ d.depth ≤ n
  | .none, n + 1, _ => by simp [PyData.canLay0, PyData.depth]
  | .bool b, n + 1, _ => by simp [PyData.canLay0, PyData.depth]
  | .int b, n + 1, _ => by simp [PyData.canLay0, PyData.depth]
  | .str s, n + 1, h => by
    have h : PyData.strOk s = true := h
    simp [PyData.canLay0, PyData.depth, h]
  | .list ds, n + 1, ⟨_, h⟩ => by
    have := FitAll.lay ds n h
    simp only [PyData.canLay0, PyData.depth]
    exact ⟨this.1, by have := this.2; omega⟩
  | .tuple ds, n + 1, ⟨_, h⟩ => by
    have := FitAll.lay ds n h
    simp only [PyData.canLay0, PyData.depth]
    exact ⟨this.1, by have := this.2; omega⟩
  | .dict _, n + 1, h => h.elim
  | .none, 0, h => h.elim
  | .bool _, 0, h => h.elim
  | .int _, 0, h => h.elim
  | .str _, 0, h => h.elim
  | .list _, 0, h => h.elim
  | .tuple _, 0, h => h.elim
  | .dict _, 0, h => h.elim
theorem FitAll.lay : ∀ (ds : List PyData) (n : Nat), FitAll ds n → PyData.canLayAll0 ds = true ∧ PyData.depthAll ds ≤ n
  | [], n, _ => by simp [PyData.canLayAll0, PyData.depthAll]
  | d :: r, n, h => by
    have h1 := Fit.lay d n h.1
    have h2 := FitAll.lay r n h.2
    simp only [PyData.canLayAll0, PyData.depthAll, h1.1, h2.1]
    refine ⟨rfl, ?_⟩
    omega
end
theorem Fit.shaped {d : PyData} {n : Nat} (h : Fit d n) (hn : n ≤ 64) : SeqAt.shaped d = true := by
  have := Fit.lay d n h
  simp only [SeqAt.shaped, this.1, Bool.true_and, decide_eq_true_eq]
  omega
theorem sameAll_zip : ∀ (xs ys : List PyData), xs.length = ys.length → sameAll xs ys = (List.zipWith sameD xs ys).all id
  | [], [], _ => by simp [sameAll]
  | x :: r, y :: q, h => by
    rw [sameAll, sameAll_zip r q (by simpa using h), List.zipWith_cons_cons, List.all_cons]
    rfl
theorem sameAll_len : ∀ (xs ys : List PyData), xs.length ≠ ys.length → sameAll xs ys = false
  | [], [], h => absurd rfl h
  | [], y :: q, _ => by simp [sameAll]
  | x :: r, [], _ => by simp [sameAll]
  | x :: r, y :: q, h => by
    rw [sameAll, sameAll_len r q (fun e => h (by simp [e])), Bool.and_false]
mutual
theorem same_refl : ∀ (d : PyData) (n : Nat), Fit d n → sameD d d = true
  | .none, _, _ => by simp [sameD]
  | .bool b, _, _ => by simp [sameD]
  | .int b, _, _ => by simp [sameD]
  | .str s, _, _ => by simp [sameD]
  | .list ds, n + 1, ⟨_, h⟩ => by simp only [sameD]; exact sameAll_refl ds n h
  | .tuple ds, n + 1, ⟨_, h⟩ => by simp only [sameD]; exact sameAll_refl ds n h
  | .dict _, n + 1, h => h.elim
  | .list _, 0, h => h.elim
  | .tuple _, 0, h => h.elim
  | .dict _, 0, h => h.elim
theorem sameAll_refl : ∀ (ds : List PyData) (n : Nat), FitAll ds n → sameAll ds ds = true
  | [], _, _ => by simp [sameAll]
  | d :: r, n, h => by
    simp only [sameAll, same_refl d n h.1, sameAll_refl r n h.2, Bool.and_self]
end

mutual
/-- the data of a statement of a list at level l -/
theorem fit_stm {many : Nat} : ∀ (z : Stm) (l n : Nat), z.ok many l → 3 * (4 - l) ≤ n → Fit z.d (n + 2)
  | .cmd c, l, n, _, _ => by
    refine ⟨?_, word_ok (.cmd c), ?_⟩
    · rw [List.length_cons, List.length_map]
      cases c <;> simp [Cm.nums]
    · refine FitAll.of fun d hd => ?_
      obtain ⟨z, _, rfl⟩ := List.mem_map.mp hd
      exact True.intro
  | .fin w, l, n, _, _ => ⟨by simp, (show PyData.strOk "end" = true by decide +kernel), True.intro, True.intro⟩
  | .keep b, l, n, h, hn => ⟨by simp, (show PyData.strOk "keep" = true by decide +kernel), fit_blk b (l + 1) n h.2.1 h.2.2 (by have := h.1; omega) (by have := h.1; omega), True.intro⟩
  | .again b, l, n, h, hn => ⟨by simp, (show PyData.strOk "again" = true by decide +kernel), fit_blk b (l + 1) n h.2.1 h.2.2 (by have := h.1; omega) (by have := h.1; omega), True.intro⟩
  | .either a b, l, n, h, hn => ⟨by simp, (show PyData.strOk "either" = true by decide +kernel), fit_blk a (l + 1) n h.2.1.1 h.2.1.2 (by have := h.1; omega) (by have := h.1; omega), fit_blk b (l + 1) n h.2.2.1 h.2.2.2 (by have := h.1; omega) (by have := h.1; omega), True.intro⟩
  | .call p s a b, l, n, h, hn => by
    obtain ⟨n', rfl⟩ : ∃ n', n = n' + 1 := ⟨n - 1, by have := h.1; omega⟩
    exact ⟨by simp, (show PyData.strOk "call" = true by decide +kernel), True.intro, True.intro, ⟨by simp, fit_blk a (l + 1) n' h.2.2.1.1 h.2.2.1.2 (by have := h.1; omega) (by have := h.1; omega), fit_blk b (l + 1) n' h.2.2.2.1 h.2.2.2.2 (by have := h.1; omega) (by have := h.1; omega), True.intro⟩, True.intro⟩
theorem fit_blk {many : Nat} : ∀ (b : List Stm) (l n : Nat), b.length ≤ 8 → okB many b l → l ≤ 3 → 3 * (4 - l) + 2 ≤ n → Fit (bD b) (n + 1)
  | b, l, n, h8, h, hl, hn => by
    refine ⟨by rw [blkD_len]; omega, ?_⟩
    obtain ⟨n', rfl⟩ : ∃ n', n = n' + 2 := ⟨n - 2, by omega⟩
    exact fit_all b l n' h (by omega)
theorem fit_all {many : Nat} : ∀ (b : List Stm) (l n : Nat), okB many b l → 3 * (4 - l) ≤ n → FitAll (blkD b) (n + 2)
  | [], _, _, _, _ => True.intro
  | z :: r, l, n, h, hn => ⟨fit_stm z l n h.1 hn, fit_all r l n h.2 hn⟩
end
theorem fit_book {bs : List (List Stm)} (h : OkBook bs) : Fit (bookD bs) 16 := by
  refine ⟨by rw [List.length_map]; have := h.hi; omega, FitAll.of fun d hd => ?_⟩
  obtain ⟨b, mb, rfl⟩ := List.mem_map.mp hd
  obtain ⟨o1, o2, o3⟩ := h.each b mb
  exact fit_blk b 0 14 o1 o3 (by decide) (by decide)

/-! ### the places of statements -/
mutual
def Stm.places : Stm → List Nat → List (List Nat × Stm)
  | .keep b, p => placesB b (p ++ [0]) 0
  | .again b, p => placesB b (p ++ [0]) 0
  | .either a b, p => placesB a (p ++ [0]) 0 ++ placesB b (p ++ [1]) 0
  | .call _ _ a b, p => placesB a (p ++ [0]) 0 ++ placesB b (p ++ [1]) 0
  | _, _ => []
def placesB : List Stm → List Nat → Nat → List (List Nat × Stm)
  | [], _, _ => []
  | s :: r, p, i => (p ++ [i], s) :: (s.places (p ++ [i]) ++ placesB r p (i + 1))
end
def placesBs : List (List Stm) → List Nat → Nat → List (List Nat × Stm)
  | [], _, _ => []
  | b :: r, p, j => placesB b (p ++ [j]) 0 ++ placesBs r p (j + 1)
theorem places_blocks (z : Stm) (p : List Nat) : z.places p = placesBs z.blocks p 0 := by
  cases z <;> simp [Stm.places, Stm.blocks, placesBs]
mutual
theorem len_places : ∀ (z : Stm) (p : List Nat), (z.places p).length + 1 = z.cnt
  | .cmd _, p => rfl
  | .fin _, p => rfl
  | .keep b, p => by rw [Stm.places, Stm.cnt, len_placesB b]; omega
  | .again b, p => by rw [Stm.places, Stm.cnt, len_placesB b]; omega
  | .either a b, p => by rw [Stm.places, Stm.cnt, List.length_append, len_placesB a, len_placesB b]; omega
  | .call _ _ a b, p => by rw [Stm.places, Stm.cnt, List.length_append, len_placesB a, len_placesB b]; omega
theorem len_placesB : ∀ (b : List Stm) (p : List Nat) (i : Nat), (placesB b p i).length = cntB b
  | [], _, _ => rfl
  | s :: r, p, i => by
    have h1 := len_places s (p ++ [i])
    have h2 := len_placesB r p (i + 1)
    rw [placesB, List.length_cons, List.length_append, h2, cntB]
    omega
end
theorem len_placesBs : ∀ (bs : List (List Stm)) (p : List Nat) (i : Nat), (placesBs bs p i).length = cntBs bs
  | [], _, _ => rfl
  | b :: r, p, i => by rw [placesBs, List.length_append, len_placesB, len_placesBs r, cntBs]
theorem placesB_take : ∀ {b : List Stm} {i : Nat} {z : Stm} (p : List Nat) (k : Nat), b[i]? = some z → placesB (b.take (i + 1)) p k = placesB (b.take i) p k ++ ((p ++ [k + i], z) :: z.places (p ++ [k + i]))
  | [], i, z, p, k, e => by simp at e
  | s :: r, 0, z, p, k, e => by cases e; simp [placesB]
  | s :: r, i + 1, z, p, k, e => by
    have := placesB_take (b := r) (i := i) p (k + 1) e
    rw [List.take_succ_cons, List.take_succ_cons, placesB, placesB, this, show k + 1 + i = k + (i + 1) by omega]
    simp
theorem placesBs_take : ∀ {b : List (List Stm)} {i : Nat} {z : List Stm} (p : List Nat) (k : Nat), b[i]? = some z → placesBs (b.take (i + 1)) p k = placesBs (b.take i) p k ++ placesB z (p ++ [k + i]) 0
  | [], i, z, p, k, e => by simp at e
  | s :: r, 0, z, p, k, e => by cases e; simp [placesBs]
  | s :: r, i + 1, z, p, k, e => by
    have := placesBs_take (b := r) (i := i) p (k + 1) e
    rw [List.take_succ_cons, List.take_succ_cons, placesBs, placesBs, this, show k + 1 + i = k + (i + 1) by omega]
    simp
abbrev natD : Nat → PyData := fun n => .int n
abbrev natV : Nat → V := fun n => .int n
def pathD (p : List Nat) : PyData := .tuple (p.map natD)
def placeD (x : List Nat × Stm) : PyData := .tuple [pathD x.1, x.2.d]
theorem TrAll.ofNats {S : Addr → Prop} {H : Hp} : ∀ (ns : List Nat), TrAll S H (ns.map natD) (ns.map natV)
  | [] => rfl
  | n :: r => ⟨_, _, rfl, rfl, TrAll.ofNats r⟩
mutual
theorem mem_places {many : Nat} : ∀ (z : Stm) (p : List Nat) (l : Nat), z.ok many l → ∀ x ∈ z.places p, ∃ l', x.2.ok many l'
  | .cmd _, p, l, h, x, m => nomatch m
  | .fin _, p, l, h, x, m => nomatch m
  | .keep b, p, l, h, x, m => mem_placesB b _ _ _ h.2.2 x m
  | .again b, p, l, h, x, m => mem_placesB b _ _ _ h.2.2 x m
  | .either a b, p, l, h, x, m => (List.mem_append.mp m).elim (fun m => mem_placesB a _ _ _ h.2.1.2 x m) fun m => mem_placesB b _ _ _ h.2.2.2 x m
  | .call _ _ a b, p, l, h, x, m => (List.mem_append.mp m).elim (fun m => mem_placesB a _ _ _ h.2.2.1.2 x m) fun m => mem_placesB b _ _ _ h.2.2.2.2 x m
theorem mem_placesB {many : Nat} : ∀ (b : List Stm) (p : List Nat) (i l : Nat), okB many b l → ∀ x ∈ placesB b p i, ∃ l', x.2.ok many l'
  | [], _, _, _, _, x, m => nomatch m
  | s :: r, p, i, l, h, x, m => by
    rcases List.mem_cons.mp m with rfl | m
    · exact ⟨l, h.1⟩
    · rcases List.mem_append.mp m with m | m
      · exact mem_places s _ l h.1 x m
      · exact mem_placesB r _ _ l h.2 x m
end

theorem oddw {K : PySem.W.Frag} {aB : Addr} (w0 : PySem.W.nsIn K aB "keep" = some none) (w1 : PySem.W.nsIn K aB "again" = some none) (w2 : PySem.W.nsIn K aB "either" = some none) (w3 : PySem.W.nsIn K aB "call" = some none) (w4 : PySem.W.nsIn K aB "end" = some none) (w5 : PySem.W.nsIn K aB "Mark" = some none) (w6 : PySem.W.nsIn K aB "bad" = some none) :
    ∀ s ∈ oddWords, PySem.W.nsIn K aB s = some none := fun s hs => by
  simp only [oddWords, List.mem_cons, List.not_mem_nil, or_false] at hs
  rcases hs with rfl | rfl | rfl | rfl | rfl | rfl | rfl
  · exact w0
  · exact w1
  · exact w2
  · exact w3
  · exact w4
  · exact w5
  · exact w6

/-! ### x in (a, b, ..), data of any depth; slices of tuples -/
theorem hu65 {A : Around} {k : Nat} (hr : Room k A) : A.units + 65 < cLine := by
  have := hr.un
  omega
def rInDT (K : PySem.W.Frag) : R2 := fun x y H Q => ∃ d ds, Dp K H x d ∧ Dp K H y (.tuple ds) ∧ SeqAt.shaped d = true ∧ SeqAt.shaped (.tuple ds) = true ∧ Q (.bl (ds.any fun z => PyData.eqv z d)) H
theorem op_inDT {X : Cx} (hu : X.A.units + 65 < cLine) : OpR X (compareOp .In) (rInDT X.K) := by
  intro pins s σ H x y v u Q I rx ry h
  obtain ⟨d, ds, hd, he, sd, se, q⟩ := h
  obtain ⟨as, r1⟩ := Dp.reads I d x v hd rx
  obtain ⟨bs, r2⟩ := Dp.reads I (.tuple ds) y u he ry
  exact SeqAt.in_tuple_reads r2 r1 (SeqAt.canLay_of_shaped se) (SeqAt.canLay_of_shaped sd) (room_in_shaped sd hu) ⟨.bl _, H, I, rfl, q⟩
section
variable (K : PySem.W.Frag) {X : Cx}
theorem k_inDT (hu : X.A.units + 65 < cLine) (hK : X.K = K := by rfl) : OpR X (compareOp .In) (rInDT K) := hK ▸ op_inDT hu
theorem k_inD (hu : X.A.units + 65 < cLine) (hK : X.K = K := by rfl) : OpR X (compareOp .In) (rInD K) := hK ▸ op_inD hu
theorem k_eqD (hu : X.A.units + 64 < cLine) (hK : X.K = K := by rfl) : OpR X (compareOp .Eq) (rEqD K) := hK ▸ op_eqD hu
theorem k_neD (hu : X.A.units + 64 < cLine) (hK : X.K = K := by rfl) : OpR X (compareOp .NotEq) (rNeD K) := hK ▸ op_neD hu
theorem k_catT (hK : X.K = K := by rfl) : OpR X (binaryOp .Add) (rCatT K) := hK ▸ op_catT
end
theorem cut_from1 {x : V} {xs : List V} : cutV (x :: xs) (some 1) none = xs := by
  unfold cutV
  rw [HT.sIx_none, show HT.sIx (x :: xs).length 0 (some 1) = min 1 (x :: xs).length from HT.sIx_nat _ _ 1, List.length_cons, show min 1 (xs.length + 1) = 1 by omega, List.drop_one, List.tail_cons, Nat.add_sub_cancel, List.take_length]
theorem cut_ne1 {x : V} {xs : List V} : ¬ (HT.sIx (x :: xs).length 0 (some 1) = 0 ∧ HT.sIx (x :: xs).length (x :: xs).length none = (x :: xs).length) := by
  rw [show HT.sIx (x :: xs).length 0 (some 1) = min 1 (x :: xs).length from HT.sIx_nat _ _ 1, List.length_cons]
  omega
theorem cut_to {xs : List V} {n : Nat} : cutV xs none (some (n : Int)) = xs.take n := by
  unfold cutV
  rw [HT.sIx_none, HT.sIx_nat, List.drop_zero, Nat.sub_zero, ← List.take_take]
  rw [List.take_length]
theorem cut_ne {xs : List V} {n : Nat} (h : n < xs.length) : ¬ (HT.sIx xs.length 0 none = 0 ∧ HT.sIx xs.length xs.length (some (n : Int)) = xs.length) := by
  rw [HT.sIx_nat]
  omega
theorem cut_from {xs : List V} {n : Nat} : cutV xs (some (n : Int)) none = xs.drop n := by
  unfold cutV
  rw [HT.sIx_none, HT.sIx_nat]
  by_cases h : n ≤ xs.length
  · rw [show min n xs.length = n by omega]
    exact List.take_of_length_le (by rw [List.length_drop]; exact Nat.le_refl _)
  · rw [show min n xs.length = xs.length by omega, List.drop_of_length_le (Nat.le_refl _), List.drop_of_length_le (by omega), List.take_nil]
theorem canOf {d : PyData} (h : SeqAt.shaped d = true) : d.canLay0 = true := SeqAt.canLay_of_shaped h
theorem sh_str {s : Str} (h : PyData.strOk s = true) : SeqAt.shaped (.str s) = true := by simp [SeqAt.shaped, PyData.canLay0, PyData.depth, h]
theorem sh_strs {ss : List Str} (h : ∀ s ∈ ss, PyData.strOk s = true) : SeqAt.shaped (.tuple (ss.map PyData.str)) = true := by
  have hb : ∀ ss : List Str, (∀ s ∈ ss, PyData.strOk s = true) → PyData.canLayAll0 (ss.map PyData.str) = true ∧ PyData.depthAll (ss.map PyData.str) = 0 := by
    intro ss
    induction ss with
    | nil => intro _; simp [PyData.canLayAll0, PyData.depthAll]
    | cons s r ih =>
      intro h
      have ih := ih fun x hx => h x (List.mem_cons_of_mem _ hx)
      simp [PyData.canLayAll0, PyData.canLay0, PyData.depthAll, PyData.depth, ih.1, ih.2, h s List.mem_cons_self]
  simp [SeqAt.shaped, PyData.canLay0, PyData.depth, (hb ss h).1, (hb ss h).2]
theorem dp_strs {K : PySem.W.Frag} {H : Hp} : ∀ ss : List Str, DpAll K H (ss.map V.str) (ss.map PyData.str)
  | [] => .nil
  | s :: r => .cons (.str s) (dp_strs r)

theorem dec_int {a b : Int} (h : ¬ decide (V.int a = V.int b) = true) : a ≠ b := fun e => h (by rw [e]; exact decide_eq_true rfl)
theorem dec_int' {a b : Int} (h : decide (V.int a = V.int b) = true) : a = b := V.int.inj (of_decide_eq_true h)
theorem eqv_strC (s : Str) (x : PyData) : PyData.eqv (.str s) x = PyData.eqv x (.str s) := by
  cases x with
  | str t =>
    rw [PyData.eqv, PyData.eqv]
    by_cases h : s = t
    · subst h
      rfl
    · have h2 : ¬ t = s := fun e => h e.symm
      exact Eq.trans (beq_eq_false_iff_ne.mpr h) (beq_eq_false_iff_ne.mpr h2).symm
  | _ => simp [PyData.eqv]

/-- an own error's class, without __init__ of its own, over ValueError -/
structure ExcT (K : PySem.W.Frag) (mg : Str → Option Value) (x : Str) (C : Addr) : Prop where
  g : mg x = some (.ref C)
  q : PySem.W.excIn K C [.type "ValueError", .type "Exception", .type "BaseException", .type "object"] "ValueError.__new__" = true
  k : PySem.W.keepIn K (.ref C) = true
  b : PySem.W.subIn K (.ref C) (.type "BaseException") = some true
  t : PySem.W.typeIn K (.ref C) = some (.type "type")
  e : PySem.W.exmOne K (.ref C) (.ref C) = some true
section
variable {X : Cx} {C : Addr} {x : Str} {p pos pos' : Pos} {W : WX}
/-- X() -/
theorem pmk_own0 (T : ExcT X.K X.mg x C) (hg : Gl X x) (hdb : (x == ("__debug__" : Str)) = false := by decide) : PMk X (.Call (.Name x p) [] [] pos) (fun _ H Q => Q (.ref C) none H) := by
  intro pins s σ H Q I h
  refine wpAny_Call_Name_kw (ld_glob I hg T.g ?_ hdb)
  refine PySem.W.callWith_K0 I.kIn T.k ?_
  show wpAny _ _ (call (.ref C) []) _ _ _
  obtain ⟨bm, N, nm, qn, bs, hdct, sn, sub, ab, col, dd, k0, k1, k2, k3, k5, mN, hC, hN, hni, TT⟩ := exc_obj I.kIn T.q
  refine wpAny_call_exc_subT F.excBase_ValueError TT hC hN hni (fun h' e hm => ?_) (Nat.zero_le _)
  exact mk_of I hm (raises_own T.b T.t) h (I.hok.gone hm.new)
/-- raise X() -/
theorem ps_own0 (hc : X.calm = true) (tk : Takes X W) (T : ExcT X.K X.mg x C) (hg : Gl X x) (hdb : (x == ("__debug__" : Str)) = false := by decide) :
    PS X (.Raise (some (.Call (.Name x p) [] [] pos)) none pos') (fun _ σ H => W (.ref C) none σ H) := ps_raise hc tk (pmk_own0 T hg hdb)
end
/-- a thing of any kind that the law draws, no list of them being the pool at p; its answer: is it an integer -/
inductive Any (H : Hp) (p : Addr) : V → Bool → Prop
  | int (z : Int) : Any H p (.int z) true
  | bl (k : Bool) : Any H p (.bl k) false
  | non : Any H p .non false
  | str (s : Str) : Any H p (.str s) false
  | tup {a : Addr} {xs : List V} (h : H a = some (.tup xs)) (n : a ≠ p) : Any H p (.ref a) false
  | lst {a : Addr} {xs : List V} (h : H a = some (.lst xs)) (n : a ≠ p) : Any H p (.ref a) false
  | dct {a : Addr} {xs : List (Key × V)} (h : H a = some (.dK xs)) (n : a ≠ p) : Any H p (.ref a) false
theorem Any.kp {H J : Hp} {p : Addr} {v : V} {k : Bool} (h : Any H p v k) (s : Kp p H J) : Any J p v k := by
  cases h with
  | int z => exact .int z
  | bl k => exact .bl k
  | non => exact .non
  | str s => exact .str s
  | tup h n => exact .tup (s _ _ n h) n
  | lst h n => exact .lst (s _ _ n h) n
  | dct h n => exact .dct (s _ _ n h) n
/-- is it a pen -/
inductive PenV (H : Hp) (p : Addr) : V → Bool → Prop
  | lst {a : Addr} {xs : List V} (h : H a = some (.lst xs)) (n : a ≠ p) : PenV H p (.ref a) false
  | len {a : Addr} {xs : List V} (h : H a = some (.tup xs)) (n : a ≠ p) (l : xs.length ≠ 6) (b : xs.length ≤ 100) : PenV H p (.ref a) false
  | tup {a : Addr} {xs : List V} {bs : List Bool} (h : H a = some (.tup xs)) (n : a ≠ p) (l : xs.length = 6) (lb : bs.length = 6) (m : ∀ (i : Nat) (x : V), xs[i]? = some x → ∃ k, bs[i]? = some k ∧ Any H p x k) : PenV H p (.ref a) (bs.all id)
theorem PenV.kp {H J : Hp} {p : Addr} {v : V} {k : Bool} (h : PenV H p v k) (s : Kp p H J) : PenV J p v k := by
  cases h with
  | lst h n => exact .lst (s _ _ n h) n
  | len h n l b => exact .len (s _ _ n h) n l b
  | tup h n l lb m =>
    refine .tup (s _ _ n h) n l lb fun i x e => ?_
    obtain ⟨k, h1, h2⟩ := m i x e
    exact ⟨k, h1, h2.kp s⟩
/-- within a range -/
def inl : V → Int × Int → Bool
  | .int z, l => decide (l.1 ≤ z) && decide (z ≤ l.2)
  | _, _ => true
def badWords : List Str := ["1", "", "keep", "end", "Mark", "marks"]
/-- is it a command -/
inductive CmdV (H : Hp) (p : Addr) : V → Bool → Prop
  | oth {v : V} {k : Bool} (h : Any H p v k) (n : ∀ (a : Addr) (xs : List V), v = .ref a → H a = some (.tup xs) → False) : CmdV H p v false
  | nil {a : Addr} (h : H a = some (.tup [])) (n : a ≠ p) : CmdV H p (.ref a) false
  | odd {a : Addr} {x : V} {xs : List V} {k : Bool} (h : H a = some (.tup (x :: xs))) (n : a ≠ p) (hx : Any H p x k) (ns : ∀ s, x ≠ .str s) : CmdV H p (.ref a) false
  | word {a : Addr} {s : Str} {xs : List V} (h : H a = some (.tup (.str s :: xs))) (n : a ≠ p) (hs : s ∈ badWords) : CmdV H p (.ref a) false
  | len {a : Addr} {c : Cm} {xs : List V} (h : H a = some (.tup (.str c.word :: xs))) (n : a ≠ p) (l : xs.length ≠ c.nums.length) : CmdV H p (.ref a) false
  | num {a : Addr} {c : Cm} {xs : List V} {bs : List Bool} (h : H a = some (.tup (.str c.word :: xs))) (n : a ≠ p) (l : xs.length = c.nums.length) (lb : bs.length = xs.length)
      (m : ∀ (i : Nat) (x : V) (b : Int × Int), xs[i]? = some x → c.lims[i]? = some b → ∃ k, Any H p x k ∧ bs[i]? = some (k && inl x b)) : CmdV H p (.ref a) (bs.all id)
theorem CmdV.kp {H J : Hp} {p : Addr} {v : V} {k : Bool} (h : CmdV H p v k) (s : Kp p H J) : CmdV J p v k := by
  cases h with
  | oth h n =>
    refine .oth (h.kp s) fun a xs e e2 => ?_
    subst e
    cases h with
    | tup h nn => exact n _ _ rfl h
    | lst h nn => exact nomatch (Option.some.inj ((s _ _ nn h).symm.trans e2))
    | dct h nn => exact nomatch (Option.some.inj ((s _ _ nn h).symm.trans e2))
  | nil h n => exact .nil (s _ _ n h) n
  | odd h n hx ns => exact .odd (s _ _ n h) n (hx.kp s) ns
  | word h n hs => exact .word (s _ _ n h) n hs
  | len h n l => exact .len (s _ _ n h) n l
  | num h n l lb m =>
    refine .num (s _ _ n h) n l lb fun i x b e1 e2 => ?_
    obtain ⟨k, h1, h2⟩ := m i x b e1 e2
    exact ⟨k, h1.kp s, h2⟩

theorem exm_of' {K : PySem.W.Frag} {R S : Addr} {b : Bool} (h0 : PySem.W.subIn K (.ref R) (.type "BaseException") = some true) (h1 : PySem.W.subIn K (.ref S) (.type "BaseException") = some true) (h2 : PySem.W.isClsIn K S = true) (h3 : PySem.W.typeIn K (.ref S) = some (.type "type")) (h4 : PySem.W.subIn K (.ref R) (.ref S) = some b) : PySem.W.exmOne K (.ref R) (.ref S) = some b := by
  have e1 : (PySem.W.subIn K (.ref S) (.type "BaseException") == some true) = true := by rw [h1] <;> rfl
  have e2 : ((PySem.W.clsIn K S).isSome && PySem.W.typeIn K (.ref S) == some (.type "type")) = true := by
    rw [show (PySem.W.clsIn K S).isSome = true from h2, h3] <;> rfl
  show (if (PySem.W.subIn K (.ref S) (.type "BaseException") == some true) = true then (if ((PySem.W.clsIn K S).isSome && PySem.W.typeIn K (.ref S) == some (.type "type")) = true then PySem.W.subIn K (.ref R) (.ref S) else none) else none) = some b
  rw [if_pos e1, if_pos e2]
  exact h4
theorem exm_of {K : PySem.W.Frag} {S : Addr} {b : Bool} (h1 : PySem.W.subIn K (.ref S) (.type "BaseException") = some true) (h2 : PySem.W.isClsIn K S = true) (h3 : PySem.W.typeIn K (.ref S) = some (.type "type")) (h4 : PySem.W.subIn K (.ref S) (.ref S) = some b) : PySem.W.exmOne K (.ref S) (.ref S) = some b := exm_of' h1 h1 h2 h3 h4

/-! ### own errors with fields of their own (NoBook: procedure, path) -/
theorem oex_cls {K : PySem.W.Frag} {C HE : Addr}
    (h : ∃ nm q N bs sn sub ab col dd k0 k1 k2 k3 k5, K.lookup C = some (excClassObj nm q C N bs [.ref HE, .type "ValueError", .type "Exception", .type "BaseException", .type "object"] true sn sub ab col dd k0 k1 k2 k3 k5 "ValueError.__new__")) :
    ∃ nm q N bs bm sn sub ab col dd k0 k1 k2 k3 k5, K.lookup C = some (excClassObj nm q C N bs bm true sn sub ab col dd k0 k1 k2 k3 k5 "ValueError.__new__") ∧ PySem.HandSPX.refsVE bm = true := by
  obtain ⟨nm, q, N, bs, sn, sub, ab, col, dd, k0, k1, k2, k3, k5, h⟩ := h
  exact ⟨nm, q, N, bs, _, sn, sub, ab, col, dd, k0, k1, k2, k3, k5, h, rfl⟩

/-- what a class with an own __init__ makes: its fields nm, the last one first in its dict -/
def Makes (C : Addr) (sp : Sp) (nm : List Str) : Prop := ∀ (vs : List V) (H1 : Hp) (W : XK), vs.length = nm.length →
  (∀ (d : Addr) (fs : List (Str × V)) (H' : Hp), Same H1 H' → H1 d = none → H' d = some (.xd fs) → fs = (nm.zip vs).reverse → W (.ref C) (some d) H') →
  ∀ a, H1 a = none → sp (.ref a :: (vs ++ [])) (upd H1 a (exo a C none)) (fun v H2 => v = .non ∧ ∃ (d : Addr) (fs : List (Str × V)), H2 a = some (exo a C (some d)) ∧ H2 d = some (exd d fs) ∧ H1 d = none ∧ W (.ref C) (some d) (upd (del H2 a) d (.xd fs))) (fun _ _ _ => False)

/-- f(e, .., k = v, ..) with all keyword-only values given -/
theorem kb_all {K : PySem.W.Frag} {x qual : Str} {st : Stmt} {f : Addr} {fd : FuncData} {ps ks : List Str} {n : Nat} (F : Fun K x qual st f fd)
    (h : ∀ (kV doc pm : Value) (an : Option Addr) (cdv ct : Value) (us ws : List Value), us.length = n → ws.length = ks.length → bindArgs (PySem.W.fnOf x qual (defArgs st) (defBody st) (defScope st) .none kV doc pm an cdv ct) ⟨us, ks.zip ws⟩ = pure (ps.zip (us ++ ws))) : KBn K fd ps n ks (fun us ws => us ++ ws) (fun us ws => us ++ ws) := by
  obtain ⟨oc, od, kV, doc, pm, an, cdv, ct, osl, rfl, lk, hcd⟩ := F.ex
  exact ⟨fun s us ws _ l1 l2 => .of_eq (h kV doc pm an cdv ct us ws l1 l2), fun r1 r2 => r1.append r2⟩
/-! ### f(e, .., k = v, ..) of a def that raises, the wish at the caller's slots -/
section
variable {X : Cx} {CX : CXT} {lv n : Nat} {f : Addr} {fd : FuncData} {ps ks : List Str} {sp : Sp} {x : Str} {p pos : Pos} {e : Expr} {es : List Expr} {kws : List Keyword} {ta tb : TA} {g : List Value → List Value → List Value} {gV : List V → List V → List V} {W : L2.St → XK}
def tCallNS (n m : Nat) (sp : Sp) (gV : List V → List V → List V) (W : L2.St → XK) (ta tb : TA) : TE := fun σ H Q => ta σ H fun vs H1 => tb σ H1 fun zs H2 => vs.length = n ∧ zs.length = m ∧ sp (gV vs zs) H2 Q (W σ)
theorem pe_callNS (F : FnOk X.prog X.w X.K X.mg X.base CX lv f fd ps sp) (hr : Room lv X.A) (hg : Gl X x) (hm : X.mg x = some (.ref f)) (hk : PySem.W.keepIn X.K (.ref f) = true) (hb : KBn X.K fd ps n ks g gV)
    (hx : ∀ σ, PassesAt CX X σ (W σ)) (ha : PA X (e :: es) ta) (hc : PK X kws tb)
    (hall : (backToKw pos (keywordEach kws X.env)).all (·.1.isSome) = true := by rfl)
    (hks : (backToKw pos (keywordEach kws X.env)).filterMap (·.1) = ks := by rfl) (hdb : (x == ("__debug__" : Str)) = false := by decide)
    (he : starEach (e :: es) X.env = (false, eval e X.env) :: starEach es X.env := by rfl)
    (hpl : ((backTo pos (starEach (e :: es) X.env)).any (·.1) || (backToKw pos (keywordEach kws X.env)).any (·.1.isNone)) = false := by rfl) :
    PE X (.Call (.Name x p) (e :: es) kws pos) (tCallNS n ks.length sp gV W ta tb) :=
  ⟨fun pins s σ H Q I h => wpAny_Call_Name_kw (ld_glob I hg hm (PySem.W.callWith_KW (h₀ := X.base) I.ok.mod.kin hk hall (thn (ha.run pos pins s σ H _ I h) fun us s1 ⟨vs, H1, I1, r1, q⟩ => thn (hc.run pos pins s1 σ H1 _ I1 q) fun ws s2 ⟨zs, H2, J, r2, l1, l2, q2⟩ => ⟨J.kIn, by
    rw [hks]
    refine wpAny_call (codeAny_mono (F.run X.A X.stack s2 H2 ⟨us, ks.zip ws⟩ (g us ws) (gV vs zs) Q (W σ) hr J.env0 (hb.to s2 us ws J.kIn (by rw [← r1.length, l1]) (by rw [← r2.length, l2])) (hb.rel r1 r2) q2) fun res t hq => ?_)
    match res, hq with
    | .error e, hq => exact hx σ pins H2 s2 e t J hq
    | .ok (.ret u), hq => exact J.after hq
    | .ok .next, hq => exact False.elim hq
    | .ok .brk, hq => exact False.elim hq
    | .ok .cont, hq => exact False.elim hq⟩) hpl he) hdb)⟩
end

/-! ### own errors with one field -/
def sp1 (C : Addr) (f : Str) : Sp := fun vs H Q _ => ∃ (a : Addr) (x : V), vs = [.ref a, x] ∧ H a = some (exo a C none) ∧
  ∀ dx, H dx = none → dx ≠ a → Q .non (upd (upd H dx (exd dx [(f, x)])) a (exo a C (some dx)))
theorem mk1 {C : Addr} {f : Str} : Makes C (sp1 C f) [f] := fun vs H1 W l q a na => by
  match vs, l with
  | [x], _ =>
    refine ⟨a, x, rfl, upd_same, fun dx nd ne => ⟨rfl, dx, [(f, x)], upd_same, ?_, ?_, q dx _ _ (fun b o e => ?_) ?_ upd_same rfl⟩⟩
    · rw [upd_ne ne, upd_same]
    · rw [upd_ne ne] at nd
      exact nd
    · have hb : b ≠ a := ne_of_none e na
      have hd : b ≠ dx := fun z => by
        rw [upd_ne ne] at nd
        rw [z, nd] at e
        cases e
      rw [upd_ne hd, del_ne hb, upd_ne hb, upd_ne hd, upd_ne hb]
      exact e
    · rw [upd_ne ne] at nd
      exact nd

/-! ### a method that may raise -/
def tMethR (C : Addr) (m : Str) (sp : Sp) (E : L2.St → XK) (ta : TE) (t : TA) : TE := fun σ H Q => ta σ H fun x H1 => ∃ a dx fs, x = V.ref a ∧ H1 a = some (HO.ins C dx fs) ∧ List.lookup m fs = none ∧ t σ H1 fun vs H2 => sp (x :: vs) H2 Q (E σ)
section
variable {X : Cx} {CX : CXT} {k : Nat} {f C : Addr} {fd : FuncData} {ps : List Str} {sp : Sp} {E : L2.St → XK} {m : Str} {pos apos : Pos} {e o : Expr} {es : List Expr} {ta : TE} {t : TA}
theorem pe_methR {pl : Sem Bool} (he : PE X o ta) (c : Cls X.K C) (hm : Meth X.K C m f) (F : FnOk X.prog X.w X.K X.mg X.base CX k f fd ps sp) (hr : Room k X.A) (hb : Binds X.K fd ps []) (hx : ∀ σ, PassesAt CX X σ (E σ)) (ha : PA X (e :: es) t)
    (hst : starEach (e :: es) X.env = (false, eval e X.env) :: starEach es X.env := by rfl) (hpl : (backTo pos (starEach es X.env)).any (·.1) = false := by rfl)
    (ht : eval (.Call (.Attribute o m apos) (e :: es) [] pos) X.env = (do
      let ov ← eval o X.env
      standAt apos.atName
      let (f, first) ← holding [ov] (getMethod ov m pl)
      callWith pos f first (backTo pos (starEach (e :: es) X.env)) (backToKw pos (keywordEach [] X.env))) := by rfl) :
    PE X (.Call (.Attribute o m apos) (e :: es) [] pos) (tMethR C m sp E ta t) := by
  refine ⟨fun pins s σ H Q I h => ?_⟩
  refine PySem.W.methodCall_KW (pl := pl) (thn (he.run pins s σ H _ I h) fun u s1 ⟨x, H1, I1, rx, a, dx, fs, ex, ea, l, q⟩ => ?_) ht
  subst ex
  obtain rfl : u = Value.ref a := rx
  refine getmeth_ok I1 ea c hm l ?_
  refine PySem.W.callWith_K (first := [.ref a]) (h₀ := X.base) I.ok.mod.kin hm.kp (thn (ha.run pos pins s1 σ H1 _ I1 q) fun us s2 ⟨vs, H2, I2, r, q2⟩ => ⟨I2.kIn, ?_⟩) hst hpl
  exact run_fnS (us := .ref a :: us) (vs := .ref a :: vs) F hr hb (hx σ) I2 (.cons rfl r) q2
theorem pe_methR0 {pl : Sem Bool} (he : PE X o ta) (c : Cls X.K C) (hm : Meth X.K C m f) (F : FnOk X.prog X.w X.K X.mg X.base CX k f fd ps sp) (hr : Room k X.A) (hb : Binds X.K fd ps []) (hx : ∀ σ, PassesAt CX X σ (E σ))
    (ht : eval (.Call (.Attribute o m apos) [] [] pos) X.env = (do
      let ov ← eval o X.env
      standAt apos.atName
      let (f, first) ← holding [ov] (getMethod ov m pl)
      callWith pos f first (backTo pos (starEach [] X.env)) (backToKw pos (keywordEach [] X.env))) := by rfl) :
    PE X (.Call (.Attribute o m apos) [] [] pos) (tMethR C m sp E ta tNil) := by
  refine ⟨fun pins s σ H Q I h => ?_⟩
  refine PySem.W.methodCall_KW (pl := pl) (thn (he.run pins s σ H _ I h) fun u s1 ⟨x, H1, I1, rx, a, dx, fs, ex, ea, l, q⟩ => ?_) ht
  subst ex
  obtain rfl : u = Value.ref a := rx
  refine getmeth_ok I1 ea c hm l ?_
  exact PySem.W.callWith_K0 (first := [.ref a]) I1.kIn hm.kp (run_fnS (us := [.ref a]) (vs := [.ref a]) F hr hb (hx σ) I1 (.cons rfl .nil) q)
end

/-! ### an execution as data -/
inductive Th where
  | st (z : Stm)
  | beh (p : Nat) (s : Bool) (a b : List Stm)
  | back
inductive Dd where
  | cmd (c : Cm)
  | hold
  | back
/-- left, begun: the next, the newest first -/
structure ESt where
  taken : Nat
  left : List Th
  begun : List (List Nat)
  deeds : List Dd
  way : Int
inductive Out where
  | go (s : ESt)
  | no (i : Int)
  | bad
def wayN (w : Bool) : Int := if w then 1 else 0
def enterE (b : List Stm) (s : ESt) : ESt := { s with left := b.map Th.st ++ s.left }
def takeE (bits : List Bool) (s : ESt) (f : Bool → ESt → Out) : Out := match bits[s.taken]? with
  | none => .no s.taken
  | some b => f b { s with taken := s.taken + 1 }
def leaveE (p : Nat) (sv : Bool) (a b : List Stm) (w : Bool) (s : ESt) : Out := match s.begun[p]? with
  | some (_ :: r) => .go { s with begun := s.begun.set p r, deeds := s.deeds ++ (if sv then [.back] else []), left := (if w then b else a).map Th.st ++ s.left, way := wayN w }
  | _ => .bad
def beginE (bs : List (List Stm)) (p : Nat) (sv : Bool) (a b : List Stm) (s : ESt) : Out := match s.begun[p]?, bs[p]? with
  | some ns, some body => if ns.head? = some s.taken then .no (-2) else .go { s with begun := s.begun.set p (s.taken :: ns), deeds := s.deeds ++ (if sv then [.hold] else []), left := body.map Th.st ++ .beh p sv a b :: s.left }
  | _, _ => .bad
def unwL : List Th → List Dd → Option ((Nat × Bool × List Stm × List Stm) × List Th × List Dd)
  | [], _ => none
  | .beh p sv a b :: r, ds => some ((p, sv, a, b), r, ds)
  | .back :: r, ds => unwL r (ds ++ [.back])
  | .st _ :: r, ds => unwL r ds
def unwindE (w : Bool) (s : ESt) : Out := match unwL s.left s.deeds with
  | some ((p, sv, a, b), l, ds) => leaveE p sv a b w { s with left := l, deeds := ds }
  | none => .bad
def stepE (bs : List (List Stm)) (bits : List Bool) : Th → ESt → Out
  | .st (.cmd c), s => .go { s with deeds := s.deeds ++ [.cmd c] }
  | .st (.fin w), s => unwindE w s
  | .st (.keep b), s => .go (enterE b { s with deeds := s.deeds ++ [.hold], left := .back :: s.left })
  | .st (.again b), s => takeE bits s fun w s => .go (if w then enterE b { s with left := .st (.again b) :: s.left } else s)
  | .st (.either a b), s => takeE bits s fun w s => .go (enterE (if w then b else a) s)
  | .st (.call p sv a b), s => beginE bs p sv a b s
  | .beh p sv a b, s => leaveE p sv a b false s
  | .back, s => .go { s with deeds := s.deeds ++ [.back] }
def runE (bs : List (List Stm)) (bits : List Bool) : Nat → ESt → Out
  | 0, s => if s.left.isEmpty then .go s else .bad
  | n + 1, s => match s.left with
    | [] => .go s
    | x :: r => match stepE bs bits x { s with left := r } with
      | .go s' => runE bs bits n s'
      | o => o
def Th.ok : Th → Prop
  | .st z => ∃ many l, z.ok many l ∧ l ≤ 3
  | .beh _ _ a b => (a.length ≤ 8 ∧ ∃ many l, okB many a l ∧ l ≤ 3) ∧ b.length ≤ 8 ∧ ∃ many l, okB many b l ∧ l ≤ 3
  | .back => True
/-- the sizes -/
def Szd (B : Nat) (s : ESt) : Prop := s.left.length + s.deeds.length ≤ B ∧ ∀ ns ∈ s.begun, ns.length ≤ B
def BodiesOk (bs : List (List Stm)) : Prop := ∀ b ∈ bs, b.length ≤ 8 ∧ ∃ many, okB many b 0
theorem th_oks {b : List Stm} {many l : Nat} (h : okB many b l) (hl : l ≤ 3) : ∀ x ∈ b.map Th.st, x.ok := fun x hx => by
  obtain ⟨z, hz, rfl⟩ := List.mem_map.mp hx
  obtain ⟨i, hi⟩ := List.getElem?_of_mem hz
  exact ⟨many, l, okB_get h hi, hl⟩
theorem all_app {P : Th → Prop} {xs ys : List Th} (h : ∀ x ∈ xs, P x) (h2 : ∀ x ∈ ys, P x) : ∀ x ∈ xs ++ ys, P x := fun x hx => (List.mem_append.mp hx).elim (h x) (h2 x)
theorem leave_ok {p : Nat} {sv w : Bool} {a b : List Stm} {s s' : ESt} (h : leaveE p sv a b w s = .go s') {B : Nat} (o : (Th.beh p sv a b).ok) (hl : ∀ x ∈ s.left, x.ok) (z : Szd B s) : (∀ x ∈ s'.left, x.ok) ∧ Szd (B + 10) s' := by
  unfold leaveE at h
  split at h
  · rename_i n r e
    cases h
    obtain ⟨⟨a8, m1, l1, oa, la⟩, b8, m2, l2, ob, lb⟩ := o
    obtain ⟨z1, z2⟩ := z
    refine ⟨all_app ?_ hl, ?_, fun ns hns => ?_⟩
    · cases w
      · exact th_oks oa la
      · exact th_oks ob lb
    · have : (if sv = true then [Dd.back] else []).length ≤ 1 := by split <;> simp
      have : (if w = true then b else a).length ≤ 8 := by split <;> assumption
      show List.length (_ ++ _) + List.length (_ ++ _) ≤ _
      rw [List.length_append, List.length_append, List.length_map]
      omega
    · rcases List.mem_or_eq_of_mem_set hns with h | h
      · have := z2 ns h
        omega
      · have := z2 _ (List.mem_of_getElem? e)
        rw [List.length_cons] at this
        rw [h]
        omega
  · cases h
theorem unw_ok : ∀ {l : List Th} {ds : List Dd} {p : Nat} {sv : Bool} {a b : List Stm} {l' : List Th} {ds' : List Dd}, unwL l ds = some ((p, sv, a, b), l', ds') → (∀ x ∈ l, x.ok) → (Th.beh p sv a b).ok ∧ (∀ x ∈ l', x.ok) ∧ l'.length + ds'.length + 1 ≤ l.length + ds.length
  | [], _, _, _, _, _, _, _, e, _ => by cases e
  | .beh _ _ _ _ :: r, ds, _, _, _, _, _, _, e, h => by
    cases e
    exact ⟨h _ List.mem_cons_self, fun x hx => h x (List.mem_cons_of_mem _ hx), by simp; omega⟩
  | .back :: r, ds, _, _, _, _, _, _, e, h => by
    obtain ⟨h1, h2, h3⟩ := unw_ok (l := r) e fun x hx => h x (List.mem_cons_of_mem _ hx)
    refine ⟨h1, h2, ?_⟩
    simp at h3 ⊢
    omega
  | .st _ :: r, ds, _, _, _, _, _, _, e, h => by
    obtain ⟨h1, h2, h3⟩ := unw_ok (l := r) e fun x hx => h x (List.mem_cons_of_mem _ hx)
    refine ⟨h1, h2, ?_⟩
    simp at h3 ⊢
    omega
theorem step_ok {bs : List (List Stm)} {bits : List Bool} (hb : BodiesOk bs) {B : Nat} : ∀ {x : Th} {s s' : ESt}, stepE bs bits x s = .go s' → x.ok → (∀ x ∈ s.left, x.ok) → Szd B s → (∀ x ∈ s'.left, x.ok) ∧ Szd (B + 12) s'
  | .st (.cmd c), s, s', e, o, hl, z => by
    cases e
    refine ⟨hl, ?_, fun ns hns => Nat.le_trans (z.2 ns hns) (by omega)⟩
    have := z.1
    simp
    omega
  | .st (.fin w), s, s', e, o, hl, z => by
    simp only [stepE, unwindE] at e
    split at e
    · rename_i p sv a b l ds e2
      obtain ⟨h1, h2, h3⟩ := unw_ok e2 hl
      obtain ⟨h4, h5, h6⟩ := leave_ok e (B := B) h1 h2 ⟨Nat.le_trans (by show l.length + ds.length ≤ s.left.length + s.deeds.length; omega) z.1, z.2⟩
      exact ⟨h4, by omega, fun ns hns => by have := h6 ns hns; omega⟩
    · cases e
  | .st (.keep b), s, s', e, ⟨many, l, o, hl3⟩, hl, z => by
    cases e
    refine ⟨all_app (th_oks o.2.2 (by have := o.1; omega)) (fun x hx => ?_), ?_, fun ns hns => Nat.le_trans (z.2 ns hns) (by omega)⟩
    · rcases List.mem_cons.mp hx with rfl | hx
      · trivial
      · exact hl x hx
    · have := z.1
      have := o.2.1
      simp [enterE]
      omega
  | .st (.again b), s, s', e, ⟨many, l, o, hl3⟩, hl, z => by
    simp only [stepE, takeE] at e
    split at e
    · cases e
    · rename_i w e2
      cases e
      have := z.1
      have := o.2.1
      cases w
      · exact ⟨hl, by show s.left.length + s.deeds.length ≤ _; omega, fun ns hns => Nat.le_trans (z.2 ns hns) (by omega)⟩
      · refine ⟨all_app (th_oks o.2.2 (by have := o.1; omega)) (fun x hx => ?_), ?_, fun ns hns => Nat.le_trans (z.2 ns hns) (by omega)⟩
        · rcases List.mem_cons.mp hx with rfl | hx
          · exact ⟨many, l, o, hl3⟩
          · exact hl x hx
        · simp [enterE]
          omega
  | .st (.either a b), s, s', e, ⟨many, l, o, hl3⟩, hl, z => by
    simp only [stepE, takeE] at e
    split at e
    · cases e
    · rename_i w e2
      cases e
      have := z.1
      obtain ⟨o1, ⟨o2, o3⟩, o4, o5⟩ := o
      refine ⟨all_app ?_ hl, ?_, fun ns hns => Nat.le_trans (z.2 ns hns) (by omega)⟩
      · cases w
        · exact th_oks o3 (by omega)
        · exact th_oks o5 (by omega)
      · have : (if w = true then b else a).length ≤ 8 := by split <;> assumption
        simp only [enterE, List.length_append, List.length_map]
        omega
  | .st (.call p sv a b), s, s', e, ⟨many, l, o, hl3⟩, hl, z => by
    simp only [stepE, beginE] at e
    split at e
    · rename_i ns body e1 e2
      split at e
      · cases e
      · cases e
        obtain ⟨o1, o2, ⟨o3, o4⟩, o5, o6⟩ := o
        obtain ⟨h8, m, hm⟩ := hb body (List.mem_of_getElem? e2)
        have := z.1
        refine ⟨all_app (th_oks hm (by decide)) (fun x hx => ?_), ?_, fun ns' hns => ?_⟩
        · rcases List.mem_cons.mp hx with rfl | hx
          · exact ⟨⟨o3, many, _, o4, by omega⟩, o5, many, _, o6, by omega⟩
          · exact hl x hx
        · have : (if sv = true then [Dd.hold] else []).length ≤ 1 := by split <;> simp
          show List.length (_ ++ _ :: _) + List.length (_ ++ _) ≤ _
          rw [List.length_append, List.length_append, List.length_map, List.length_cons]
          omega
        · rcases List.mem_or_eq_of_mem_set hns with h | h
          · have := z.2 ns' h
            omega
          · have := z.2 _ (List.mem_of_getElem? e1)
            rw [h, List.length_cons]
            omega
    · cases e
  | .beh p sv a b, s, s', e, o, hl, z => by
    obtain ⟨h4, h5, h6⟩ := leave_ok (s := s) e o hl z
    exact ⟨h4, by omega, fun ns hns => by have := h6 ns hns; omega⟩
  | .back, s, s', e, o, hl, z => by
    cases e
    refine ⟨hl, ?_, fun ns hns => Nat.le_trans (z.2 ns hns) (by omega)⟩
    have := z.1
    simp
    omega

/-! ### an execution in the heap -/
/-- what a thing that is left is -/
def ThV (S : Addr → Prop) (aB : Addr) (H : Hp) : Th → V → Prop
  | .st z, v => Tr S H z.d v
  | .beh p s a b, v => Tr S H (.tuple [.str "behind", .int p, .bool s, .list [bD a, bD b]]) v
  | .back, v => v = .ref aB
def DdV (aH aB : Addr) (H : Hp) : Dd → V → Prop
  | .cmd c, v => Tr (fun _ => False) H c.d v
  | .hold, v => v = .ref aH
  | .back, v => v = .ref aB
def AllR {α : Type} (R : α → V → Prop) : List α → List V → Prop
  | [], vs => vs = []
  | a :: r, vs => ∃ v us, vs = v :: us ∧ R a v ∧ AllR R r us
def bitV (b : Bool) : V := .int (if b then 1 else 0)
def exFs (aP aT aL aG aD : Addr) (t : Nat) (w : Int) : List (Str × V) := [("procedures", .ref aP), ("bits", .ref aT), ("taken", natV t), ("left", .ref aL), ("begun", .ref aG), ("deeds", .ref aD), ("way", .int w)]
/-- where an execution stands, and of what -/
structure ExA where
  e : Addr
  aP : Addr
  aT : Addr
  aL : Addr
  aG : Addr
  aD : Addr
  gs : List Addr
  S : Addr → Prop
  bs : List (List Stm)
  bits : List Bool
abbrev ExA.fs (A : ExA) (t : Nat) (w : Int) : List (Str × V) := exFs A.aP A.aT A.aL A.aG A.aD t w
/-- what an execution changes -/
def ExA.M (A : ExA) : Addr → Prop := fun a => a = A.e ∨ a = A.aL ∨ a = A.aD ∨ a ∈ A.gs
structure ExV (C aH aB : Addr) (A : ExA) (s : ESt) (H : Hp) : Prop where
  ins : ∃ dx, H A.e = some (.ins C dx (A.fs s.taken s.way))
  procs : ∃ ps, H A.aP = some (.lst ps) ∧ TrAll A.S H (A.bs.map bD) ps
  bts : H A.aT = some (.lst (A.bits.map bitV))
  lft : ∃ ls, H A.aL = some (.lst ls) ∧ AllR (ThV A.S aB H) s.left.reverse ls
  beg : H A.aG = some (.lst (A.gs.map V.ref)) ∧ A.gs.length = s.begun.length ∧ ∀ (i : Nat) (g : Addr) (ns : List Nat), A.gs[i]? = some g → s.begun[i]? = some ns → H g = some (.lst (ns.reverse.map natV))
  dds : ∃ ds, H A.aD = some (.lst ds) ∧ AllR (DdV aH aB H) s.deeds ds
  sep : (A.e :: A.aP :: A.aT :: A.aL :: A.aG :: A.aD :: A.gs).Nodup ∧ ∀ a ∈ (A.e :: A.aL :: A.aD :: A.gs), ¬ A.S a
  tk : s.taken ≤ A.bits.length
section
variable {S : Addr → Prop} {H H' : Hp}
mutual
theorem Tr.hold (k : ∀ b o, ((∃ xs, o = HO.lst xs) ∧ S b) ∨ (∃ xs, o = HO.tup xs) ∨ (∃ kvs, o = HO.dK kvs) → H b = some o → H' b = some o) : ∀ (d : PyData) (v : V), Tr S H d v → Tr S H' d v
  | .none, _, h => h
  | .bool _, _, h => h
  | .int _, _, h => h
  | .str _, _, h => h
  | .list ds, v, ⟨a, xs, e, s, l, t⟩ => ⟨a, xs, e, s, k _ _ (.inl ⟨⟨_, rfl⟩, s⟩) l, TrAll.hold k ds xs t⟩
  | .tuple ds, v, ⟨a, xs, e, l, t⟩ => ⟨a, xs, e, k _ _ (.inr (.inl ⟨_, rfl⟩)) l, TrAll.hold k ds xs t⟩
  | .dict ds, v, ⟨a, kvs, e, l, t⟩ => ⟨a, kvs, e, k _ _ (.inr (.inr ⟨_, rfl⟩)) l, t⟩
theorem TrAll.hold (k : ∀ b o, ((∃ xs, o = HO.lst xs) ∧ S b) ∨ (∃ xs, o = HO.tup xs) ∨ (∃ kvs, o = HO.dK kvs) → H b = some o → H' b = some o) : ∀ (ds : List PyData) (vs : List V), TrAll S H ds vs → TrAll S H' ds vs
  | [], _, h => h
  | d :: r, _, ⟨x, us, e, t, u⟩ => ⟨x, us, e, Tr.hold k d x t, TrAll.hold k r us u⟩
end
end
section
variable {α : Type} {R R' : α → V → Prop}
theorem AllR.imp (h : ∀ a v, R a v → R' a v) : ∀ {as : List α} {vs : List V}, AllR R as vs → AllR R' as vs
  | [], _, e => e
  | a :: r, _, ⟨v, us, e, x, q⟩ => ⟨v, us, e, h a v x, AllR.imp h q⟩
theorem AllR.append : ∀ {as bs : List α} {vs us : List V}, AllR R as vs → AllR R bs us → AllR R (as ++ bs) (vs ++ us)
  | [], _, _, _, e, q => by
    have e : _ = [] := e
    subst e
    exact q
  | a :: r, _, _, _, ⟨v, ws, e, x, q⟩, q2 => by
    subst e
    exact ⟨v, _, rfl, x, AllR.append q q2⟩
theorem AllR.len : ∀ {as : List α} {vs : List V}, AllR R as vs → vs.length = as.length
  | [], _, e => by have e : _ = [] := e; subst e; rfl
  | a :: r, _, ⟨v, ws, e, x, q⟩ => by subst e; rw [List.length_cons, List.length_cons, AllR.len q]
theorem AllR.one {a : α} {v : V} (h : R a v) : AllR R [a] [v] := ⟨v, [], rfl, h, rfl⟩
theorem AllR.split : ∀ {as : List α} {a : α} {vs : List V}, AllR R (as ++ [a]) vs → ∃ us u, vs = us ++ [u] ∧ AllR R as us ∧ R a u
  | [], a, _, ⟨v, us, e, x, q⟩ => by
    have q : us = [] := q
    subst q e
    exact ⟨[], v, rfl, rfl, x⟩
  | b :: r, a, _, ⟨v, us, e, x, q⟩ => by
    obtain ⟨us', u, e2, q1, q2⟩ := AllR.split q
    subst e e2
    exact ⟨v :: us', u, rfl, ⟨v, us', rfl, x, q1⟩, q2⟩
theorem AllR.reverse : ∀ {as : List α} {vs : List V}, AllR R as vs → AllR R as.reverse vs.reverse
  | [], _, e => by have e : _ = [] := e; subst e; rfl
  | a :: r, _, ⟨v, us, e, x, q⟩ => by
    subst e
    rw [List.reverse_cons, List.reverse_cons]
    exact AllR.append (AllR.reverse q) (AllR.one x)
end
theorem th_blk {S : Addr → Prop} {aB : Addr} {H : Hp} : ∀ {b : List Stm} {vs : List V}, TrAll S H (blkD b) vs → AllR (ThV S aB H) (b.map Th.st) vs
  | [], _, e => e
  | z :: r, _, ⟨x, us, e, t, q⟩ => ⟨x, us, e, t, th_blk q⟩
/-- nothing changes but the objects at M, which are lists and an object -/
def KpM (M : Addr → Prop) (H H' : Hp) : Prop := ∀ b o, ¬ M b → H b = some o → H' b = some o
theorem KpM.of {M : Addr → Prop} {H H' : Hp} (s : Same H H') : KpM M H H' := fun b o _ h => s b o h
theorem KpM.trans {M : Addr → Prop} {H H' H'' : Hp} (a : KpM M H H') (b : KpM M H' H'') : KpM M H H'' := fun c o n h => b c o n (a c o n h)
theorem KpM.upd {M : Addr → Prop} {H : Hp} {a : Addr} {o : HO} (m : M a) : KpM M H (upd H a o) := fun b x n h => by
  rw [upd_ne (fun e => n (by rw [e]; exact m))]
  exact h
theorem KpM.mono {M M' : Addr → Prop} {H H' : Hp} (k : KpM M H H') (h : ∀ a, M a → M' a) : KpM M' H H' := fun b o n e => k b o (fun m => n (h b m)) e
/-- at M stand lists and objects only, none of them in S -/
def Mut (S : Addr → Prop) (M : Addr → Prop) (H : Hp) : Prop := ∀ a, M a → ¬ S a ∧ ((∃ xs, H a = some (.lst xs)) ∨ ∃ C dx fs, H a = some (.ins C dx fs))
theorem KpM.tr {S M : Addr → Prop} {H H' : Hp} (k : KpM M H H') (m : Mut S M H) : ∀ b o, ((∃ xs, o = HO.lst xs) ∧ S b) ∨ (∃ xs, o = HO.tup xs) ∨ (∃ kvs, o = HO.dK kvs) → H b = some o → H' b = some o := fun b o h e => k b o (fun mb => by
  obtain ⟨n, h2⟩ := m b mb
  rcases h with ⟨_, s⟩ | ⟨xs, h⟩ | ⟨xs, h⟩
  · exact n s
  · rw [h] at e
    rcases h2 with ⟨ys, h2⟩ | ⟨C, dx, fs, h2⟩ <;> rw [h2] at e <;> cases e
  · rw [h] at e
    rcases h2 with ⟨ys, h2⟩ | ⟨C, dx, fs, h2⟩ <;> rw [h2] at e <;> cases e) e
theorem ThV.keep {S M : Addr → Prop} {aB : Addr} {H H' : Hp} (k : KpM M H H') (m : Mut S M H) : ∀ (x : Th) (v : V), ThV S aB H x v → ThV S aB H' x v
  | .st z, v, h => Tr.hold (k.tr m) _ _ h
  | .beh _ _ _ _, v, h => Tr.hold (k.tr m) _ _ h
  | .back, v, h => h
theorem DdV.keep {S M : Addr → Prop} {aH aB : Addr} {H H' : Hp} (k : KpM M H H') (m : Mut S M H) : ∀ (x : Dd) (v : V), DdV aH aB H x v → DdV aH aB H' x v
  | .cmd c, v, h => Tr.hold (fun b o h e => k.tr m b o (h.elim (fun h => h.2.elim) .inr) e) _ _ h
  | .hold, v, h => h
  | .back, v, h => h
section
variable {C aH aB : Addr} {A : ExA} {s s' : ESt} {H H' : Hp}
theorem ExV.mut (X : ExV C aH aB A s H) : Mut A.S A.M H := fun a m => by
  obtain ⟨dx, he⟩ := X.ins
  obtain ⟨ls, hl, _⟩ := X.lft
  obtain ⟨ds, hd, _⟩ := X.dds
  obtain ⟨_, n⟩ := X.sep
  rcases m with rfl | rfl | rfl | m
  · exact ⟨n _ (by simp), .inr ⟨C, dx, _, he⟩⟩
  · exact ⟨n _ (by simp), .inl ⟨ls, hl⟩⟩
  · exact ⟨n _ (by simp), .inl ⟨ds, hd⟩⟩
  · obtain ⟨i, hi⟩ := List.getElem?_of_mem m
    obtain ⟨hg, lg, hb⟩ := X.beg
    have hlt := (List.getElem?_eq_some_iff.mp hi).1
    exact ⟨n _ (by simp [m]), .inl ⟨_, hb i a _ hi (List.getElem?_eq_getElem (show i < s.begun.length by omega))⟩⟩
theorem ne_mem {a b : Addr} {l : List Addr} (h : a ∈ l) (n : b ∉ l) : a ≠ b := fun e => n (e ▸ h)
/-- how the addresses differ -/
structure ExD (A : ExA) : Prop where
  eP : A.e ≠ A.aP
  eT : A.e ≠ A.aT
  eL : A.e ≠ A.aL
  eG : A.e ≠ A.aG
  eD : A.e ≠ A.aD
  eg : A.e ∉ A.gs
  PL : A.aP ≠ A.aL
  PD : A.aP ≠ A.aD
  Pg : A.aP ∉ A.gs
  TL : A.aT ≠ A.aL
  TD : A.aT ≠ A.aD
  Tg : A.aT ∉ A.gs
  LG : A.aL ≠ A.aG
  LD : A.aL ≠ A.aD
  Lg : A.aL ∉ A.gs
  GD : A.aG ≠ A.aD
  Gg : A.aG ∉ A.gs
  Dg : A.aD ∉ A.gs
  nd : A.gs.Nodup
theorem ExV.dis (X : ExV C aH aB A s H) : ExD A := by
  have n := X.sep.1
  simp only [List.nodup_cons, List.mem_cons, not_or] at n
  obtain ⟨⟨e1, e2, e3, e4, e5, e6⟩, ⟨p1, p2, p3, p4, p5⟩, ⟨t1, t2, t3, t4⟩, ⟨l1, l2, l3⟩, ⟨g1, g2⟩, d1, d2⟩ := n
  exact ⟨e1, e2, e3, e4, e5, e6, p2, p4, p5, t1, t3, t4, l1, l2, l3, g1, g2, d1, d2⟩
theorem ExV.out (X : ExV C aH aB A s H) : ¬ A.M A.aP ∧ ¬ A.M A.aT ∧ ¬ A.M A.aG := by
  have d := X.dis
  refine ⟨fun m => ?_, fun m => ?_, fun m => ?_⟩
  · rcases m with m | m | m | m
    · exact d.eP m.symm
    · exact d.PL m
    · exact d.PD m
    · exact d.Pg m
  · rcases m with m | m | m | m
    · exact d.eT m.symm
    · exact d.TL m
    · exact d.TD m
    · exact d.Tg m
  · rcases m with m | m | m | m
    · exact d.eG m.symm
    · exact d.LG m.symm
    · exact d.GD m
    · exact d.Gg m
theorem ExV.next (X : ExV C aH aB A s H) (k : KpM A.M H H') (i' : ∃ dx, H' A.e = some (.ins C dx (A.fs s'.taken s'.way))) (l' : ∃ ls, H' A.aL = some (.lst ls) ∧ AllR (ThV A.S aB H') s'.left.reverse ls)
    (b' : A.gs.length = s'.begun.length ∧ ∀ (i : Nat) (g : Addr) (ns : List Nat), A.gs[i]? = some g → s'.begun[i]? = some ns → H' g = some (.lst (ns.reverse.map natV))) (d' : ∃ ds, H' A.aD = some (.lst ds) ∧ AllR (DdV aH aB H') s'.deeds ds) (t' : s'.taken ≤ A.bits.length) : ExV C aH aB A s' H' := by
  obtain ⟨n1, n2, n3⟩ := X.out
  obtain ⟨ps, hp, tp⟩ := X.procs
  exact ⟨i', ⟨ps, k _ _ n1 hp, TrAll.hold (k.tr X.mut) _ _ tp⟩, k _ _ n2 X.bts, l', ⟨k _ _ n3 X.beg.1, b'⟩, d', X.sep, t'⟩
/-- new objects only -/
theorem ExV.same (X : ExV C aH aB A s H) (sm : Same H H') : ExV C aH aB A s H' := by
  obtain ⟨dx, he⟩ := X.ins
  obtain ⟨ls, hl, rl⟩ := X.lft
  obtain ⟨ds, hd, rd⟩ := X.dds
  have k : KpM A.M H H' := KpM.of sm
  exact X.next k ⟨dx, sm _ _ he⟩ ⟨ls, sm _ _ hl, AllR.imp (ThV.keep k X.mut) rl⟩ ⟨X.beg.2.1, fun i g ns hi hn => sm _ _ (X.beg.2.2 i g ns hi hn)⟩ ⟨ds, sm _ _ hd, AllR.imp (DdV.keep k X.mut) rd⟩ X.tk
/-- only what is left changes -/
theorem ExV.setLeft (X : ExV C aH aB A s H) {ls : List V} {xs : List Th} (r : AllR (ThV A.S aB H) xs.reverse ls) : KpM A.M H (upd H A.aL (.lst ls)) ∧ ExV C aH aB A { s with left := xs } (upd H A.aL (.lst ls)) := by
  have d := X.dis
  have k : KpM A.M H (upd H A.aL (.lst ls)) := KpM.upd (.inr (.inl rfl))
  obtain ⟨dx, he⟩ := X.ins
  obtain ⟨ds, hd, rd⟩ := X.dds
  refine ⟨k, X.next k ⟨dx, by rw [upd_ne d.eL]; exact he⟩ ⟨ls, upd_same, AllR.imp (ThV.keep k X.mut) r⟩ ⟨X.beg.2.1, fun i g ns hi hn => ?_⟩ ⟨ds, by rw [upd_ne (Ne.symm d.LD)]; exact hd, AllR.imp (DdV.keep k X.mut) rd⟩ X.tk⟩
  rw [upd_ne (ne_mem (List.mem_of_getElem? hi) d.Lg)]
  exact X.beg.2.2 i g ns hi hn
/-- only the deeds change -/
theorem ExV.setDeeds (X : ExV C aH aB A s H) {ds : List V} {xs : List Dd} (r : AllR (DdV aH aB H) xs ds) : KpM A.M H (upd H A.aD (.lst ds)) ∧ ExV C aH aB A { s with deeds := xs } (upd H A.aD (.lst ds)) := by
  have d := X.dis
  have k : KpM A.M H (upd H A.aD (.lst ds)) := KpM.upd (.inr (.inr (.inl rfl)))
  obtain ⟨dx, he⟩ := X.ins
  obtain ⟨ls, hl, rl⟩ := X.lft
  refine ⟨k, X.next k ⟨dx, by rw [upd_ne d.eD]; exact he⟩ ⟨ls, by rw [upd_ne d.LD]; exact hl, AllR.imp (ThV.keep k X.mut) rl⟩ ⟨X.beg.2.1, fun i g ns hi hn => ?_⟩ ⟨ds, upd_same, AllR.imp (DdV.keep k X.mut) r⟩ X.tk⟩
  rw [upd_ne (ne_mem (List.mem_of_getElem? hi) d.Dg)]
  exact X.beg.2.2 i g ns hi hn
/-- only the fields change -/
theorem ExV.setIns (X : ExV C aH aB A s H) {t : Nat} {w : Int} {dx : Addr} (ht : t ≤ A.bits.length) : KpM A.M H (upd H A.e (.ins C dx (A.fs t w))) ∧ ExV C aH aB A { s with taken := t, way := w } (upd H A.e (.ins C dx (A.fs t w))) := by
  have d := X.dis
  have k : KpM A.M H (upd H A.e (.ins C dx (A.fs t w))) := KpM.upd (.inl rfl)
  obtain ⟨ls, hl, rl⟩ := X.lft
  obtain ⟨ds, hd, rd⟩ := X.dds
  refine ⟨k, X.next k ⟨dx, upd_same⟩ ⟨ls, by rw [upd_ne (Ne.symm d.eL)]; exact hl, AllR.imp (ThV.keep k X.mut) rl⟩ ⟨X.beg.2.1, fun i g ns hi hn => ?_⟩ ⟨ds, by rw [upd_ne (Ne.symm d.eD)]; exact hd, AllR.imp (DdV.keep k X.mut) rd⟩ ht⟩
  rw [upd_ne (ne_mem (List.mem_of_getElem? hi) d.eg)]
  exact X.beg.2.2 i g ns hi hn
/-- only the list of one procedure changes -/
theorem ExV.setBegun (X : ExV C aH aB A s H) {p : Nat} {g : Addr} {ns : List Nat} (hg : A.gs[p]? = some g) : KpM A.M H (upd H g (.lst (ns.reverse.map natV))) ∧ ExV C aH aB A { s with begun := s.begun.set p ns } (upd H g (.lst (ns.reverse.map natV))) := by
  have d := X.dis
  have mg := List.mem_of_getElem? hg
  have k : KpM A.M H (upd H g (.lst (ns.reverse.map natV))) := KpM.upd (.inr (.inr (.inr mg)))
  obtain ⟨dx, he⟩ := X.ins
  obtain ⟨ls, hl, rl⟩ := X.lft
  obtain ⟨ds, hd, rd⟩ := X.dds
  refine ⟨k, X.next k ⟨dx, by rw [upd_ne (Ne.symm (ne_mem mg d.eg))]; exact he⟩ ⟨ls, by rw [upd_ne (Ne.symm (ne_mem mg d.Lg))]; exact hl, AllR.imp (ThV.keep k X.mut) rl⟩ ⟨by rw [List.length_set]; exact X.beg.2.1, fun i g' ns' hi hn => ?_⟩ ⟨ds, by rw [upd_ne (Ne.symm (ne_mem mg d.Dg))]; exact hd, AllR.imp (DdV.keep k X.mut) rd⟩ X.tk⟩
  by_cases e : p = i
  · subst e
    rw [hg] at hi
    cases hi
    have hl := (List.getElem?_eq_some_iff.mp hn).1
    rw [List.length_set] at hl
    rw [List.getElem?_set_self hl] at hn
    cases hn
    exact upd_same
  · rw [List.getElem?_set_ne e] at hn
    rw [upd_ne (fun h => e ?_)]
    · exact X.beg.2.2 i g' ns' hi hn
    · subst h
      have h1 := (List.getElem?_eq_some_iff.mp hg).1
      have h2 := (List.getElem?_eq_some_iff.mp hi).1
      exact (List.getElem?_inj h1 d.nd).mp (hg.trans hi.symm)
end
/-- NoRun(i) is raised: only the objects at M have changed -/
def ErrR (CE : Addr) (M : Addr → Prop) (H : Hp) (E : XK) (i : Int) : Prop := ∀ (x : Addr) (H' : Hp), KpM M H H' → H' x = some (.xd [("index", .int i)]) → E (.ref CE) (some x) H'
theorem ErrR.kp {CE : Addr} {M : Addr → Prop} {H H1 : Hp} {E : XK} {i : Int} (k : KpM M H H1) (h : ErrR CE M H E i) : ErrR CE M H1 E i := fun x H' k2 hx => h x H' (k.trans k2) hx
section
variable {aP aT aL aG aD : Addr} {t t' : Nat} {w w' : Int}
theorem exf_procedures : (exFs aP aT aL aG aD t w).lookup ("procedures" : Str) = some (.ref aP) := rfl
theorem exf_bits : (exFs aP aT aL aG aD t w).lookup ("bits" : Str) = some (.ref aT) := rfl
theorem exf_taken : (exFs aP aT aL aG aD t w).lookup ("taken" : Str) = some (natV t) := rfl
theorem exf_left : (exFs aP aT aL aG aD t w).lookup ("left" : Str) = some (.ref aL) := rfl
theorem exf_begun : (exFs aP aT aL aG aD t w).lookup ("begun" : Str) = some (.ref aG) := rfl
theorem exf_deeds : (exFs aP aT aL aG aD t w).lookup ("deeds" : Str) = some (.ref aD) := rfl
theorem exf_way : (exFs aP aT aL aG aD t w).lookup ("way" : Str) = some (.int w) := rfl
theorem exf_putT : putF "taken" (natV t') (exFs aP aT aL aG aD t w) = exFs aP aT aL aG aD t' w := rfl
theorem exf_putW : putF "way" (.int w') (exFs aP aT aL aG aD t w) = exFs aP aT aL aG aD t w' := rfl
theorem exf_len : (exFs aP aT aL aG aD t w).length < 1000 := by show 7 < 1000; decide
theorem exf_enter : (exFs aP aT aL aG aD t w).lookup ("enter" : Str) = none := rfl
theorem exf_take : (exFs aP aT aL aG aD t w).lookup ("take" : Str) = none := rfl
theorem exf_leave : (exFs aP aT aL aG aD t w).lookup ("leave" : Str) = none := rfl
theorem exf_begin : (exFs aP aT aL aG aD t w).lookup ("begin" : Str) = none := rfl
theorem exf_unwind : (exFs aP aT aL aG aD t w).lookup ("unwind" : Str) = none := rfl
theorem exf_step : (exFs aP aT aL aG aD t w).lookup ("step" : Str) = none := rfl
theorem exf_finish : (exFs aP aT aL aG aD t w).lookup ("finish" : Str) = none := rfl
end

/-! ### the pens of deeds -/
theorem mv_six {c : Cm} {ps : List Int} (h : ps.length = 6) : (c.mv ps).length = 6 := by
  match ps, h with
  | [x, y, u, v, p, q], _ => cases c <;> rfl
def penStep : Dd → List (List Int) × List Int → List (List Int) × List Int
  | .cmd c, (h, p) => (h, c.mv p)
  | .hold, (h, p) => (p :: h, p)
  | .back, (q :: h, p) => (h, q.take 4 ++ p.drop 4)
  | .back, ([], p) => ([], p)
def penFold (xs : List Dd) (z : List (List Int) × List Int) : List (List Int) × List Int := xs.foldl (fun z d => penStep d z) z
/-- the pen behind each deed -/
def pensB (xs : List Dd) (p : List Int) : List (List Int) := (List.range xs.length).map fun i => (penFold (xs.take (i + 1)) ([], p)).2
/-- the pen behind all -/
def penEnd (xs : List Dd) (p : List Int) : List Int := (penFold xs ([], p)).2
/-- how many holds are open behind the deeds; none: one back too many -/
def depD : List Dd → Nat → Option Nat
  | [], n => some n
  | .cmd _ :: r, n => depD r n
  | .hold :: r, n => depD r (n + 1)
  | .back :: r, n + 1 => depD r n
  | .back :: _, 0 => none
theorem penFold_snoc {xs : List Dd} {i : Nat} {d : Dd} (h : xs[i]? = some d) (z : List (List Int) × List Int) : penFold (xs.take (i + 1)) z = penStep d (penFold (xs.take i) z) := by
  unfold penFold
  rw [List.take_add_one, h, List.foldl_append]
  rfl
theorem depD_take : ∀ {xs : List Dd} {n m : Nat}, depD xs n = some m → ∀ i, ∃ k, depD (xs.take i) n = some k
  | [], n, m, _, i => ⟨n, by rw [List.take_nil]; rfl⟩
  | d :: r, n, m, e, 0 => ⟨n, rfl⟩
  | .cmd _ :: r, n, m, e, i + 1 => depD_take (xs := r) (n := n) e i
  | .hold :: r, n, m, e, i + 1 => depD_take (xs := r) (n := n + 1) e i
  | .back :: r, n + 1, m, e, i + 1 => depD_take (xs := r) (n := n) e i
  | .back :: r, 0, m, e, i + 1 => by cases e
theorem depD_append : ∀ (xs ys : List Dd) (n : Nat), depD (xs ++ ys) n = (depD xs n).bind (depD ys)
  | [], ys, n => rfl
  | .cmd _ :: r, ys, n => depD_append r ys n
  | .hold :: r, ys, n => depD_append r ys (n + 1)
  | .back :: r, ys, n + 1 => depD_append r ys n
  | .back :: r, ys, 0 => rfl
/-- the open holds are those that the fold keeps -/
theorem dep_len : ∀ {xs : List Dd} {z : List (List Int) × List Int} {k : Nat}, depD xs z.1.length = some k → (penFold xs z).1.length = k
  | [], z, k, e => by cases e; rfl
  | .cmd c :: r, (h, p), k, e => dep_len (xs := r) (z := (h, c.mv p)) e
  | .hold :: r, (h, p), k, e => dep_len (xs := r) (z := (p :: h, p)) e
  | .back :: r, (q :: h, p), k, e => dep_len (xs := r) (z := (h, q.take 4 ++ p.drop 4)) e
  | .back :: r, ([], p), k, e => by cases e
/-- all pens have six numbers -/
theorem six_fold : ∀ {xs : List Dd} {z : List (List Int) × List Int}, (∀ q ∈ z.1, q.length = 6) → z.2.length = 6 → (∀ q ∈ (penFold xs z).1, q.length = 6) ∧ (penFold xs z).2.length = 6
  | [], z, h1, h2 => ⟨h1, h2⟩
  | .cmd c :: r, (h, p), h1, h2 => six_fold (xs := r) (z := (h, c.mv p)) h1 (mv_six h2)
  | .hold :: r, (h, p), h1, h2 => six_fold (xs := r) (z := (p :: h, p)) (fun q hq => (List.mem_cons.mp hq).elim (fun e => by rw [e]; exact h2) (h1 q)) h2
  | .back :: r, (q :: h, p), h1, h2 => six_fold (xs := r) (z := (h, q.take 4 ++ p.drop 4)) (fun q' hq => h1 q' (List.mem_cons_of_mem _ hq)) (by
      have e1 := h1 q List.mem_cons_self
      have h2 : p.length = 6 := h2
      show (q.take 4 ++ p.drop 4).length = 6
      rw [List.length_append, List.length_take, List.length_drop]
      omega)
  | .back :: r, ([], p), h1, h2 => six_fold (xs := r) (z := ([], p)) h1 h2
theorem pensB_snoc (xs : List Dd) (i : Nat) (p : List Int) (h : i < xs.length) : pensB (xs.take (i + 1)) p = pensB (xs.take i) p ++ [(penFold (xs.take (i + 1)) ([], p)).2] := by
  unfold pensB
  rw [List.length_take, List.length_take, show min (i + 1) xs.length = i + 1 by omega, show min i xs.length = i by omega, List.range_succ, List.map_append, List.map_cons, List.map_nil, List.take_take, show min (i + 1) (i + 1) = i + 1 by omega]
  congr 1
  refine List.map_congr_left fun j hj => ?_
  have := List.mem_range.mp hj
  rw [List.take_take, List.take_take, show min (j + 1) (i + 1) = j + 1 by omega, show min (j + 1) i = j + 1 by omega]
theorem pensB_last (xs : List Dd) (p : List Int) : (pensB xs p).getLast? = if xs = [] then none else some (penEnd xs p) := by
  cases e : xs.length with
  | zero =>
    have : xs = [] := List.length_eq_zero_iff.mp e
    subst this
    rfl
  | succ n =>
    have h := pensB_snoc xs n p (by omega)
    rw [List.take_of_length_le (by omega)] at h
    rw [h, List.getLast?_concat, if_neg (fun z => by rw [z] at e; cases e)]
    rfl
def Dd.ok : Dd → Prop
  | .cmd c => c.ok
  | _ => True

section
open GenW
/-! ### a generator def that a for walks: its body -/
section
variable (P : Program) (w : World) (K : PySem.W.Frag) (mg : Str → Option Value) (base : Heap) (N : List Str) (qual : Str) (scope : Scope) (f : Addr) (cd : Value) (A : Around) (outer : List Env) (n : Nat) (H0 : Hp) (pn : List (Addr × Obj))
/-- the context of the body: its frame stands at n; b: what stood when it was called, the caller's locals as they are now -/
def vcx (b : Shared) : Cx :=
  { prog := P, w := w, K := K, mg := mg, base := base, A := A.deeper (envOfC qual scope n f cd), N := N, s_0 := b, H_0 := H0, env := envOfC qual scope n f cd, outer := outer, stack := envOfC qual scope n f cd :: outer,
    ex := [], calm := true, fn := fun _ => true, pn := pn, xe := fun _ _ => False }
end
section
variable {P : Program} {w : World} {K : PySem.W.Frag} {mg : Str → Option Value} {base : Heap} {N : List Str} {qual : Str} {scope : Scope} {f : Addr} {cd : Value} {A : Around} {outer : List Env} {n : Nat} {H0 : Hp} {pn : List (Addr × Obj)}
/-- all that an item's receiver must keep: the generator's frame and what it knows; Gh: what the receiver keeps for itself -/
def GY3 (F : Shared → Cx) (Gh : List V → Shared → Prop) : Protocol := fun m _ v s kap => ∃ (ys : List V) (x : V) (ip : List (Addr × Obj)) (σ : L2.St) (H : Hp) (b : Shared), m + 1 + ys.length = sizeLine ∧ RelV x v ∧ Inv (F b) ip σ H s ∧ Gh ys b ∧
  ∀ b' s', Gh (ys ++ [x]) b' → Inv (F b') ip σ H s' → kap (.send .none) s'
def GR3 (F : Shared → Cx) (Gh : List V → Shared → Prop) (Q : List V → Hp → Prop) : GenEnd := fun _ _ r s => ((r = .ok (.ret .none) ∨ r = .ok .next) ∧ ∃ (ys : List V) (ip : List (Addr × Obj)) (σ : L2.St) (H : Hp) (b : Shared), Inv (F b) ip σ H s ∧ Gh ys b ∧ ys.length ≤ sizeLine ∧ Q ys H) ∨ ∃ e, r = .error e ∧ False
/-- where the code stands -/
structure GC3 (A : Around) (B : Around) (c : Code) (fs : List Frame) (gd : Bool → Bool) : Prop where
  over : A.over c fs = B
  split : splitAtGen fs = none
  guard : fs.any Frame.guarded = false
  gd : gd false = false
/-- what follows -/
def GK3 (P : Program) (w : World) (F : Shared → Cx) (A : Around) (Gh : List V → Shared → Prop) (R : GenEnd) (ip : List (Addr × Obj)) (c : Code) (fs : List Frame) (Kc : Flow → Sem PySem.Fin) (D : GEnds) : Prop :=
  ∀ (m : Nat) (ys : List V) (s₀ b s : Shared) (fl : Flow), m + ys.length = sizeLine → Gh ys b → SP (F b) ip (D.at ys) fl s → Seg (model P w) A R (GY3 F Gh) m s₀ c (Kc fl) fs s
abbrev TG3 := Shared → TGn
/-- a statement of the body, over every state that may have been -/
def G3 (P : Program) (w : World) (F : Shared → Cx) (n : Nat) (A B : Around) (E0 : Env) (st : Stmt) (t : TG3) : Prop :=
  ∀ (Gh : List V → Shared → Prop) (_ : ∀ ys b, Gh ys b → b.heap.objs.size = n) (ip : List (Addr × Obj)) (R : GenEnd) (m : Nat) (ys : List V) (s₀ : Shared) (c : Code) (fs : List Frame) (Kc : Flow → Sem PySem.Fin) (J : Value → Sem PySem.Fin) (gd : Bool → Bool) (lv : List Value → List Value) (b s : Shared) (σ : L2.St) (H : Hp) (D : GEnds),
    GC3 A B c fs gd → m + ys.length = sizeLine → GK3 P w F A Gh R ip c fs Kc D → Gh ys b → Inv (F b) ip σ H s → t b D ys σ H → Seg (model P w) A R (GY3 F Gh) m s₀ c ((exec st E0).wrap Kc J gd lv) fs s
def G3s (P : Program) (w : World) (F : Shared → Cx) (n : Nat) (A B : Around) (E0 : Env) (st : List Stmt) (t : TG3) : Prop :=
  ∀ (Gh : List V → Shared → Prop) (_ : ∀ ys b, Gh ys b → b.heap.objs.size = n) (ip : List (Addr × Obj)) (R : GenEnd) (m : Nat) (ys : List V) (s₀ : Shared) (c : Code) (fs : List Frame) (Kc : Flow → Sem PySem.Fin) (J : Value → Sem PySem.Fin) (gd : Bool → Bool) (lv : List Value → List Value) (b s : Shared) (σ : L2.St) (H : Hp) (D : GEnds),
    GC3 A B c fs gd → m + ys.length = sizeLine → GK3 P w F A Gh R ip c fs Kc D → Gh ys b → Inv (F b) ip σ H s → t b D ys σ H → Seg (model P w) A R (GY3 F Gh) m s₀ c ((execs st E0).wrap Kc J gd lv) fs s
/-- the judgement for a def -/
abbrev GB (P : Program) (w : World) (K : PySem.W.Frag) (mg : Str → Option Value) (base : Heap) (N : List Str) (qual : Str) (scope : Scope) (f : Addr) (cd : Value) (A : Around) (outer : List Env) (n : Nat) (H0 : Hp) (pn : List (Addr × Obj)) (st : List Stmt) (t : TG3) : Prop :=
  G3s P w (vcx P w K mg base N qual scope f cd A outer n H0 pn) n A (A.deeper (envOfC qual scope n f cd)) (envOfC qual scope n f cd) st t
abbrev GB1 (P : Program) (w : World) (K : PySem.W.Frag) (mg : Str → Option Value) (base : Heap) (N : List Str) (qual : Str) (scope : Scope) (f : Addr) (cd : Value) (A : Around) (outer : List Env) (n : Nat) (H0 : Hp) (pn : List (Addr × Obj)) (st : Stmt) (t : TG3) : Prop :=
  G3 P w (vcx P w K mg base N qual scope f cd A outer n H0 pn) n A (A.deeper (envOfC qual scope n f cd)) (envOfC qual scope n f cd) st t
theorem g3_ps {st : Stmt} {t : Shared → TS} (h : ∀ b, PS (vcx P w K mg base N qual scope f cd A outer n H0 pn b) st (t b)) : GB1 P w K mg base N qual scope f cd A outer n H0 pn st fun b => tPlain (t b) := by
  intro Gh hsz ip R m ys s₀ c fs Kc J gd lv b s σ H D g hm k hg hI ht
  refine seg_wrap ?_
  rw [g.over]
  exact wpAny_mono ((h b).run ip s σ H (D.at ys) hI ht) (fun fl s' hs => k m ys s₀ b s' fl hm hg hs) fun x s' hx => hx.elim
theorem g3_nil : GB P w K mg base N qual scope f cd A outer n H0 pn [] fun _ => tG0 := by
  intro Gh hsz ip R m ys s₀ c fs Kc J gd lv b s σ H D g hm k hg hI ht
  exact seg_execs_nil (k m ys s₀ b s .next hm hg ⟨σ, H, hI, ht⟩)
theorem g3_cons {st : Stmt} {rest : List Stmt} {t u : TG3} (a : GB1 P w K mg base N qual scope f cd A outer n H0 pn st t) (r : GB P w K mg base N qual scope f cd A outer n H0 pn rest u) (hu : ∀ b b', u b = u b') :
    GB P w K mg base N qual scope f cd A outer n H0 pn (st :: rest) fun b => tGThen (t b) (u b) := by
  intro Gh hsz ip R m ys s₀ c fs Kc J gd lv b s σ H D g hm k hg hI ht
  refine seg_execs_cons ?_
  refine a Gh hsz ip R m ys s₀ c fs _ J gd lv b s σ H { D with nx := fun ys' σ' H' => u b D ys' σ' H' } g hm (fun m' ys' s₀' b' s' fl hm' hg' hs => ?_) hg hI ht
  cases fl with
  | next =>
    obtain ⟨σ', H', I', q⟩ := hs
    exact r Gh hsz ip R m' ys' s₀' c fs Kc J gd lv b' s' σ' H' D g hm' k hg' I' (hu b b' ▸ q)
  | brk => exact k m' ys' s₀' b' s' .brk hm' hg' hs
  | cont => exact k m' ys' s₀' b' s' .cont hm' hg' hs
  | ret v => exact k m' ys' s₀' b' s' (.ret v) hm' hg' hs
theorem g3_yield {e : Expr} {yp pos : Pos} {te : Shared → TE} (he : ∀ b, PE (vcx P w K mg base N qual scope f cd A outer n H0 pn b) e (te b)) (hco : scope.isCoroutine = false := by rfl) (hi : interactive (envOfC qual scope n f cd) = false := by rfl) :
    GB1 P w K mg base N qual scope f cd A outer n H0 pn (.Expr (.Yield (some e) yp) pos) fun b => tGYield (te b) := by
  intro Gh hsz ip R m ys s₀ c fs Kc J gd lv b s σ H D g hm k hg hI ht
  obtain ⟨hlt, ht⟩ := ht
  obtain ⟨m, rfl⟩ : ∃ l, m = l + 1 := ⟨m - 1, by omega⟩
  refine seg_Expr_Yield g.split g.gd g.guard ?_ hco hi
  rw [g.over]
  refine wpAny_mono ((he b).run ip s σ H _ hI ht) (fun v s' hv => ?_) fun x s' hx => hx.elim
  obtain ⟨x, H1, I1, rv, q⟩ := hv
  intro kap hk
  refine ⟨ys, x, ip, σ, H1, b, hm, rv, I1, hg, fun b' s'' hg' I' => hk .none s'' ?_⟩
  refine k m (ys ++ [x]) s'' b' s'' .next ?_ hg' ⟨σ, H1, I', q⟩
  rw [List.length_append, List.length_singleton]
  omega
end
section
variable {P : Program} {w : World} {A : Around} {R : GenEnd} {Y : Protocol} {m : Nat} {s₀ : Shared} {c : Code} {fs : List Frame} {s : Shared} {env : Env} {Kc : Flow → Sem PySem.Fin} {J : Value → Sem PySem.Fin} {gd : Bool → Bool} {lv : List Value → List Value}
theorem seg_For3 {tg iter : Expr} {body orelse : List Stmt} {pos : Pos} (hs : ∀ x, foldedSetIterable iter env x = pure x)
    (h : wpAny (model P w) (A.over c fs) (eval iter env) (fun v s1 => wpAny (model P w) (A.over c fs) (pyIter v) (fun it s2 => ∀ p, Seg (model P w) A R Y m s₀ (.forLoop tg it body orelse env) ((model P w).den (.forLoop tg it body orelse env))
      (.ret (fun r => ((match r with | .ok f => (.pure f : Sem Flow) | .error e => .raise e).onRaise (cameBack env)).wrap Kc J gd lv) none (gd false) (lv []) c p [] :: fs) s2) (fun _ _ => False) s1) (fun _ _ => False) s) :
    Seg (model P w) A R Y m s₀ c ((exec (.For tg iter body orelse pos) env).wrap Kc J gd lv) fs s := by
  rw [exec_For]
  refine seg_bind_wrap (wpAny_standAt ?_)
  refine seg_bind_wrap (wpAny_mono h (fun v s1 h1 => ?_) fun _ _ z => z.elim)
  refine seg_bind_wrap (wpAny_of_eq (hs v) ?_)
  refine seg_bind_wrap (wpAny_standAt ?_)
  refine seg_bind_wrap (wpAny_holding (wpAny_mono h1 (fun it s2 h2 => ?_) fun _ _ z => z.elim))
  exact seg_call h2
/-- one turn -/
theorem seg_forLoop3 {tg : Expr} {it : Value} {body : List Stmt}
    (h : wpAny (model P w) (A.over (.forLoop tg it body [] env) fs) (pyNext it) (fun r s1 => match r with
      | none => Seg (model P w) A R Y m s₀ (.block [] env) ((model P w).den (.block [] env)) fs s1
      | some v => wpAny (model P w) (A.over (.forLoop tg it body [] env) fs) (letOwnedTupleGo tg it v) (fun _ s2 => wpAny (model P w) (A.over (.forLoop tg it body [] env) fs) (assign tg env v) (fun _ s3 =>
          Seg (model P w) A R Y m s₀ (.forLoop tg it body [] env) ((execs body env).wrap (fun f => match f with
            | .next | .cont => .pure (.again (.forLoop tg it body [] env))
            | .brk => .pure (.done .next)
            | .ret v => .pure (.done (.ret v))) (fun e => (do noteFrame e env; theTreesLotGoes e : Sem Unit).wrap (fun _ => .raise e) .raise id id) id id) fs s3) (fun _ _ => False) s2) (fun _ _ => False) s1) (fun _ _ => False) s) :
    Seg (model P w) A R Y m s₀ (.forLoop tg it body [] env) ((model P w).den (.forLoop tg it body [] env)) fs s := by
  show Seg _ A R Y m s₀ _ ((forTurn tg it body [] env).onRaise (fun x => do noteFrame x env; theTreesLotGoes x)) fs s
  unfold forTurn
  rw [Sem.onRaise_eq_wrap]
  refine seg_bind_wrap (wpAny_standAt ?_)
  refine seg_bind_wrap (wpAny_onRaise (wpAny_mono h (fun r s1 h1 => ?_) fun _ _ z => z.elim))
  cases r with
  | none => exact seg_again rfl h1
  | some v =>
    refine seg_bind_wrap (wpAny_mono h1 (fun _ s2 h2 => ?_) fun _ _ z => z.elim)
    refine seg_bind_wrap (wpAny_mono h2 (fun _ s3 h3 => ?_) fun _ _ z => z.elim)
    rw [Sem.bind_eq_wrap', Sem.wrap_wrap]
    rw [Sem.wrap_congr (execs body env) _ _ (K' := fun f => match f with
            | .next | .cont => .pure (.again (.forLoop tg it body [] env))
            | .brk => .pure (.done .next)
            | .ret v => .pure (.done (.ret v))) (H' := (fun e => (do noteFrame e env; theTreesLotGoes e : Sem Unit).wrap (fun _ => .raise e) .raise id id))
        (fun f => by cases f <;> rfl) (fun e => by first | exact Sem.bind_eq_wrap _ _ | (show (do noteFrame e env; theTreesLotGoes e : Sem Unit).bind (fun _ => .raise e) = _; rw [Sem.bind_eq_wrap]))]
    exact h3
end
section
variable {P : Program} {w : World} {K : PySem.W.Frag} {mg : Str → Option Value} {base : Heap} {N : List Str} {qual : Str} {scope : Scope} {f : Addr} {cd : Value} {A : Around} {outer : List Env} {n : Nat} {H0 : Hp} {pn : List (Addr × Obj)}
theorem gc3_loop {A B : Around} {c c' : Code} {fs : List Frame} {gd : Bool → Bool} {kk : Result → Sem PySem.Fin} {l kp : List Value} {p : Pos} (g : GC3 A B c fs gd) (hw : c'.weight = 0) (hu : c'.cUnits = 0) : GC3 A B c' (.ret kk none (gd false) l c p kp :: fs) id where
  over := (over_loop hw hu).trans g.over
  split := by show (splitAtGen fs).map _ = none; rw [g.split]; rfl
  guard := by show (gd false || fs.any Frame.guarded) = false; rw [g.gd, g.guard]; rfl
  gd := rfl
/-- W: the invariant by the turn and a measure, with what is out -/
def tG3For (wi : TI) (g : TG) (tb : TGn) : TGn := fun D ys σ H => wi σ H fun J H1 => ∃ W : Nat → Nat → List V → L2.St → Hp → Prop, (∃ m, W 0 m ys σ H1) ∧ ∀ i m ys σ H, W i m ys σ H →
  (J.stop i H ∧ D.nx ys σ H) ∨ (J.go i H ∧ ∃ N : List V → L2.St → Hp → Prop, (∀ ys' σ' H', N ys' σ' H' → ∃ m', m' < m ∧ W (i + 1) m' ys' σ' H') ∧ ∀ x H', J.yld i H x H' → g x σ H' fun σ2 H2 => tb { D with nx := N, ct := N, bk := D.nx } ys σ2 H2)
theorem g3_for {tg iter : Expr} {body : List Stmt} {pos : Pos} {wi : Shared → TI} {g : Shared → TG} {tb : TG3} (hi : ∀ b, PI (vcx P w K mg base N qual scope f cd A outer n H0 pn b) tg iter (wi b)) (hgt : ∀ b, PG (vcx P w K mg base N qual scope f cd A outer n H0 pn b) tg (g b))
    (hb : GB P w K mg base N qual scope f cd A outer n H0 pn body tb) (hgc : ∀ b b', g b = g b') (htc : ∀ b b', tb b = tb b') (hs : ∀ x, foldedSetIterable iter (envOfC qual scope n f cd) x = pure x := by intro _; rfl) :
    GB1 P w K mg base N qual scope f cd A outer n H0 pn (.For tg iter body [] pos) fun b => tG3For (wi b) (g b) (tb b) := by
  intro Gh hsz ip R m ys s₀ c fs Kc J gd lv b s σ H D gc hm k hg hI ht
  refine seg_For3 hs ?_
  rw [gc.over]
  refine wpAny_mono ((hi b).run ip s σ H _ hI ht) (fun v s1 h1 => wpAny_mono h1 (fun itv s2 h2 => ?_) fun x s' hx => hx.elim) fun x s' hx => hx.elim
  obtain ⟨it, fp, tn, Jt, H2, rfl, I2, T, st2, f2, W, ⟨m0, w0⟩, turn⟩ := h2
  intro p
  have gl := fun (kk : Result → Sem PySem.Fin) => gc3_loop (kk := kk) (c' := .forLoop tg (.ref it) body [] (envOfC qual scope n f cd)) (l := lv []) (kp := []) (p := p) gc rfl rfl
  have stat : ∀ {H' : Hp} (b' : Shared), b'.heap.objs.size = n → (∀ x ∈ fp, H' x = none) → ∀ x ∈ fp, FpOk (vcx P w K mg base N qual scope f cd A outer n H0 pn b') ip H' x := fun b' e hn x hx => by
    obtain ⟨_, q1, q2, q3, q4, q5⟩ := f2 x hx
    refine ⟨hn x hx, q1, q2, ?_, q4, q5⟩
    rcases q3 with q3 | q3
    · exact .inl q3
    · have q3 : b.heap.objs.size ≤ x := q3
      rw [hsz ys b hg] at q3
      exact .inr (by show b'.heap.objs.size ≤ x; rw [e]; exact q3)
  have loop : ∀ (l i m : Nat) (ys : List V) (s₀ b s : Shared) (σ : L2.St) (H : Hp), m + ys.length = sizeLine → Gh ys b → Inv (vcx P w K mg base N qual scope f cd A outer n H0 pn b) ip σ H s → tn i s.heap → (∀ x ∈ fp, H x = none) → W i l ys σ H →
      Seg (model P w) A R (GY3 (vcx P w K mg base N qual scope f cd A outer n H0 pn) Gh) m s₀ (.forLoop tg (.ref it) body [] (envOfC qual scope n f cd)) ((model P w).den (.forLoop tg (.ref it) body [] (envOfC qual scope n f cd)))
        (.ret (fun r => ((match r with | .ok f => (.pure f : Sem Flow) | .error e => .raise e).onRaise (cameBack (envOfC qual scope n f cd))).wrap Kc J gd lv) none (gd false) (lv []) c p [] :: fs) s := by
    intro l
    induction l using Nat.strongRecOn with
    | ind l ih =>
      intro i m ys s₀ b0 s σ H hm hg hI hst hfr hw
      refine seg_forLoop3 ?_
      rw [(gl _).over]
      rcases turn i l ys σ H hw with ⟨stop, qn⟩ | ⟨go, N', hN, step⟩
      · refine wpAny_mono (T.done (vcx P w K mg base N qual scope f cd A outer n H0 pn b0) rfl rfl rfl rfl i ip s σ H (fun _ _ => False) hI (stat b0 (hsz ys b0 hg) hfr) hst stop) (fun r s4 ⟨hr, I4⟩ => ?_) fun _ _ z => z.elim
        subst hr
        exact seg_leaf (.ok .next) (k m ys s₀ b0 s4 .next hm hg ⟨σ, H, I4, qn⟩)
      · refine wpAny_mono (T.item (vcx P w K mg base N qual scope f cd A outer n H0 pn b0) rfl rfl rfl rfl i ip s σ H (fun _ _ => False) hI (stat b0 (hsz ys b0 hg) hfr) hst go) (fun r s4 ⟨u, hr, h4⟩ => ?_) fun _ _ z => z.elim
        subst hr
        refine wpAny_mono h4 (fun _ s5 ⟨x, H5, I5, r5, y5, st5, fr5⟩ => ?_) fun _ _ z => z.elim
        have I5' := I5.pinned (stat b0 (hsz ys b0 hg) fr5) (T.obj _ _ st5)
        refine wpAny_mono ((hgt b0).run _ s5 σ H5 x u _ I5' r5 (hgc b b0 ▸ step x H5 y5)) (fun _ s6 ⟨σ6, H6, I6, q6⟩ => ?_) fun _ _ z => z.elim
        refine hb Gh hsz _ R m ys s₀ _ _ _ _ id id b0 s6 σ6 H6 { D with nx := N', ct := N', bk := D.nx } (gl _) hm (fun m' ys' s₀' b' s7 fl hm' hg' q7 => ?_) hg I6 (htc b b0 ▸ q6)
        have again : ∀ {σ7 : L2.St} {H7 : Hp}, Inv (vcx P w K mg base N qual scope f cd A outer n H0 pn b') (ip ++ pinsAt fp s5.heap) σ7 H7 s7 → N' ys' σ7 H7 → Seg (model P w) A R (GY3 (vcx P w K mg base N qual scope f cd A outer n H0 pn) Gh) m' s₀' (.forLoop tg (.ref it) body [] (envOfC qual scope n f cd)) ((model P w).den (.forLoop tg (.ref it) body [] (envOfC qual scope n f cd)))
            (.ret (fun r => ((match r with | .ok f => (.pure f : Sem Flow) | .error e => .raise e).onRaise (cameBack (envOfC qual scope n f cd))).wrap Kc J gd lv) none (gd false) (lv []) c p [] :: fs) s7 := fun {σ7 H7} I7 n7 => by
          obtain ⟨l', hl, w7⟩ := hN ys' σ7 H7 n7
          refine ih l' hl (i + 1) m' ys' s₀' b' s7 σ7 H7 hm' hg' I7.unpinned (T.keep _ _ _ st5 fun x hx o e => (I7.pin (x, o) (List.mem_append_right _ (List.mem_append_right _ (mem_pinsAt hx e)))).1) (fun x hx => ?_) w7
          obtain ⟨o, e, d⟩ := T.obj _ _ st5 x hx
          exact (I7.pin (x, o) (List.mem_append_right _ (List.mem_append_right _ (mem_pinsAt hx e)))).2.1
        cases fl with
        | next =>
          obtain ⟨σ7, H7, I7, n7⟩ := q7
          exact seg_again rfl (again I7 n7)
        | cont =>
          obtain ⟨σ7, H7, I7, n7⟩ := q7
          exact seg_again rfl (again I7 n7)
        | brk =>
          obtain ⟨σ7, H7, I7, n7⟩ := q7
          exact seg_leaf (.ok .next) (k m' ys' s₀' b' s7 .next hm' hg' ⟨σ7, H7, I7.unpinned, n7⟩)
        | ret v =>
          obtain ⟨x7, σ7, H7, I7, r7, n7⟩ := q7
          exact seg_leaf (.ok (.ret v)) (k m' ys' s₀' b' s7 (.ret v) hm' hg' ⟨x7, σ7, H7, I7.unpinned, r7, n7⟩)
  exact loop m0 0 m ys s₀ b s2 σ H2 hm hg I2 st2 (fun x hx => (f2 x hx).1) w0
end
/-- only the record at L has changed, which is a frame's names -/
structure OneNs (L : Addr) (s s' : Shared) : Prop where
  os : s'.os = s.os
  same : Heap.SameBut L s.heap s'.heap
theorem funFrames_one {base h h' : Heap} {L : Addr} {o' : Obj} (hs : Heap.SameBut L h h') (ho : h'.get? L = some o') (hd : ∀ vs, o'.data ≠ .fields vs) : ∀ {l : List Env}, h.FunFrames base l → h'.FunFrames base l
  | [], _ => trivial
  | env :: rest, ⟨hk, ⟨M, o, hf, hn, e, d⟩, hr⟩ => by
    refine ⟨hk, ?_, funFrames_one hs ho hd hr⟩
    by_cases z : M = L
    · subst z
      exact ⟨M, o', hf, hn, ho, hd⟩
    · exact ⟨M, o, hf, hn, (hs.2 M z).trans e, d⟩
section
variable {P : Program} {w : World} {K : PySem.W.Frag} {mg : Str → Option Value} {base : Heap} {N : List Str} {qual : Str} {scope : Scope} {f : Addr} {cd : Value} {A : Around} {outer : List Env} {n : Nat} {H0 : Hp} {pn : List (Addr × Obj)}
/-- the receiver has changed its own names, in b and in s alike -/
theorem vcx_again {ip : List (Addr × Obj)} {σ : L2.St} {H : Hp} {b b' s s' : Shared} {L : Addr} {o' : Obj} (I : Inv (vcx P w K mg base N qual scope f cd A outer n H0 pn b) ip σ H s) (hL : L ∈ frs outer) (h1 : OneNs L b b') (h2 : OneNs L s s') (hg : AllBare s'.gens)
    (e1 : b'.heap.get? L = some o') (e2 : s'.heap.get? L = some o') (hd : ∀ vs, o'.data ≠ .fields vs) : Inv (vcx P w K mg base N qual scope f cd A outer n H0 pn b') ip σ H s' := by
  obtain ⟨hbL, o₀, ho₀, _⟩ := I.ok.funs.mem hL
  have hlt : L < b.heap.objs.size := Heap.lt_size ho₀
  have ltn : L < n := Nat.lt_of_lt_of_le hlt I.ok.above
  have frL : H0 L = none := I.ok.frf L hL
  have HL : H L = none := I.base.free L o₀ ho₀ frL (by simp [vcx])
  have neC : ∀ x c, (envOfC qual scope n f cd).cells.lookup x = some c → c ≠ L := fun x c e z => by
    have q : b.heap.objs.size ≤ c := I.ok.cab x c rfl e
    exact absurd (Nat.lt_of_lt_of_le hlt q) (by rw [z]; exact Nat.lt_irrefl _)
  have sz : b'.heap.objs.size = b.heap.objs.size := h1.same.1
  have old : ∀ x o, x ≠ L → b'.heap.get? x = some o → b.heap.get? x = some o := fun x o hx e => (h1.same.2 x hx).symm.trans e
  have new : ∀ x o, x ≠ L → s.heap.get? x = some o → s'.heap.get? x = some o := fun x o hx e => (h2.same.2 x hx).trans e
  refine ⟨⟨I.ok.mod, I.ok.kind, I.ok.glob, I.ok.blt, ?_, I.ok.inj, I.ok.has, fun x c h e => ?_, I.ok.hd, I.ok.frames, I.ok.stk, I.ok.exf, fun x o e => ?_, ?_, I.ok.noex, I.ok.exfs, funFrames_one h1.same e1 hd I.ok.funs, I.ok.frf⟩, ?_, hg, ⟨fun x o e h0 hf hx => ?_, fun x o e h0 hf hx => ?_, fun x o e h0 hx => ?_, fun x o e hx => ?_, I.base.tups, I.base.frzs, I.base.tbls⟩, ?_, fun x c e => ?_, I.free, I.freeC, fun p hp => ?_, fun x o e => ?_, I.len⟩
  · exact Nat.le_trans (Nat.le_of_eq sz) I.ok.above
  · exact Nat.le_trans (Nat.le_of_eq sz) (I.ok.cab x c h e)
  · obtain ⟨q1, q2⟩ := I.ok.bs x o e
    refine ⟨(h1.same.2 x fun z => ?_).trans q1, q2⟩
    rw [z] at e
    exact absurd (hbL.symm.trans e) (by simp)
  · exact Nat.le_trans I.ok.bsz (Nat.le_of_eq sz.symm)
  · exact h2.os.trans (I.os.trans h1.os.symm)
  · have hx' : x ≠ L := fun z => hf (z ▸ hL)
    exact new x o hx' (I.base.keep x o (old x o hx' e) h0 hf hx)
  · by_cases z : x = L
    · subst z
      have e : b'.heap.get? x = some o := e
      rw [e1] at e
      cases e
      exact ⟨o'.slots, e2⟩
    · obtain ⟨sl, q⟩ := I.base.slot x o (old x o z e) h0 hf hx
      exact ⟨sl, new x _ z q⟩
  · by_cases z : x = L
    · rw [z]; exact HL
    · exact I.base.free x o (old x o z e) h0 hx
  · by_cases z : x = L
    · exact ⟨o', by rw [z]; exact e2⟩
    · obtain ⟨o2, q⟩ := I.base.there x o (old x o z e) hx
      exact ⟨o2, new x _ z q⟩
  · obtain ⟨m, hn, hl⟩ := I.loc
    refine ⟨m, hn.at' fun o e => new _ o (fun z => ?_) e, fun i x v q1 q2 q3 => ?_⟩
    · have z : n = L := z
      exact absurd ltn (by rw [z]; exact Nat.lt_irrefl _)
    · obtain ⟨u, ru, hk⟩ := hl i x v q1 q2 q3
      refine ⟨u, ru, ?_⟩
      rcases hk with hk | ⟨hk, c, hc, o, ho, hd'⟩
      · exact .inl hk
      · exact .inr ⟨hk, c, hc, o, new c o (neC x c hc) ho, hd'⟩
  · obtain ⟨v, o, ho, hd'⟩ := I.cell x c e
    exact ⟨v, o, new c o (neC x c e) ho, hd'⟩
  · obtain ⟨q1, q2, q3, q4, q5⟩ := I.pin p hp
    exact ⟨new _ _ (fun z => q4 (z ▸ hL)) q1, q2, q3, q4, q5⟩
  · refine (I.hok x o e).stay (fun c u hc q => new c u (fun z => ?_) q) (fun _ q => q) fun _ _ q => q
    rcases hc with hc | hc
    · rw [← hc, z, HL] at e
      cases e
    · rw [z, HL] at hc
      cases hc
end
/-! ### a call of the def -/
/-- its promise: the arguments, the heap, what is wanted of all that is handed out and of the heap at the end (the receiver leaves the heap as it is) -/
abbrev Sp3 := List V → Hp → (List V → Hp → Prop) → Prop
def GMade3 (P : Program) (w : World) (K : PySem.W.Frag) (mg : Str → Option Value) (base : Heap) (k : Nat) (outer : List Env) (H : Hp) (sc : Shared) (Q : List V → Hp → Prop) (u : Value) (s' : Shared) : Prop :=
  ∃ (a : Addr) (g : Nat) (body : List Stmt) (N : List Str) (qual : Str) (scope : Scope) (f : Addr) (cd : Value) (go : Obj) (σ0 : L2.St), u = .ref a ∧ s'.heap.get? a = some go ∧ (∀ h : Heap, h.get? a = some go → h.IsGen a g) ∧ s'.gens[g]? = some (.fresh (.func body (envOfC qual scope sc.heap.objs.size f cd))) ∧ s'.os = sc.os ∧ AllBare s'.gens ∧ (∀ b o, sc.heap.get? b = some o → s'.heap.get? b = some o) ∧
  sc.heap.objs.size ≤ a ∧ ∀ Aw, Room k Aw → Aw.frames = some outer → Inv (vcx P w K mg base N qual scope f cd Aw outer sc.heap.objs.size H [(a, go)] sc) [] σ0 H s' ∧
    ∀ (Gh : List V → Shared → Prop) (s2 : Shared), (∀ ys b, Gh ys b → b.heap.objs.size = sc.heap.objs.size) → Gh [] sc → Inv (vcx P w K mg base N qual scope f cd Aw outer sc.heap.objs.size H [(a, go)] sc) [] σ0 H s2 →
      Seg (model P w) Aw (GR3 (vcx P w K mg base N qual scope f cd Aw outer sc.heap.objs.size H [(a, go)]) Gh Q) (GY3 (vcx P w K mg base N qual scope f cd Aw outer sc.heap.objs.size H [(a, go)]) Gh) sizeLine s2 (.func body (envOfC qual scope sc.heap.objs.size f cd)) ((model P w).den (.func body (envOfC qual scope sc.heap.objs.size f cd))) [] s2
structure GFn3 (P : Program) (w : World) (K : PySem.W.Frag) (mg : Str → Option Value) (base : Heap) (k : Nat) (f : Addr) (fd : FuncData) (ps : List Str) (sp : Sp3) : Prop where
  len : ∀ vs H Q, sp vs H Q → vs.length = ps.length
  run : ∀ (A : Around) (outer : List Env) (s : Shared) (H : Hp) (args : Args) (us : List Value) (vs : List V) (Q : List V → Hp → Prop), Room k A → Env0 P w K mg base A outer s H → BindsTo s fd args (ps.zip us) → Vals vs us → sp vs H Q →
    codeAny (model P w) A (.call (.ref f) args) (fun r s' => match r with | .ok (.ret u) => GMade3 P w K mg base k outer H s Q u s' | _ => False) s
section
variable {P : Program} {w : World} {K : PySem.W.Frag} {mg : Str → Option Value} {base : Heap} {N : List Str} {qual : Str} {scope : Scope} {f : Addr} {cd : Value} {A : Around} {outer : List Env} {H0 : Hp}
theorem inv_vcx {s s1 : Shared} {E : XK} {pins : List (Addr × Obj)} {σ : L2.St} {H : Hp} (I : Inv (gcxOf P w K mg base N qual scope f cd A outer s H0 E []) pins σ H s1) : Inv (vcx P w K mg base N qual scope f cd A outer s.heap.objs.size H0 [] s) pins σ H s1 :=
  ⟨⟨I.ok.mod, I.ok.kind, I.ok.glob, I.ok.blt, I.ok.above, I.ok.inj, I.ok.has, I.ok.cab, I.ok.hd, I.ok.frames, I.ok.stk, I.ok.exf, I.ok.bs, I.ok.bsz, I.ok.noex, I.ok.exfs, I.ok.funs, I.ok.frf⟩, I.os, I.bare, I.base, I.loc, I.cell, I.free, I.freeC, I.pin, I.hok, I.len⟩
theorem inv_vcx_pn {n : Nat} {s s1 : Shared} {pins pn : List (Addr × Obj)} {σ : L2.St} {H : Hp} (I : Inv (vcx P w K mg base N qual scope f cd A outer n H0 [] s) pins σ H s1)
    (h : ∀ p ∈ pn ++ pins, s1.heap.get? p.1 = some p.2 ∧ H p.1 = none ∧ p.1 ≠ n ∧ p.1 ∉ frs outer ∧ ∀ v, p.2.data ≠ .cell v) : Inv (vcx P w K mg base N qual scope f cd A outer n H0 pn s) pins σ H s1 :=
  ⟨⟨I.ok.mod, I.ok.kind, I.ok.glob, I.ok.blt, I.ok.above, I.ok.inj, I.ok.has, I.ok.cab, I.ok.hd, I.ok.frames, I.ok.stk, I.ok.exf, I.ok.bs, I.ok.bsz, I.ok.noex, I.ok.exfs, I.ok.funs, I.ok.frf⟩, I.os, I.bare, I.base, I.loc, I.cell, I.free, I.freeC, h, I.hok, I.len⟩
end
/-- a generator def, by its body -/
theorem gfn3_of {P : Program} {w : World} {K : PySem.W.Frag} {mg : Str → Option Value} {base : Heap} {k : Nat} {f : Addr} {name qual : Str} {params : Arguments} {body : List Stmt} {scope : Scope} {dV kV doc pm cdv ct oc : Value} {an od : Option Addr} {osl : Array (Option Value)} {N ps : List Str} {sp : Sp3}
    (lk : K.lookup f = some ⟨oc, od, .func (PySem.W.fnOf name qual params body scope dV kV doc pm an cdv ct), osl⟩) (hcd : PySem.W.codeIn K cdv qual = true) (S : GScope N ps scope) (len : ∀ vs H Q, sp vs H Q → vs.length = ps.length)
    (hbody : ∀ (A : Around) (outer : List Env) (s : Shared) (H : Hp) (vs : List V) (Q : List V → Hp → Prop) (pn : List (Addr × Obj)), Room k (A.deeper (envOfC qual scope s.heap.objs.size f cdv)) → sp vs H Q →
      ∃ t : TG3, GB P w K mg base N qual scope f cdv A outer s.heap.objs.size H pn body t ∧ t s { nx := fun ys _ H' => Q ys H', rt := fun ys v H' => v = .non ∧ Q ys H' } [] (start N vs) H) :
    GFn3 P w K mg base (k + 1) f (PySem.W.fnOf name qual params body scope dV kV doc pm an cdv ct) ps sp := by
  refine ⟨len, fun A outer s H args us vs Q hr e0 hb r hsp => ?_⟩
  have hl := len _ _ _ hsp
  have KX : K.In s.heap := e0.mod.kin.keeps fun b o e => (e0.bs b o e).1
  have lim : s.heap.NoLimit := e0.mod.nolimit.keeps fun b o e => (e0.bs b o e).1
  have hkind : ∀ y ∈ ps.zip us, scope.names.lookup y.1 = some .local ∨ (scope.names.lookup y.1 = some .cell ∧ ((cellsFrom (s.heap.objs.size + 1) scope.names []).lookup y.1).isSome = true) := fun ⟨x, v⟩ hy => by
    rcases S.par x (List.of_mem_zip hy).1 with q | q
    · exact .inl q
    · exact .inr ⟨q, PySem.W.cellsFrom_some _ _ _ (.inl q)⟩
  refine codeAny_call_generator hr.depth (KX _ _ lk) rfl S.co S.gen rfl (PySem.W.codeRec_of KX hcd) (hb _ _ _ _ ?_)
  refine wpAny_newFunctionEnv_cells S.kind hkind fun env he s1 x => ?_
  subst he
  have lim1 : s1.heap.NoLimit := lim.keeps x.toInCall.keep
  refine ⟨lim1, ?_⟩
  obtain ⟨h1, tk, es1, hk1⟩ := x.done
  have os1 : s1.os = s.os := by rw [es1]
  have gen1 : s1.gens = s.gens := by rw [es1]
  have lt1 : s.heap.objs.size < s1.heap.objs.size := x.toInCall.ns.lt
  have kp1 : ∀ b o, s.heap.get? b = some o → s1.heap.get? b = some o := x.toInCall.keep
  have main : ∀ (go : Obj) (nm qn : Value) (tk2 : Nat), go.cls = .type "generator" → go.data = .fields #[.int s1.gens.size 0, nm, qn] → go.slots = #[] → (∀ h : Heap, (h.push go).get? h.objs.size = some go) →
      GMade3 P w K mg base (k + 1) outer H s Q (.ref s1.heap.objs.size) { s1 with gens := s1.gens.push (.fresh (.func body (envOfC qual scope s.heap.objs.size f cdv))), toks := tk2, heap := s1.heap.push go } := by
    intro go nm qn tk2 hgc hgd0 hgs hgp
    have hpushed : (s1.heap.push go).get? s1.heap.objs.size = some go := hgp _
    have kp2 : ∀ b o, s1.heap.get? b = some o → (s1.heap.push go).get? b = some o := fun b o e => Heap.get?_push_of_some _ e
    have bare2 : AllBare (s1.gens.push (.fresh (.func body (envOfC qual scope s.heap.objs.size f cdv)))) := AllBare.push (by rw [gen1]; exact e0.bare) rfl
    refine ⟨s1.heap.objs.size, s1.gens.size, body, N, qual, scope, f, cdv, go, start N vs, rfl, hpushed, fun h e => ⟨go, nm, qn, e, hgc, hgd0, hgs⟩, Array.getElem?_push_size .., os1, bare2, fun b o e => kp2 b o (kp1 b o e), Nat.le_of_lt lt1, ?_⟩
    intro Aw hrw hfr
    have e0w : Env0 P w K mg base Aw outer s H := ⟨hfr, e0.mod, e0.bs, e0.bsz, e0.funs, e0.frf, e0.hok, e0.bare⟩
    obtain ⟨t, ht, hq⟩ := hbody Aw outer s H vs Q [(s1.heap.objs.size, go)] (hrw.deeper _) hsp
    have I1 : Inv (vcx P w K mg base N qual scope f cdv Aw outer s.heap.objs.size H [] s) [] (start N vs) H s1 := inv_vcx (inv_startG (E := fun _ _ _ => False) S hrw.hd e0w hl r x)
    have I2 : Inv (vcx P w K mg base N qual scope f cdv Aw outer s.heap.objs.size H [] s) [] (start N vs) H { s1 with gens := s1.gens.push (.fresh (.func body (envOfC qual scope s.heap.objs.size f cdv))), toks := tk2, heap := s1.heap.push go } :=
      I1.call' (ch := []) rfl (Un.kept kp2) (I1.hok.kept kp2) bare2 fun b z => by simp at z
    have I3 := inv_vcx_pn (pn := [(s1.heap.objs.size, go)]) I2 fun p hp => by
      rcases List.mem_append.mp hp with z | z
      · rw [List.mem_singleton.mp z]
        exact ⟨hpushed, I1.hok.fresh (Nat.le_refl _), Nat.ne_of_gt lt1, I1.nofs (Nat.le_refl _), fun v q => by rw [hgd0] at q; cases q⟩
      · cases z
    refine ⟨I3, fun Gh s2 hsz hg0 Is => ?_⟩
    refine seg_func ?_
    refine ht Gh hsz [] _ sizeLine [] s2 _ [] _ _ id id s s2 (start N vs) H _ ⟨over_func, rfl, rfl, rfl⟩ (Nat.add_zero _) (fun m ys s₀ b s' fl hm hg hs => ?_) hg0 Is hq
    cases fl with
    | next =>
      obtain ⟨σ', H', hI, hQ⟩ := hs
      exact seg_end (.ok (.ret .none)) (.inl ⟨.inl rfl, ys, [], σ', H', b, hI, hg, by omega, hQ⟩)
    | brk => obtain ⟨_, _, _, q⟩ := hs; exact False.elim q
    | cont => obtain ⟨_, _, _, q⟩ := hs; exact False.elim q
    | ret u =>
      obtain ⟨v, σ', H', hI, rv, ev, hQ⟩ := hs
      subst ev
      have eu : u = Value.none := rv
      subst eu
      exact seg_end (.ok (.ret .none)) (.inl ⟨.inl rfl, ys, [], σ', H', b, hI, hg, by omega, hQ⟩)
  exact main _ _ _ _ rfl rfl rfl fun h => Heap.get?_push_size _ rfl
/-! ### the receiver: a for whose body sets one name -/
section
variable {X : Cx} {pins : List (Addr × Obj)} {σ σ' : L2.St} {H : Hp} {s : Shared}
/-- only the frame's own names have changed -/
theorem inv_names {h' : Heap} {t' : Nat} (I : Inv X pins σ H s) (hs : Heap.SameBut X.env.locals s.heap h') (hl : σ'.length = X.N.length)
    (loc' : ∃ m, h'.Ns X.env.locals m ∧ ∀ (i : Nat) (x : Str) (v : V), X.N[i]? = some x → σ'[i]? = some (some v) → Vis X.env.scope x → ∃ u, RelV v u ∧ Look X.env h' m x u) : Inv X pins σ' H { s with heap := h', toks := t' } := by
  have young : ∀ b o, X.s_0.heap.get? b = some o → b ≠ X.env.locals := fun b o e => Nat.ne_of_lt (Nat.lt_of_lt_of_le (Heap.lt_size e) I.ok.above)
  refine ⟨I.ok, I.os, I.bare, ⟨fun b o e n hb hx => ?_, fun b o e n hb hx => ?_, I.base.free, fun b o e hx => ?_, I.base.tups, I.base.frzs, I.base.tbls⟩, loc', fun y c e => ?_, I.free, I.freeC, fun p hp => ?_, fun b ob e => ?_, hl⟩
  · rw [hs.2 b (young b o e)]
    exact I.base.keep b o e n hb hx
  · obtain ⟨sl, q⟩ := I.base.slot b o e n hb hx
    refine ⟨sl, ?_⟩
    rw [hs.2 b (young b o e)]
    exact q
  · obtain ⟨o', q⟩ := I.base.there b o e hx
    refine ⟨o', ?_⟩
    rw [hs.2 b (young b o e)]
    exact q
  · obtain ⟨v, o, q, d⟩ := I.cell y c e
    refine ⟨v, o, ?_, d⟩
    rw [hs.2 c (I.cne y c e)]
    exact q
  · obtain ⟨q1, q2, q3, q4, q5⟩ := I.pin p hp
    refine ⟨?_, q2, q3, q4, q5⟩
    rw [hs.2 p.1 q3]
    exact q1
  · refine (I.hok b ob e).stay (fun c u hc q => ?_) (fun _ q => q) fun _ _ q => q
    rw [hs.2 c (fun z => ?_)]
    · exact q
    · have fr := I.free
      rcases hc with hc | hc
      · rw [← hc, z, fr] at e
        cases e
      · rw [z, fr] at hc
        cases hc
theorem store3 {M : Model} {A : Around} {E : Value → Shared → Prop} {i : Nat} {x : Str} {v : V} {u : Value} {Q : Unit → Shared → Prop} (I : Inv X pins σ H s) (hN : X.N.Nodup) (hi : X.N[i]? = some x) (hk : X.env.kindOf x = some .local) (r : RelV v u)
    (h : ∀ s', Inv X pins (σ.set i (some v)) H s' → OneNs X.env.locals s s' → s'.gens = s.gens → Q () s') : wpAny M A (storeName X.env x u) Q E s := by
  obtain ⟨m, hn, hl⟩ := id I.loc
  have hcls : (X.env.scope.kind == .class || (X.env.scope.kind == .module && X.env.locals != X.env.globals)) = false := by
    rw [I.ok.kind]
    rfl
  refine wpAny_storeName_local hk hn (fun h' hn' hs => ?_) hcls
  refine h _ (inv_names I hs ((List.length_set ..).trans I.len) ⟨_, hn', fun j y v' e1 e2 e3 => ?_⟩) ⟨rfl, hs⟩ rfl
  by_cases hj : j = i
  · rw [hj, hi] at e1
    cases e1
    rw [hj, List.getElem?_set_self (by rw [I.len]; exact (List.getElem?_eq_some_iff.mp hi).1)] at e2
    cases e2
    exact ⟨u, r, .inl ⟨hk, if_pos rfl⟩⟩
  · rw [List.getElem?_set_ne (fun z => hj z.symm)] at e2
    obtain ⟨u', r', q⟩ := hl j y v' e1 e2 e3
    refine ⟨u', r', q.elim (fun q => .inl ⟨q.1, ?_⟩) fun ⟨q1, c, q2, o, q3, q4⟩ => .inr ⟨q1, c, q2, o, ?_, q4⟩⟩
    · exact (if_neg fun z : y = x => hj (nodup_ix hN e1 (z.symm ▸ hi))).trans q.2
    · rw [hs.2 c (I.cne y c q2)]
      exact q3
end
abbrev TGen3 := L2.St → Hp → (List V → Hp → Prop) → Prop
/-- an expression whose value is such a generator -/
structure PGen3 (X : Cx) (k : Nat) (e : Expr) (tg : TGen3) : Prop where
  run : ∀ (pins : List (Addr × Obj)) (s : Shared) (σ : L2.St) (H : Hp) (cont : List V → Hp → Prop), Inv X pins σ H s → tg σ H cont → wpAny (model X.prog X.w) X.A (eval e X.env) (fun u s' => ∃ H1 sc, Inv X pins σ H1 sc ∧ GMade3 X.prog X.w X.K X.mg X.base k X.stack H1 sc cont u s') X.xe s
section
variable {X : Cx} {k : Nat} {f : Addr} {fd : FuncData} {ps : List Str} {sp : Sp3} {x : Str} {p pos' : Pos}
theorem run_gfn3 {pins : List (Addr × Obj)} {σ : L2.St} {H : Hp} {s : Shared} {us : List Value} {vs : List V} {cont : List V → Hp → Prop} {E1 : Value → Shared → Prop} (F : GFn3 X.prog X.w X.K X.mg X.base k f fd ps sp) (hr : Room k X.A) (hb : Binds X.K fd ps [])
    (I : Inv X pins σ H s) (r : Vals vs us) (h : sp vs H cont) : wpAny (model X.prog X.w) X.A (call (.ref f) us) (fun u s' => ∃ H1 sc, Inv X pins σ H1 sc ∧ GMade3 X.prog X.w X.K X.mg X.base k X.stack H1 sc cont u s') E1 s := by
  have hl2 : us.length = ps.length := by rw [← r.length]; exact F.len _ _ _ h
  have hl3 : (us ++ []).length = ps.length := by rw [List.append_nil]; exact hl2
  have hb3 := hb s us I.kIn hl3
  rw [List.append_nil] at hb3
  refine wpAny_call (codeAny_mono (F.run X.A X.stack s H ⟨us, []⟩ us vs cont hr I.env0 hb3 r h) fun res s' hq => ?_)
  match res, hq with
  | .ok (.ret u), hq => exact ⟨H, s, I, hq⟩
  | .error _, hq => exact hq.elim
  | .ok .next, hq => exact hq.elim
  | .ok .brk, hq => exact hq.elim
  | .ok .cont, hq => exact hq.elim
def tCall3 (sp : Sp3) (t : TA) : TGen3 := fun σ H cont => t σ H fun vs H1 => sp vs H1 cont
theorem pgen3_call {e : Expr} {es : List Expr} {t : TA} (F : GFn3 X.prog X.w X.K X.mg X.base k f fd ps sp) (hr : Room k X.A) (hg : Gl X x) (hm : X.mg x = some (.ref f)) (hk : PySem.W.keepIn X.K (.ref f) = true) (hb : Binds X.K fd ps []) (ha : PA X (e :: es) t)
    (hdb : (x == ("__debug__" : Str)) = false := by decide) (he : starEach (e :: es) X.env = (false, eval e X.env) :: starEach es X.env := by rfl) (hpl : (backTo pos' (starEach es X.env)).any (·.1) = false := by rfl) : PGen3 X k (.Call (.Name x p) (e :: es) [] pos') (tCall3 sp t) := by
  refine ⟨fun pins s σ H cont I h => ?_⟩
  refine wpAny_Call_Name_kw (ld_glob I hg hm ?_ hdb)
  exact PySem.W.callWith_K (h₀ := X.base) I.ok.mod.kin hk (thn (ha.run pos' pins s σ H _ I h) fun us s1 ⟨vs, H1, I1, r, q⟩ => ⟨I1.kIn, run_gfn3 F hr hb I1 r q⟩) he hpl
end
/-- the names of the receiver as they stand -/
def NamesAt (X : Cx) (σ : L2.St) (h : Heap) : Prop := ∃ m, h.Ns X.env.locals m ∧ ∀ (i : Nat) (x : Str) (v : V), X.N[i]? = some x → σ[i]? = some (some v) → Vis X.env.scope x → ∃ u, RelV v u ∧ Look X.env h m x u
theorem NamesAt.at {X : Cx} {σ : L2.St} {h h' : Heap} (hc : ∀ x, X.env.cells.lookup x = none) (n : NamesAt X σ h) (e : ∀ o, h.get? X.env.locals = some o → ∃ o', h'.get? X.env.locals = some o' ∧ o'.data = o.data) : NamesAt X σ h' := by
  obtain ⟨m, ⟨o, es, ep, q1, q2, q3⟩, hl⟩ := n
  obtain ⟨o', q4, q5⟩ := e o q1
  refine ⟨m, ⟨o', es, ep, q4, q5.trans q2, q3⟩, fun i x v e1 e2 e3 => ?_⟩
  obtain ⟨u, r, hk⟩ := hl i x v e1 e2 e3
  refine ⟨u, r, ?_⟩
  rcases hk with hk | ⟨_, c, hcc, _⟩
  · exact .inl hk
  · rw [hc x] at hcc
    cases hcc
section
variable {X : Cx} {N : List Str} {qual : Str} {scope : Scope} {f : Addr} {cd : Value} {A : Around} {n : Nat} {pn : List (Addr × Obj)}
/-- what the receiver knows where the generator has handed out or has ended -/
theorem received {pins ip : List (Addr × Obj)} {σ σ' σg : L2.St} {H1 Hg : Hp} {sc b sg : Shared} (hc : ∀ x, X.env.cells.lookup x = none) (hex : X.ex = []) (hstk : X.stack = X.env :: X.outer) (hfr : X.env.frame = some X.env.locals) (I1 : Inv X pins σ H1 sc)
    (Iv : Inv (vcx X.prog X.w X.K X.mg X.base N qual scope f cd A X.stack n H1 pn b) ip σg Hg sg) (h1 : OneNs X.env.locals sc b) (nm : NamesAt X σ' b.heap) (hl : σ'.length = X.N.length) : Inv X pins σ' Hg sg := by
  have fs : frs X.stack = X.env.locals :: X.fs := by
    rw [hstk]
    unfold frs
    rw [List.filterMap_cons, hfr]
    rfl
  have nex : ∀ y : Addr, y ∉ ([] : List Addr) := fun y h => by cases h
  have young : ∀ y o, X.s_0.heap.get? y = some o → y ≠ X.env.locals := fun y o e => Nat.ne_of_lt (Nat.lt_of_lt_of_le (Heap.lt_size e) I1.ok.above)
  have inb : ∀ y o, y ≠ X.env.locals → sc.heap.get? y = some o → b.heap.get? y = some o := fun y o hy e => (h1.same.2 y hy).trans e
  obtain ⟨m, ⟨oL, es, ep, q1, q2, q3⟩, hlk⟩ := id nm
  have inL : X.env.locals ∈ frs X.stack := by rw [fs]; exact List.mem_cons_self
  obtain ⟨sl, eL⟩ := Iv.base.slot X.env.locals oL q1 I1.free inL (nex _)
  have notfs : ∀ y, y ≠ X.env.locals → y ∉ X.fs → y ∉ frs X.stack := fun y h2 h3 h4 => by
    rw [fs] at h4
    rcases List.mem_cons.mp h4 with h4 | h4
    · exact h2 h4
    · exact h3 h4
  refine ⟨I1.ok, Iv.os.trans (h1.os.trans I1.os), Iv.bare, ⟨fun y o e h0 hf hx => ?_, fun y o e h0 hf hx => ?_, fun y o e h0 hx => ?_, fun y o e hx => ?_, fun y xs e => Iv.base.tups y xs (I1.base.tups y xs e), fun y o u e => Iv.base.frzs y o u (I1.base.frzs y o u e), fun y qs e => ?_⟩,
    nm.at hc (fun o e => ?_), fun x c e => ?_, Iv.base.free X.env.locals oL q1 I1.free (nex _), fun x c e => ?_, fun p hp => ?_, Iv.hok, hl⟩
  · exact Iv.base.keep y o (inb y o (young y o e) (I1.base.keep y o e h0 hf hx)) (I1.base.free y o e h0 hx) (notfs y (young y o e) hf) (nex _)
  · obtain ⟨s2, e2⟩ := I1.base.slot y o e h0 hf hx
    obtain ⟨s3, e3⟩ := Iv.base.slot y _ (inb y _ (young y o e) e2) (I1.base.free y o e h0 hx) (show y ∈ frs X.stack by rw [fs]; exact List.mem_cons_of_mem _ hf) (nex _)
    exact ⟨s3, e3⟩
  · obtain ⟨o2, e2⟩ := I1.base.there y o e hx
    exact Iv.base.free y o2 (inb y o2 (young y o e) e2) (I1.base.free y o e h0 hx) (nex _)
  · obtain ⟨o2, e2⟩ := I1.base.there y o e hx
    exact Iv.base.there y o2 (inb y o2 (young y o e) e2) (nex _)
  · obtain ⟨m1, e1⟩ := I1.base.tbls y qs e
    obtain ⟨m2, e2⟩ := Iv.base.tbls y _ e1
    exact ⟨m1 ++ m2, by rw [e2]; exact congrArg (fun z => some (HO.tbl z)) (Array.append_assoc ..)⟩
  · rw [q1] at e
    cases e
    exact ⟨_, eL, rfl⟩
  · rw [hc x] at e
    cases e
  · rw [hc x] at e
    cases e
  · obtain ⟨p1, p2, p3, p4, p5⟩ := I1.pin p hp
    exact ⟨Iv.base.keep p.1 p.2 (inb p.1 p.2 p3 p1) p2 (notfs p.1 p3 p4) (nex _), Iv.base.free p.1 p.2 (inb p.1 p.2 p3 p1) p2 (nex _), p3, p4, p5⟩
end
/-- the receiver's names behind `for x in g: y = x`, x at i, y at j -/
def lastS (i j : Nat) (σ : L2.St) (ys : List V) : L2.St := match ys.getLast? with
  | none => σ
  | some v => (σ.set i (some v)).set j (some v)
theorem lastS_len {i j : Nat} {σ : L2.St} {ys : List V} : (lastS i j σ ys).length = σ.length := by
  unfold lastS
  split
  · rfl
  · rw [List.length_set, List.length_set]
theorem lastS_snoc {i j : Nat} {σ : L2.St} {ys : List V} {v : V} : ((lastS i j σ ys).set i (some v)).set j (some v) = lastS i j σ (ys ++ [v]) := by
  have e2 : lastS i j σ (ys ++ [v]) = (σ.set i (some v)).set j (some v) := by
    unfold lastS
    rw [List.getLast?_concat]
  rw [e2]
  unfold lastS
  split
  · rfl
  · rename_i u _
    refine List.ext_getElem? fun l => ?_
    simp only [List.getElem?_set, List.length_set]
    by_cases h1 : j = l
    · simp [h1]
    · by_cases h2 : i = l
      · simp [h1, h2]
      · simp [h1, h2]
def tFor3 (tg : TGen3) (i j : Nat) : TS := fun D σ H => tg σ H fun ys H' => D.nx (lastS i j σ ys) H'
theorem ps_for3 {X : Cx} {k : Nat} {i j : Nat} {x y : Str} {iter : Expr} {tg : TGen3} {px py pz pa pos : Pos} (h : PGen3 X k iter tg) (hr : Room (k + 2) X.A) (hN : X.N.Nodup) (hi : X.N[i]? = some x) (hj : X.N[j]? = some y) (hx : X.env.kindOf x = some .local) (hy : X.env.kindOf y = some .local)
    (hc : ∀ x, X.env.cells.lookup x = none) (hex : X.ex = []) (hstk : X.stack = X.env :: X.outer) (hfr : X.env.frame = some X.env.locals) (hp : PassesOwn (model X.prog X.w) X.A X.env X.xe) (hdb : (x == ("__debug__" : Str)) = false := by decide)
    (hs : ∀ x, foldedSetIterable iter X.env x = pure x := by intro _; rfl) (hsw : swapsWith (.Name x pz) (some (.Name y py)) pa.line X.env = pure false := by rfl) : PS X (.For (.Name x px) iter [.Assign [.Name y py] (.Name x pz) pa] [] pos) (tFor3 tg i j) := by
  refine ⟨fun pins s σ H D I hq => ?_⟩
  refine wpAny_For (thn (h.run pins s σ H _ I hq) fun u s1 ⟨H1, sc, I1, hG⟩ => ?_) hs
  obtain ⟨a, g, body, N, qual, scope, f, cd, go, σ0, rfl, hgo, hgen, hgs, hos, hba, hkp, hsza, wake⟩ := hG
  obtain ⟨hI0, hseg⟩ := wake X.A.in1 ((hr.mono (by omega : k + 1 ≤ k + 2)).in1) I1.ok.frames
  refine wpAny_pyIter_gen (hgen _ hgo) ?_
  have ltL : X.env.locals < sc.heap.objs.size := I1.lt
  have neaL : a ≠ X.env.locals := Nat.ne_of_gt (Nat.lt_of_lt_of_le ltL hsza)
  have lenσ := I1.len
  have inL : X.env.locals ∈ frs X.stack := by
    rw [hstk]
    unfold frs
    rw [List.filterMap_cons, hfr]
    exact List.mem_cons_self
  let Gh : List V → Shared → Prop := fun ys b => OneNs X.env.locals sc b ∧ NamesAt X (lastS i j σ ys) b.heap
  have hsz : ∀ ys b, Gh ys b → b.heap.objs.size = sc.heap.objs.size := fun ys b q => q.1.same.1
  have gh0 : Gh [] sc := ⟨⟨rfl, .refl _ _⟩, I1.loc⟩
  let Fv := vcx X.prog X.w X.K X.mg X.base N qual scope f cd X.A.in1 X.stack sc.heap.objs.size H1 [(a, go)]
  let cont : List V → Hp → Prop := fun ys H' => D.nx (lastS i j σ ys) H'
  -- the state of the loop
  refine codeAny_forLoop_any (fun l s' => ∃ gs, s'.gens[g]? = some gs ∧ s'.heap.get? a = some go ∧ s'.heap.NoLimit ∧ gs.Goes (model X.prog X.w) X.A.in1 (GR3 Fv Gh cont) (GY3 Fv Gh) l (.send .none) (s'.setGen g .running)) ?_ sizeLine ⟨_, hgs, hgo, hI0.nolimit, ⟨rfl, ?_⟩⟩
  · rintro l s0 ⟨gs, hgs0, hgo0, hlim, hgoes⟩
    have hgl : g + 1 ≤ s0.gens.size := (Array.getElem?_eq_some_iff.mp hgs0).1
    refine wpAny_gsz (n := g + 1) hgl (next_genG (A := X.A) (F := fun _ _ s1 => ∃ (ys : List V) (ip : List (Addr × Obj)) (σ : L2.St) (H : Hp) (b : Shared), Inv (Fv b) ip σ H s1 ∧ Gh ys b ∧ ys.length ≤ sizeLine ∧ cont ys H) (Er := fun _ _ => False) hr.hd hlim
      (by have := hr.dp; omega) (hgen _ hgo0) hgs0 hgoes (fun v s₁ gs' hbare hv => ?_) (fun s₁ hfin h' hk => ?_) fun e s₁ he => he.elim)
    · intro hsz1
      obtain ⟨ys, xv, ip, σg, Hg, b, hm, rv, Iv, hgb, hk⟩ := hv
      have Ir := received hc hex hstk hfr I1 Iv hgb.1 hgb.2 (lastS_len.trans lenσ)
      have Ic : Inv X pins (lastS i j σ ys) Hg (s₁.setGen g gs') := ⟨Ir.ok, Ir.os, allBare_setGen Ir.bare hbare, Ir.base, Ir.loc, Ir.cell, Ir.free, Ir.freeC, Ir.pin, Ir.hok, Ir.len⟩
      show wpAny _ _ (letOwnedTupleGo (.Name x px) (.ref a) v) _ _ _
      refine wpAny_of_eq (a := ()) (by cases v <;> rfl) ?_
      refine wpAny_assign_Name (store3 Ic hN hi hx rv fun s2 I2 o2 g2 => ?_)
      obtain ⟨m2, hn2, hl2⟩ := id I2.loc
      have hil : i < (lastS i j σ ys).length := by rw [Ic.len]; exact (List.getElem?_eq_some_iff.mp hi).1
      obtain ⟨u2, r2, lk⟩ := hl2 i x xv hi (List.getElem?_set_self hil) (.inl hx)
      have hm2 : m2 x = some u2 := by
        rcases lk with lk | ⟨lk, _⟩
        · exact lk.2
        · rw [hx] at lk
          rcases lk with lk | lk <;> cases lk
      refine wpAny_execs_cons (wpAny_Assign_Name (wpAny_Name (wpAny_loadName_local I2.ok.kind hx hn2 hm2 ?_) hdb) hsw)
      refine store3 I2 hN hj hy r2 fun s3 I3 o3 g3 => wpAny_execs_nil ?_
      obtain ⟨m3, ⟨oL, es, ep, eL, dL, pL⟩, hl3⟩ := id I3.loc
      obtain ⟨mb, ⟨ob, esb, epb, ebL, _⟩, _⟩ := id hgb.2
      have eb : (b.heap.update X.env.locals (fun _ => oL)).get? X.env.locals = some oL := Heap.get?_update_self (fun _ => oL) ebL (Heap.get?_some_iff.mp eL).2
      have ob1 : OneNs X.env.locals b { b with heap := b.heap.update X.env.locals (fun _ => oL) } := ⟨rfl, .update _ _ _⟩
      have os3 : OneNs X.env.locals s₁ (s3.setGen g .running) := ⟨o3.os.trans o2.os, o2.same.trans o3.same⟩
      have Iv3 := vcx_again Iv inL ob1 os3 (allBare_setGen I3.bare rfl) eb (show (s3.setGen g .running).heap.get? X.env.locals = some oL from eL) fun vs z => by rw [dL] at z; cases z
      have gh3 : Gh (ys ++ [xv]) { b with heap := b.heap.update X.env.locals (fun _ => oL) } := by
        refine ⟨⟨hgb.1.os, hgb.1.same.trans (.update _ _ _)⟩, ?_⟩
        have nm3 : NamesAt X (lastS i j σ (ys ++ [xv])) s3.heap := by
          rw [← lastS_snoc]
          exact I3.loc
        refine nm3.at hc fun o e => ?_
        rw [eL] at e
        cases e
        exact ⟨_, eb, rfl⟩
      have hkk := hk _ _ gh3 Iv3
      have hpa := (Iv.pin (a, go) (List.mem_append_left _ (List.mem_singleton.mpr rfl))).1
      have hgs3 : s3.gens[g]? = some gs' := by
        rw [g3, g2]
        refine setGen_at ?_
        have q : (s₁.setGen g gs').gens.size = s₁.gens.size := setGen_size _ _ _
        omega
      cases l with
      | zero => exact hkk.elim
      | succ l => exact ⟨l, Nat.lt_succ_self _, gs', hgs3, (os3.same.2 a neaL).trans hpa, I3.nolimit, hkk⟩
    · intro hsz1
      obtain ⟨ys, ip, σg, Hg, b, Iv, hgb, hle, hqq⟩ := hfin
      have Ir := received hc hex hstk hfr I1 Iv hgb.1 hgb.2 (lastS_len.trans lenσ)
      refine wpAny_execs_nil ⟨lastS i j σ ys, Hg, ?_, hqq⟩
      exact Ir.call' (ch := []) rfl (Un.kept hk) (Ir.hok.kept hk) (allBare_setGen Ir.bare rfl) fun b z => by simp at z
  · refine hseg Gh _ hsz gh0 ?_
    exact ⟨hI0.ok, hI0.os, allBare_setGen hba rfl, hI0.base, hI0.loc, hI0.cell, hI0.free, hI0.freeC, hI0.pin, hI0.hok, hI0.len⟩
theorem fun_gen3 {P : Program} {w : World} {K : PySem.W.Frag} {mg : Str → Option Value} {base : Heap} {x qual : Str} {st : Stmt} {f : Addr} {fd : FuncData} {N ps : List Str} {k : Nat} {sp : Sp3} (F : Fun K x qual st f fd) (S : GScope N ps (defScope st)) (len : ∀ vs H Q, sp vs H Q → vs.length = ps.length)
    (hbody : ∀ (cdv : Value) (A : Around) (outer : List Env) (s : Shared) (H : Hp) (vs : List V) (Q : List V → Hp → Prop) (pn : List (Addr × Obj)), Room k (A.deeper (envOfC qual (defScope st) s.heap.objs.size f cdv)) → sp vs H Q →
      ∃ t : TG3, GB P w K mg base N qual (defScope st) f cdv A outer s.heap.objs.size H pn (defBody st) t ∧ t s { nx := fun ys _ H' => Q ys H', rt := fun ys v H' => v = .non ∧ Q ys H' } [] (start N vs) H) : GFn3 P w K mg base (k + 1) f fd ps sp := by
  obtain ⟨oc, od, kV, doc, pm, an, cdv, ct, osl, rfl, lk, hcd⟩ := F.ex
  exact gfn3_of lk hcd S len fun A outer s H vs Q pn hr hsp => hbody cdv A outer s H vs Q pn hr hsp

end
/-! ### defs that run where no guard of a text under construction lies on the stack (str() of a list) -/
structure FnG (P : Program) (w : World) (K : PySem.W.Frag) (mg : Str → Option Value) (base : Heap) (CX : CXT) (k : Nat) (f : Addr) (fd : FuncData) (ps : List Str) (sp : Sp) : Prop where
  size : ∀ vs H Q E, sp vs H Q E → vs.length = ps.length
  goes : ∀ (A : Around) (outer : List Env) (sh : Shared) (H : Hp) (as : Args) (us : List Value) (vs : List V) (Q : VK) (E : XK), A.guards = some [] → Room k A → Env0 P w K mg base A outer sh H → BindsTo sh fd as (ps.zip us) → Vals vs us → sp vs H Q E →
    codeAny (model P w) A (.call (.ref f) as) (CR CX outer P w H sh Q E) sh
section
variable {P : Program} {w : World} {K : PySem.W.Frag} {mg : Str → Option Value} {base : Heap}
theorem FnG.of {CX : CXT} {k : Nat} {f : Addr} {fd : FuncData} {ps : List Str} {sp : Sp} (F : FnOk P w K mg base CX k f fd ps sp) : FnG P w K mg base CX k f fd ps sp :=
  ⟨F.len, fun A outer sh H as us vs Q E _ => F.run A outer sh H as us vs Q E⟩
theorem FnG.mono {CX : CXT} {j k : Nat} {f : Addr} {fd : FuncData} {ps : List Str} {sp : Sp} (F : FnG P w K mg base CX j f fd ps sp) (h : j ≤ k) : FnG P w K mg base CX k f fd ps sp :=
  ⟨F.size, fun A outer sh H as us vs Q E hg hr => F.goes A outer sh H as us vs Q E hg (hr.mono h)⟩
/-- a def by its body, no guard below -/
theorem fun_okG {x qual : Str} {st : Stmt} {f : Addr} {fd : FuncData} {N ps : List Str} {k : Nat} {sp : Sp} (F : Fun K x qual st f fd) (S : FnScope N ps (defScope st)) (size : ∀ vs H Q E, sp vs H Q E → vs.length = ps.length)
    (body : ∀ (cdv : Value) (A : Around) (outer : List Env) (sh : Shared) (H : Hp) (vs : List V) (Q : VK) (E : XK), (A.deeper (envOfC qual (defScope st) sh.heap.objs.size f cdv)).guards = some [] → Room k (A.deeper (envOfC qual (defScope st) sh.heap.objs.size f cdv)) → sp vs H Q E →
      ∃ t, PSs (cxOf CX0 P w K mg base N qual (defScope st) f cdv A outer sh H E).nox (defBody st) t ∧ t { nx := fun _ J => Q .non J, rt := Q } (L2.start N vs) H) : FnG P w K mg base CX0 (k + 1) f fd ps sp := by
  obtain ⟨oc, od, kV, doc, pm, an, cdv, ct, osl, rfl, lk, hcd⟩ := F.ex
  refine ⟨size, fun A outer sh H as us vs Q E hg hr en bd rl hs => ?_⟩
  have inK : K.In sh.heap := en.mod.kin.keeps fun b o e => (en.bs b o e).1
  have noLim : sh.heap.NoLimit := en.mod.nolimit.keeps fun b o e => (en.bs b o e).1
  have known : ∀ y ∈ ps.zip us, (defScope st).names.lookup y.1 = some .local ∨ ((defScope st).names.lookup y.1 = some .cell ∧ ((cellsFrom (sh.heap.objs.size + 1) (defScope st).names []).lookup y.1).isSome = true) := by
    rintro ⟨n, v⟩ hy
    exact (S.par n (List.of_mem_zip hy).1).elim .inl fun q => .inr ⟨q, PySem.W.cellsFrom_some _ _ _ (.inl q)⟩
  refine codeAny_call_function hr.depth (inK _ _ lk) rfl S.co S.gen rfl (PySem.W.codeRec_of inK hcd) (bd _ _ _ _ ?_)
  refine wpAny_newFunctionEnv_cells S.kind known fun env he s1 nw => ?_
  subst he
  refine ⟨noLim.keeps nw.toInCall.keep, codeAny_func ?_⟩
  obtain ⟨t, ht, tq⟩ := body cdv A outer sh H vs Q E hg (hr.deeper _) hs
  refine wpAny_mono (ht.nox.run [] s1 (L2.start N vs) H _ (inv_start S hr.hd en (size _ _ _ _ hs) rl nw) tq) (fun fl s' out => ?_) fun e s' out => out
  match fl, out with
  | .ret u, ⟨v, _, J, I2, rv, q⟩ => exact ⟨v, J, I2.os, I2.bare, I2.base, I2.hok, rv, q⟩
  | .next, ⟨_, J, I2, q⟩ => exact ⟨V.non, J, I2.os, I2.bare, I2.base, I2.hok, rfl, q⟩
  | .brk, ⟨_, _, _, q⟩ => exact q.elim
  | .cont, ⟨_, _, _, q⟩ => exact q.elim
end
section
variable {X : Cx} {CX : CXT} {k : Nat} {f : Addr} {fd : FuncData} {ps : List Str} {sp : Sp} {x : Str} {p pos : Pos} {e : Expr} {es : List Expr} {t : TA}
/-- f(e, ..) of such a def, where no guard lies -/
theorem pe_callG (hgd : X.A.guards = some []) (F : FnG X.prog X.w X.K X.mg X.base CX0 k f fd ps sp) (hr : Room k X.A) (hg : Gl X x) (hm : X.mg x = some (.ref f)) (hk : PySem.W.keepIn X.K (.ref f) = true) (hb : Binds X.K fd ps [])
    (ha : PA X (e :: es) t) (hdb : (x == ("__debug__" : Str)) = false := by decide) (he : starEach (e :: es) X.env = (false, eval e X.env) :: starEach es X.env := by rfl) (hpl : (backTo pos (starEach es X.env)).any (·.1) = false := by rfl) :
    PE X (.Call (.Name x p) (e :: es) [] pos) (tCall sp [] E0 t) := by
  constructor
  intro pins sh σ H Q I h
  refine wpAny_Call_Name_kw (ld_glob I hg hm (PySem.W.callWith_K (h₀ := X.base) I.ok.mod.kin hk (thn (ha.run pos pins sh σ H _ I h) fun us s1 out => ?_) he hpl) hdb)
  obtain ⟨vs, J, I1, r, q⟩ := out
  refine ⟨I1.kIn, ?_⟩
  have q : sp (vs ++ []) J Q E0 := q
  rw [List.append_nil] at q
  have n1 : us.length = ps.length := by rw [← r.length]; exact F.size _ _ _ _ q
  have bd := hb s1 us I1.kIn (by rw [List.append_nil]; exact n1)
  rw [List.append_nil] at bd
  refine wpAny_call (codeAny_mono (F.goes X.A X.stack s1 J ⟨us, []⟩ us vs Q E0 hgd hr I1.env0 bd r q) fun res s' out => ?_)
  match res, out with
  | .ok (.ret u), out => exact I1.after out
  | .error _, out => exact out.elim
  | .ok .next, out => exact out.elim
  | .ok .brk, out => exact out.elim
  | .ok .cont, out => exact out.elim
end

/-! ### the law's call, no guard below -/
section
variable {P : Program} {w : World} {K : PySem.W.Frag} {mg mb : Str → Option Value} {k : Nat} {fa a : Addr} {fd : FuncData} {x : Str} {sp : Sp} {sh : Shared} {scr : List Value} {ns : List Int}
/-- what the law's call must leave -/
abbrev LawEnd (sh : Shared) (res : Result) (s' : Shared) : Prop := res = .ok (.ret (.bool true)) ∧ OldK sh.heap s'.heap ∧ s'.os = sh.os ∧ AllBare s'.gens
theorem law_goesG {H : Hp} (inK : K.In sh.heap) (gl : sh.heap.Ns mainGlobals mg) (bl : sh.heap.Ns builtinsNs mb) (boot : ∀ y : Str, y ≠ "__name__" → mb y = bootBuiltins y) (noLim : sh.heap.NoLimit) (noG : sh.gens = #[])
    (at_ : sh.heap.get? a = some { cls := .type "list", data := .seq scr.toArray }) (room : Room k callerA) (F : ∀ base : Heap, K.In base → base.Ns mainGlobals mg → FnG P w K mg base CX0 k fa fd [x] sp) (bd : ∀ (s : Shared) (u : Value), BindsTo s fd ⟨[u], []⟩ [(x, u)])
    (only : Only H) (hok : HOk P w H sh.heap) (alone : ∀ b, H b ≠ none → b = a) (apart : H a ≠ none → K.lookup a = none) (wish : sp [.ref a] H (fun v _ => v = .bl true) E0) : codeAny (model P w) callerA (.call (.ref fa) ⟨[.ref a], []⟩) (LawEnd sh) sh := by
  have untracked : ∀ {b : Addr} {o : Obj} {es : Array DictEntry} {ep : Nat}, sh.heap.get? b = some o → o.data = .dict es ep → H b = none := fun {b o es ep} g d => by
    by_cases z : H b = none
    · exact z
    · rw [alone b z, at_] at g
      cases g
      exact Data.noConfusion d
  have names : ∀ {b : Addr} {m : Str → Option Value}, sh.heap.Ns b m → (hidT sh.heap H).Ns b m := fun {b m} n => by
    obtain ⟨o, es, ep, g, d, r⟩ := n
    exact ⟨o, es, ep, hidT_get g (untracked g d), d, r⟩
  have inB : K.In (hidT sh.heap H) := fun b o g => by
    refine hidT_get (inK b o g) ?_
    by_cases z : H b = none
    · exact z
    · rw [alone b z] at g z
      rw [apart z] at g
      cases g
  have md : Mod K mg (hidT sh.heap H) := by
    obtain ⟨mc, h1, h2⟩ := noLim
    exact ⟨inB, names gl, ⟨mb, names bl, boot⟩, ⟨mc, names h1, h2⟩⟩
  have none0 : ∀ b : Addr, b ∈ ([] : List Addr) → False := fun b h => by cases h
  have en : Env0 P w K mg (hidT sh.heap H) callerA [] sh H := ⟨rfl, md, fun b o g => of_hidT g, Nat.le_of_eq (hidT_size _ _), trivial, fun b h => (none0 b h).elim, hok, .of_eq noG⟩
  refine codeAny_mono ((F _ inB (names gl)).goes callerA [] sh H ⟨[.ref a], []⟩ [.ref a] [.ref a] _ _ rfl room en (bd sh (.ref a)) (.cons rfl .nil) wish) fun res s' out => ?_
  match res, out with
  | .ok (.ret u), out =>
    obtain ⟨v, J, os, bare, un, ok', rv, tv⟩ := out
    have tv : v = .bl true := tv
    subst tv
    have eu : u = Value.bool true := rv
    subst eu
    refine ⟨rfl, OldK.of_keep fun b o g => ?_, os, bare⟩
    rcases only b with z | ⟨ob, xs, z⟩
    · exact un.keep b o g z (fun h => none0 b h) (fun h => by cases h)
    · have o1 := (hok b _ z).1
      have o2 := (ok' b _ (un.frzs b ob _ z)).1
      rw [g] at o1
      cases o1
      exact o2
  | .error _, out => exact out.elim
  | .ok .next, out => exact out.elim
  | .ok .brk, out => exact out.elim
  | .ok .cont, out => exact out.elim
/-- the script is an object of the module, or one that stands still -/
theorem law_callG (inK : K.In sh.heap) (gl : sh.heap.Ns mainGlobals mg) (bl : sh.heap.Ns builtinsNs mb) (boot : ∀ y : Str, y ≠ "__name__" → mb y = bootBuiltins y) (noLim : sh.heap.NoLimit) (noG : sh.gens = #[])
    (at_ : sh.heap.get? a = some { cls := .type "list", data := .seq scr.toArray }) (nums : IntsAre scr ns) (short : ns.length ≤ sizeLine) (room : Room k callerA) (F : ∀ base : Heap, K.In base → base.Ns mainGlobals mg → FnG P w K mg base CX0 k fa fd [x] sp)
    (bd : ∀ (s : Shared) (u : Value), BindsTo s fd ⟨[u], []⟩ [(x, u)]) (wish : ∀ H : Hp, Only H → SqL K H a (ns.map V.int) → sp [.ref a] H (fun v _ => v = .bl true) E0) : codeAny (model P w) callerA (.call (.ref fa) ⟨[.ref a], []⟩) (LawEnd sh) sh := by
  have vals := vals_ints nums
  have same := nums.length
  by_cases hk : K.lookup a = none
  · let ob : Obj := { cls := .type "list", data := .seq scr.toArray }
    let H : Hp := fun b => if b = a then some (.frz ob (.lst (ns.map V.int))) else none
    have hA : H a = some (.frz ob (.lst (ns.map V.int))) := if_pos rfl
    have hN : ∀ b, b ≠ a → H b = none := fun b z => if_neg z
    have only : Only H := fun b => (Decidable.em (b = a)).elim (fun z => .inr ⟨ob, _, z ▸ hA⟩) fun z => .inl (hN b z)
    refine law_goesG inK gl bl boot noLim noG at_ room F bd only (fun b u z => ?_) (fun b z => Classical.byContradiction fun n => z (hN b n)) (fun _ => hk) (wish H only (.inl (.inr ⟨ob, hA⟩)))
    by_cases e : b = a
    · subst e
      rw [hA] at z
      cases z
      exact ⟨at_, by rw [List.length_map]; exact short, scr, _, vals, at_⟩
    · rw [hN b e] at z
      cases z
  · obtain ⟨o, ho⟩ := Option.ne_none_iff_exists'.mp hk
    have g := inK a o ho
    rw [at_] at g
    cases g
    refine law_goesG (H := fun _ => none) inK gl bl boot noLim noG at_ room F bd (fun _ => .inl rfl) (fun b u z => by cases z) (fun b z => absurd rfl z) (fun z => absurd rfl z) (wish _ (fun _ => .inl rfl) (.inr ⟨_, scr.toArray, _, ho, rfl, rfl, rfl, ?_, ?_⟩))
    · rw [List.size_toArray, same]
      exact short
    · simpa using vals
end
theorem walk_ofG {l : PySem.W.OpenLaw} {n k : Nat} {q : Program} {loose : List Str} {XP : (Str → Option Value) → Heap → Prop} {YP : World → Heap → Prop} {d : DefRec} {K : Params → PySem.W.Frag} {sp : World → Sp} {x : Str}
    (most : l.most = some n) (small : n ≤ sizeLine) (plain : d.params.defaults = []) (room : Room k callerA) (inY : ∀ (w : World) (h : Heap), YP w h → (K w.params).In h)
    (F : ∀ (w : World) (mg : Str → Option Value) (fa : Addr) (h : Heap), (K w.params).In h → h.Ns mainGlobals mg → mg d.name = some (.ref fa) → ∃ fd : FuncData, (∀ (s : Shared) (u : Value), BindsTo s fd ⟨[u], []⟩ [(x, u)]) ∧
      ∀ base : Heap, (K w.params).In base → base.Ns mainGlobals mg → FnG l.prog w (K w.params) mg base CX0 k fa fd [x] (sp w))
    (wish : ∀ (w : World) (H : Hp) (a : Addr) (ns : List Int), ns.length ≤ n → Only H → SqL (K w.params) H a (ns.map V.int) → sp w [.ref a] H (fun v _ => v = .bl true) E0) : PySem.W.WalkO q loose XP YP l.row.toRowW d [] (fun f vs => PySem.call f vs) := by
  refine Att.attach_call most plain ?_
  intro w _ sh mg mb fa _ _ _ _ a scr ns G Y _ _ _ hmg at_ nums len noG
  obtain ⟨fd, bd, hF⟩ := F w mg fa _ (inY w _ Y) G.T.g hmg
  exact law_callG (inY w _ Y) G.T.g G.T.b G.T.builtins G.T.nolimit noG at_ nums (Nat.le_trans len small) room hF bd fun H o s => wish w H a ns len o s

/-! ### str() of a list, where no guard lies -/
def rStrD (K : PySem.W.Frag) : List V → Hp → VK → Prop := fun xs H Q => ∃ (a : Addr) (d : PyData), xs = [.ref a] ∧ Dp K H (.ref a) d ∧ d.showable = true ∧ d.hasDict = false ∧ d.depth ≤ 40 ∧ d.shown.length ≤ sizeLine ∧ Q (.str d.shown) H
theorem call_strG {X : Cx} {K : PySem.W.Frag} (hgd : X.A.guards = some []) (hu : X.A.units + 64 < cLine) (hK : X.K = K := by rfl) : CallR X (.type "str") (rStrD K) := by
  subst hK
  intro pins s σ H xs us Q I rx h
  obtain ⟨a, d, rfl, hd, h1, h2, h3, h4, q⟩ := h
  cases rx with
  | cons r1 r2 =>
    cases r2
    obtain rfl : _ = Value.ref a := r1
    obtain ⟨as, rd⟩ := Dp.reads I d (.ref a) _ hd rfl
    exact str_of_reads rd h1 (PyData.noDict_hsm h2) hgd (by omega) (fun b o e => e) (fun h' u tk hk => ⟨.str d.shown, H, I.kept (t' := tk) fun b ob e => hk b ob e, ⟨u, rfl⟩, q⟩) h4

/-! ### a += b of lists, in place -/
theorem fi_list : fillsInplaceSlot (.type "list") "add" (Operator.Add == .Add) = pure false := by
  unfold fillsInplaceSlot
  show (typeLookup (.type "list") (dunderI "add") >>= fun fi => pure (fi.isSome && !isSeqSlot fi)) = pure false
  rw [typeLookup_type, builtinLookup_eq_fast]
  kernel_rfl
theorem fn_list : fillsNumberSlot (.type "list") "add" = pure false := by
  unfold fillsNumberSlot
  simp only [typeLookup_type, builtinLookup_eq_fast]
  kernel_rfl
theorem si_list : seqSlot? (.type "list") (dunderI "add") = pure (some (.builtin "list.__iadd__")) := by
  unfold seqSlot?
  simp only [typeLookup_type, builtinLookup_eq_fast]
  kernel_rfl
theorem inplace_list {M : Model} {A : Around} {E : Value → Shared → Prop} {s : Shared} {a b : Value} {Q : Value → Shared → Prop} (ha : s.TypeIs a "list") (hb : s.TypeIs b "list") (hc : wpAny M A (call (.builtin "list.__iadd__") [a, b]) Q E s) : wpAny M A (inplaceOp .Add a b) Q E s := by
  unfold inplaceOp
  refine wpAny_holding (wpAny_bind (wpAny_typeOf ha (wpAny_bind (wpAny_of_eq fi_list ?_))))
  show wpAny M A (if false = true then _ else _) Q E s
  rw [if_neg Bool.false_ne_true]
  exact wpAny_bind (wpAny_binaryOp1_none (nm := "add") ha hb fn_list (wpAny_bind (wpAny_of_eq si_list (wpAny_bind (wpAny_rule hc)))))
def rIAddL : V → V → Hp → VK → Prop := fun x y H Q => ∃ (l b : Addr) (xs zs : List V), x = .ref l ∧ y = .ref b ∧ H l = some (.lst xs) ∧ H b = some (.lst zs) ∧ xs.length + zs.length ≤ sizeLine ∧ Q (.ref l) (upd H l (.lst (xs ++ zs)))
theorem in_addL {X : Cx} : InOp X .Add rIAddL := by
  rintro pins s σ H x y u v Q I rx ry ⟨l, b, xs, zs, rfl, rfl, h1, h2, hz, q⟩
  obtain rfl : u = Value.ref l := rx
  obtain rfl : v = Value.ref b := ry
  obtain ⟨z1, i1, n1, r1, l1, e1⟩ := I.lstM h1
  obtain ⟨z2, i2, n2, r2, l2, e2⟩ := I.lstM h2
  have sz : i1.toArray.size + i2.toArray.size ≤ sizeLine := by rw [List.size_toArray, List.size_toArray]; omega
  have short : ¬ (!i1.toArray.isEmpty && Builtin.List.listTooLong (i1.toArray.size + i2.toArray.size)) = true := by
    rw [notLongL sz, Bool.and_false]
    exact Bool.false_ne_true
  refine inplace_list ⟨_, e1, rfl⟩ ⟨_, e2, rfl⟩ (call_meets F.slot_list_iadd ⟨_, e1, rfl⟩ F.entry_list_iadd (F.args_list_iadd_2 _ _) (AutoSeq1.list___iadd___list_list_0 l i1.toArray n1 b i2.toArray n2 short (by rw [List.size_toArray]; omega) (by omega)) ⟨e1, e2, ?_⟩)
  refine ⟨.ref l, _, I.lset (its' := i1 ++ i2) h1 e1 (by simp) (r1.append r2) ?_, rfl, q⟩
  rw [List.length_append]
  omega

section
variable {P : Program} {w : World} {K : PySem.W.Frag} {mg : Str → Option Value} {base : Heap}
--SPLIT



def topS (i : Nat) : Stmt := PySem.Challenge.pw_penhome_k20_keep_puts_place_and_heading.main.body.getD i (.Pass ⟨0, 0, 0, 0⟩)
theorem bt_all : bootBuiltins "all" = some (.builtin "all") := by decide +kernel
theorem bt_bool : bootBuiltins "bool" = some (.type "bool") := by decide +kernel
theorem bt_enumerate : bootBuiltins "enumerate" = some (.type "enumerate") := by decide +kernel
theorem bt_int : bootBuiltins "int" = some (.type "int") := by decide +kernel
theorem bt_isinstance : bootBuiltins "isinstance" = some (.builtin "isinstance") := by decide +kernel
theorem bt_len : bootBuiltins "len" = some (.builtin "len") := by decide +kernel
theorem bt_list : bootBuiltins "list" = some (.type "list") := by decide +kernel
theorem bt_min : bootBuiltins "min" = some (.builtin "min") := by decide +kernel
theorem bt_range : bootBuiltins "range" = some (.type "range") := by decide +kernel
theorem bt_str : bootBuiltins "str" = some (.type "str") := by decide +kernel
theorem bt_tuple : bootBuiltins "tuple" = some (.type "tuple") := by decide +kernel
theorem bt_zip : bootBuiltins "zip" = some (.type "zip") := by decide +kernel
abbrev s_NoRun___init__ : Stmt := inClass (topS 8) 0
abbrev N_NoRun___init__ : List Str := ["self", "index", "procedure", "path"]
theorem sc_NoRun___init__ : FnScope N_NoRun___init__ ["self", "index"] (defScope s_NoRun___init__) := ⟨rfl, rfl, rfl, by decide +kernel, rfl, by decide +kernel, by decide +kernel⟩
abbrev s_is_integer : Stmt := topS 12
abbrev N_is_integer : List Str := ["thing"]
theorem sc_is_integer : FnScope N_is_integer ["thing"] (defScope s_is_integer) := ⟨rfl, rfl, rfl, by decide +kernel, rfl, by decide +kernel, by decide +kernel⟩
abbrev s_is_pen : Stmt := topS 13
abbrev N_is_pen : List Str := ["thing", "number"]
theorem sc_is_pen : FnScope N_is_pen ["thing"] (defScope s_is_pen) := ⟨rfl, rfl, rfl, by decide +kernel, rfl, by decide +kernel, by decide +kernel⟩
abbrev s_is_within : Stmt := topS 14
abbrev N_is_within : List Str := ["thing", "bounds", "low", "high"]
theorem sc_is_within : FnScope N_is_within ["thing", "bounds"] (defScope s_is_within) := ⟨rfl, rfl, rfl, by decide +kernel, rfl, by decide +kernel, by decide +kernel⟩
abbrev s_is_bit : Stmt := topS 15
abbrev N_is_bit : List Str := ["thing"]
theorem sc_is_bit : FnScope N_is_bit ["thing"] (defScope s_is_bit) := ⟨rfl, rfl, rfl, by decide +kernel, rfl, by decide +kernel, by decide +kernel⟩
abbrev s_is_command : Stmt := topS 16
abbrev N_is_command : List Str := ["thing", "word", "numbers", "bounds", "number", "pair"]
theorem sc_is_command : FnScope N_is_command ["thing"] (defScope s_is_command) := ⟨rfl, rfl, rfl, by decide +kernel, rfl, by decide +kernel, by decide +kernel⟩
abbrev s_turned : Stmt := topS 17
abbrev N_turned : List Str := ["u", "v", "times", "_"]
theorem sc_turned : FnScope N_turned ["u", "v", "times"] (defScope s_turned) := ⟨rfl, rfl, rfl, by decide +kernel, rfl, by decide +kernel, by decide +kernel⟩
abbrev s_moved : Stmt := topS 18
abbrev N_moved : List Str := ["pen", "command", "x", "y", "u", "v", "p", "q", "word"]
theorem sc_moved : FnScope N_moved ["pen", "command"] (defScope s_moved) := ⟨rfl, rfl, rfl, by decide +kernel, rfl, by decide +kernel, by decide +kernel⟩
abbrev s_is_index : Stmt := topS 24
abbrev N_is_index : List Str := ["thing", "many"]
theorem sc_is_index : FnScope N_is_index ["thing", "many"] (defScope s_is_index) := ⟨rfl, rfl, rfl, by decide +kernel, rfl, by decide +kernel, by decide +kernel⟩
abbrev s_are_blocks : Stmt := topS 25
abbrev N_are_blocks : List Str := ["thing", "many", "block"]
theorem sc_are_blocks : FnScope N_are_blocks ["thing", "many"] (defScope s_are_blocks) := ⟨rfl, rfl, rfl, by decide +kernel, rfl, by decide +kernel, by decide +kernel⟩
abbrev s_is_call : Stmt := topS 26
abbrev N_is_call : List Str := ["thing", "procedures", "_", "procedure", "saved", "blocks"]
theorem sc_is_call : FnScope N_is_call ["thing", "procedures"] (defScope s_is_call) := ⟨rfl, rfl, rfl, by decide +kernel, rfl, by decide +kernel, by decide +kernel⟩
abbrev s_is_statement : Stmt := topS 27
abbrev N_is_statement : List Str := ["thing", "level", "procedures", "word"]
theorem sc_is_statement : FnScope N_is_statement ["thing", "level", "procedures"] (defScope s_is_statement) := ⟨rfl, rfl, rfl, by decide +kernel, rfl, by decide +kernel, by decide +kernel⟩
abbrev s_blocks_of : Stmt := topS 28
abbrev N_blocks_of : List Str := ["statement", "word"]
theorem sc_blocks_of : FnScope N_blocks_of ["statement"] (defScope s_blocks_of) := ⟨rfl, rfl, rfl, by decide +kernel, rfl, by decide +kernel, by decide +kernel⟩
abbrev s_with_blocks : Stmt := topS 29
abbrev N_with_blocks : List Str := ["statement", "blocks", "word"]
theorem sc_with_blocks : FnScope N_with_blocks ["statement", "blocks"] (defScope s_with_blocks) := ⟨rfl, rfl, rfl, by decide +kernel, rfl, by decide +kernel, by decide +kernel⟩
abbrev s_copied_statement : Stmt := topS 30
abbrev N_copied_statement : List Str := ["statement", "block"]
theorem sc_copied_statement : FnScope N_copied_statement ["statement"] (defScope s_copied_statement) := ⟨rfl, rfl, rfl, by decide +kernel, rfl, by decide +kernel, by decide +kernel⟩
abbrev s_copied : Stmt := topS 31
abbrev N_copied : List Str := ["block", "statement"]
theorem sc_copied : FnScope N_copied ["block"] (defScope s_copied) := ⟨rfl, rfl, rfl, by decide +kernel, rfl, by decide +kernel, by decide +kernel⟩
abbrev s_check_block : Stmt := topS 35
abbrev N_check_block : List Str := ["block", "procedure", "ahead", "read", "procedures", "at", "statement", "path", "number", "inner"]
theorem sc_check_block : FnScope N_check_block ["block", "procedure", "ahead", "read", "procedures"] (defScope s_check_block) := ⟨rfl, rfl, rfl, by decide +kernel, rfl, by decide +kernel, by decide +kernel⟩
abbrev s_check_bodies : Stmt := topS 36
abbrev N_check_bodies : List Str := ["bodies", "procedure", "body"]
theorem sc_check_bodies : FnScope N_check_bodies ["bodies"] (defScope s_check_bodies) := ⟨rfl, rfl, rfl, by decide +kernel, rfl, by decide +kernel, by decide +kernel⟩
abbrev s_Book___init__ : Stmt := inClass (topS 38) 0
abbrev N_Book___init__ : List Str := ["self", "bodies", "body"]
theorem sc_Book___init__ : FnScope N_Book___init__ ["self", "bodies"] (defScope s_Book___init__) := ⟨rfl, rfl, rfl, by decide +kernel, rfl, by decide +kernel, by decide +kernel⟩
abbrev s_Book___len__ : Stmt := inClass (topS 38) 1
abbrev N_Book___len__ : List Str := ["self"]
theorem sc_Book___len__ : FnScope N_Book___len__ ["self"] (defScope s_Book___len__) := ⟨rfl, rfl, rfl, by decide +kernel, rfl, by decide +kernel, by decide +kernel⟩
abbrev s_Book_bodies : Stmt := inClass (topS 38) 6
abbrev N_Book_bodies : List Str := ["self", "body"]
theorem sc_Book_bodies : FnScope N_Book_bodies ["self"] (defScope s_Book_bodies) := ⟨rfl, rfl, rfl, by decide +kernel, rfl, by decide +kernel, by decide +kernel⟩
abbrev s_vector : Stmt := topS 40
abbrev N_vector : List Str := ["pen"]
theorem sc_vector : FnScope N_vector ["pen"] (defScope s_vector) := ⟨rfl, rfl, rfl, by decide +kernel, rfl, by decide +kernel, by decide +kernel⟩
abbrev s_unit_pen : Stmt := topS 41
abbrev N_unit_pen : List Str := ["at", "i"]
theorem sc_unit_pen : FnScope N_unit_pen ["at"] (defScope s_unit_pen) := ⟨rfl, rfl, rfl, by decide +kernel, rfl, by decide +kernel, by decide +kernel⟩
abbrev s_probes : Stmt := topS 42
abbrev N_probes : List Str := ["at"]
theorem sc_probes : FnScope N_probes [] (defScope s_probes) := ⟨rfl, rfl, rfl, by decide +kernel, rfl, by decide +kernel, by decide +kernel⟩
abbrev s_matrix_from : Stmt := topS 43
abbrev N_matrix_from : List Str := ["ends", "start", "others", "columns", "end", "i", "column", "other", "a", "b"]
theorem sc_matrix_from : FnScope N_matrix_from ["ends"] (defScope s_matrix_from) := ⟨rfl, rfl, rfl, by decide +kernel, rfl, by decide +kernel, by decide +kernel⟩
abbrev s_Execution___init__ : Stmt := inClass (topS 47) 0
abbrev N_Execution___init__ : List Str := ["self", "procedures", "bits", "_"]
theorem sc_Execution___init__ : FnScope N_Execution___init__ ["self", "procedures", "bits"] (defScope s_Execution___init__) := ⟨rfl, rfl, rfl, by decide +kernel, rfl, by decide +kernel, by decide +kernel⟩
abbrev s_Execution_finish : Stmt := inClass (topS 47) 1
abbrev N_Execution_finish : List Str := ["self", "procedure"]
theorem sc_Execution_finish : FnScope N_Execution_finish ["self", "procedure"] (defScope s_Execution_finish) := ⟨rfl, rfl, rfl, by decide +kernel, rfl, by decide +kernel, by decide +kernel⟩
abbrev s_Execution_step : Stmt := inClass (topS 47) 2
abbrev N_Execution_step : List Str := ["self", "thing", "word"]
theorem sc_Execution_step : FnScope N_Execution_step ["self", "thing"] (defScope s_Execution_step) := ⟨rfl, rfl, rfl, by decide +kernel, rfl, by decide +kernel, by decide +kernel⟩
abbrev s_Execution_enter : Stmt := inClass (topS 47) 3
abbrev N_Execution_enter : List Str := ["self", "block"]
theorem sc_Execution_enter : FnScope N_Execution_enter ["self", "block"] (defScope s_Execution_enter) := ⟨rfl, rfl, rfl, by decide +kernel, rfl, by decide +kernel, by decide +kernel⟩
abbrev s_Execution_take : Stmt := inClass (topS 47) 4
abbrev N_Execution_take : List Str := ["self"]
theorem sc_Execution_take : FnScope N_Execution_take ["self"] (defScope s_Execution_take) := ⟨rfl, rfl, rfl, by decide +kernel, rfl, by decide +kernel, by decide +kernel⟩
abbrev s_Execution_begin : Stmt := inClass (topS 47) 5
abbrev N_Execution_begin : List Str := ["self", "statement", "_", "procedure", "saved", "blocks", "begun"]
theorem sc_Execution_begin : FnScope N_Execution_begin ["self", "statement"] (defScope s_Execution_begin) := ⟨rfl, rfl, rfl, by decide +kernel, rfl, by decide +kernel, by decide +kernel⟩
abbrev s_Execution_unwind : Stmt := inClass (topS 47) 6
abbrev N_Execution_unwind : List Str := ["self", "way", "thing"]
theorem sc_Execution_unwind : FnScope N_Execution_unwind ["self", "way"] (defScope s_Execution_unwind) := ⟨rfl, rfl, rfl, by decide +kernel, rfl, by decide +kernel, by decide +kernel⟩
abbrev s_Execution_leave : Stmt := inClass (topS 47) 7
abbrev N_Execution_leave : List Str := ["self", "thing", "way", "_", "procedure", "saved", "blocks"]
theorem sc_Execution_leave : FnScope N_Execution_leave ["self", "thing", "way"] (defScope s_Execution_leave) := ⟨rfl, rfl, rfl, by decide +kernel, rfl, by decide +kernel, by decide +kernel⟩
abbrev s_check_bits : Stmt := topS 48
abbrev N_check_bits : List Str := ["bits", "index", "bit"]
theorem sc_check_bits : FnScope N_check_bits ["bits"] (defScope s_check_bits) := ⟨rfl, rfl, rfl, by decide +kernel, rfl, by decide +kernel, by decide +kernel⟩
abbrev s_executed : Stmt := topS 49
abbrev N_executed : List Str := ["book", "procedure", "bits", "execution"]
theorem sc_executed : FnScope N_executed ["book", "procedure", "bits"] (defScope s_executed) := ⟨rfl, rfl, rfl, by decide +kernel, rfl, by decide +kernel, by decide +kernel⟩
abbrev s_length_of : Stmt := topS 50
abbrev N_length_of : List Str := ["deeds", "deed"]
theorem sc_length_of : FnScope N_length_of ["deeds"] (defScope s_length_of) := ⟨rfl, rfl, rfl, by decide +kernel, rfl, by decide +kernel, by decide +kernel⟩
abbrev s_pens_behind : Stmt := topS 51
abbrev N_pens_behind : List Str := ["deeds", "pen", "held", "deed"]
theorem sc_pens_behind : GScope N_pens_behind ["deeds", "pen"] (defScope s_pens_behind) := ⟨rfl, rfl, rfl, by decide +kernel, rfl, by decide +kernel, by decide +kernel⟩
abbrev s_end_of : Stmt := topS 52
abbrev N_end_of : List Str := ["deeds", "pen", "end", "behind"]
theorem sc_end_of : FnScope N_end_of ["deeds", "pen"] (defScope s_end_of) := ⟨rfl, rfl, rfl, by decide +kernel, rfl, by decide +kernel, by decide +kernel⟩
abbrev s_ran : Stmt := topS 53
abbrev N_ran : List Str := ["book", "procedure", "bits", "pen", "execution"]
theorem sc_ran : FnScope N_ran ["book", "procedure", "bits", "pen"] (defScope s_ran) := ⟨rfl, rfl, rfl, by decide +kernel, rfl, by decide +kernel, by decide +kernel⟩
abbrev s_run_matrix : Stmt := topS 54
abbrev N_run_matrix : List Str := ["book", "procedure", "bits", "execution", "deeds", "matrix", "pen"]
theorem sc_run_matrix : FnScope N_run_matrix ["book", "procedure", "bits"] (defScope s_run_matrix) := ⟨rfl, rfl, rfl, by decide +kernel, rfl, by decide +kernel, by decide +kernel⟩
abbrev s__law_pool : Stmt := topS 56
abbrev N__law_pool : List Str := ["_law_script", "_law_cell"]
theorem sc__law_pool : FnScope N__law_pool ["_law_script"] (defScope s__law_pool) := ⟨rfl, rfl, rfl, by decide +kernel, rfl, by decide +kernel, by decide +kernel⟩
abbrev s__law_draw : Stmt := topS 57
abbrev N__law_draw : List Str := ["_law_pool_here", "_law_many", "_law_at", "_law_cell", "_law_number_here"]
theorem sc__law_draw : FnScope N__law_draw ["_law_pool_here", "_law_many"] (defScope s__law_draw) := ⟨rfl, rfl, rfl, by decide +kernel, rfl, by decide +kernel, by decide +kernel⟩
abbrev s__law_command : Stmt := topS 58
abbrev N__law_command : List Str := ["_law_pool_here", "_law_mood", "_law_menus", "_law_menu", "_law_kind", "_law_far"]
theorem sc__law_command : FnScope N__law_command ["_law_pool_here", "_law_mood"] (defScope s__law_command) := ⟨rfl, rfl, rfl, by decide +kernel, rfl, by decide +kernel, by decide +kernel⟩
abbrev s__law_pair : Stmt := topS 59
abbrev N__law_pair : List Str := ["_law_pool_here", "_law_mood", "_law_k", "_law_kind", "_law_rows"]
theorem sc__law_pair : FnScope N__law_pair ["_law_pool_here", "_law_mood"] (defScope s__law_pair) := ⟨rfl, rfl, rfl, by decide +kernel, rfl, by decide +kernel, by decide +kernel⟩
abbrev s__law_block : Stmt := topS 60
abbrev N__law_block : List Str := ["_law_pool_here", "_law_mood", "_law_level", "_law_room", "_law_calls", "_law_low", "_law_block_here", "_law_turn"]
theorem sc__law_block : FnScope N__law_block ["_law_pool_here", "_law_mood", "_law_level", "_law_room", "_law_calls", "_law_low"] (defScope s__law_block) := ⟨rfl, rfl, rfl, by decide +kernel, rfl, by decide +kernel, by decide +kernel⟩
abbrev s__law_piece : Stmt := topS 61
abbrev N__law_piece : List Str := ["_law_pool_here", "_law_mood", "_law_level", "_law_room", "_law_calls", "_law_low", "_law_kind", "_law_pair_here", "_law_inner", "_law_one", "_law_goal", "_law_saved"]
theorem sc__law_piece : FnScope N__law_piece ["_law_pool_here", "_law_mood", "_law_level", "_law_room", "_law_calls", "_law_low"] (defScope s__law_piece) := ⟨rfl, rfl, rfl, by decide +kernel, rfl, by decide +kernel, by decide +kernel⟩
abbrev s__law_number : Stmt := topS 62
abbrev N__law_number : List Str := ["_law_pool_here", "_law_small", "_law_at", "_law_number_here"]
theorem sc__law_number : FnScope N__law_number ["_law_pool_here"] (defScope s__law_number) := ⟨rfl, rfl, rfl, by decide +kernel, rfl, by decide +kernel, by decide +kernel⟩
abbrev s__law_pen : Stmt := topS 63
abbrev N__law_pen : List Str := ["_law_pool_here", "_law_begin", "_law_k"]
theorem sc__law_pen : FnScope N__law_pen ["_law_pool_here"] (defScope s__law_pen) := ⟨rfl, rfl, rfl, by decide +kernel, rfl, by decide +kernel, by decide +kernel⟩
abbrev s__law_move : Stmt := topS 64
abbrev N__law_move : List Str := ["_law_begin", "_law_command_here", "_law_x", "_law_y", "_law_u", "_law_v", "_law_p", "_law_q", "_law_word", "_law_k", "_law_turned"]
theorem sc__law_move : FnScope N__law_move ["_law_begin", "_law_command_here"] (defScope s__law_move) := ⟨rfl, rfl, rfl, by decide +kernel, rfl, by decide +kernel, by decide +kernel⟩
abbrev s__law_bit : Stmt := topS 65
abbrev N__law_bit : List Str := ["_law_state", "_law_task_here", "_law_bits_here"]
theorem sc__law_bit : FnScope N__law_bit ["_law_state", "_law_task_here"] (defScope s__law_bit) := ⟨rfl, rfl, rfl, by decide +kernel, rfl, by decide +kernel, by decide +kernel⟩
abbrev s__law_run : Stmt := topS 66
abbrev N__law_run : List Str := ["_law_bodies", "_law_procedure", "_law_bits_here", "_law_extra", "_law_state", "_law_turn", "_law_task_here", "_law_block_here"]
theorem sc__law_run : FnScope N__law_run ["_law_bodies", "_law_procedure", "_law_bits_here", "_law_extra"] (defScope s__law_run) := ⟨rfl, rfl, rfl, by decide +kernel, rfl, by decide +kernel, by decide +kernel⟩
abbrev s__law_bits : Stmt := topS 67
abbrev N__law_bits : List Str := ["_law_pool_here", "_law_many", "_law_k"]
theorem sc__law_bits : FnScope N__law_bits ["_law_pool_here", "_law_many"] (defScope s__law_bits) := ⟨rfl, rfl, rfl, by decide +kernel, rfl, by decide +kernel, by decide +kernel⟩
abbrev s__law_pens : Stmt := topS 68
abbrev N__law_pens : List Str := ["_law_deeds", "_law_begin", "_law_pens_here", "_law_held", "_law_deed"]
theorem sc__law_pens : FnScope N__law_pens ["_law_deeds", "_law_begin"] (defScope s__law_pens) := ⟨rfl, rfl, rfl, by decide +kernel, rfl, by decide +kernel, by decide +kernel⟩
abbrev s__law_probe : Stmt := topS 69
abbrev N__law_probe : List Str := ["_law_deeds", "_law_origin", "_law_j", "_law_images", "_law_matrix", "_law_i", "_law_k"]
theorem sc__law_probe : FnScope N__law_probe ["_law_deeds"] (defScope s__law_probe) := ⟨rfl, rfl, rfl, by decide +kernel, rfl, by decide +kernel, by decide +kernel⟩
abbrev s__law_length : Stmt := topS 70
abbrev N__law_length : List Str := ["_law_deeds", "_law_deed"]
theorem sc__law_length : FnScope N__law_length ["_law_deeds"] (defScope s__law_length) := ⟨rfl, rfl, rfl, by decide +kernel, rfl, by decide +kernel, by decide +kernel⟩
abbrev s__law_blocks : Stmt := topS 71
abbrev N__law_blocks : List Str := ["_law_statement", "_law_item"]
theorem sc__law_blocks : FnScope N__law_blocks ["_law_statement"] (defScope s__law_blocks) := ⟨rfl, rfl, rfl, by decide +kernel, rfl, by decide +kernel, by decide +kernel⟩
abbrev s__law_with : Stmt := topS 72
abbrev N__law_with : List Str := ["_law_statement", "_law_blocks_here"]
theorem sc__law_with : FnScope N__law_with ["_law_statement", "_law_blocks_here"] (defScope s__law_with) := ⟨rfl, rfl, rfl, by decide +kernel, rfl, by decide +kernel, by decide +kernel⟩
abbrev s__law_copy : Stmt := topS 73
abbrev N__law_copy : List Str := ["_law_block_here", "_law_row", "_law_inner"]
theorem sc__law_copy : FnScope N__law_copy ["_law_block_here"] (defScope s__law_copy) := ⟨rfl, rfl, rfl, by decide +kernel, rfl, by decide +kernel, by decide +kernel⟩
abbrev s__law_same : Stmt := topS 74
abbrev N__law_same : List Str := ["_law_one", "_law_other", "_law_k"]
theorem sc__law_same : FnScope N__law_same ["_law_one", "_law_other"] (defScope s__law_same) := ⟨rfl, rfl, rfl, by decide +kernel, rfl, by decide +kernel, by decide +kernel⟩
abbrev s__law_steered : Stmt := topS 75
abbrev N__law_steered : List Str := ["_law_pool_here", "_law_bodies", "_law_procedure", "_law_many", "_law_extra", "_law_bits_here", "_law_found"]
theorem sc__law_steered : FnScope N__law_steered ["_law_pool_here", "_law_bodies", "_law_procedure", "_law_many", "_law_extra"] (defScope s__law_steered) := ⟨rfl, rfl, rfl, by decide +kernel, rfl, by decide +kernel, by decide +kernel⟩
abbrev s__law_task : Stmt := topS 76
abbrev N__law_task : List Str := ["_law_state", "_law_task_here", "_law_word", "_law_bit_here", "_law_todo", "_law_at", "_law_waits"]
theorem sc__law_task : FnScope N__law_task ["_law_state", "_law_task_here"] (defScope s__law_task) := ⟨rfl, rfl, rfl, by decide +kernel, rfl, by decide +kernel, by decide +kernel⟩
abbrev s_law : Stmt := topS 77
abbrev N_law : List Str := ["_law_script", "_law_pool_here", "_law_mood", "_law_room", "_law_block_here", "_law_step", "_law_alone", "_law_inside", "_law_begin", "_law_found", "_law_bits_here", "_law_one", "_law_other", "_law_behind", "_law_due", "_law_rows", "_law_middle", "_law_k"]
theorem sc_law : FnScope N_law ["_law_script"] (defScope s_law) := ⟨rfl, rfl, rfl, by decide +kernel, rfl, by decide +kernel, by decide +kernel⟩
structure Top (w : World) (K : PySem.W.Frag) (mg : Str → Option Value) where
  a_HOME : Addr
  C_Book : Addr
  g_Book : mg "Book" = some (.ref C_Book)
  cl_Book : Cls K C_Book
  na_Book__bodies : NoAttr K C_Book "_bodies"
  C_Execution : Addr
  g_Execution : mg "Execution" = some (.ref C_Execution)
  cl_Execution : Cls K C_Execution
  na_Execution_procedures : NoAttr K C_Execution "procedures"
  na_Execution_bits : NoAttr K C_Execution "bits"
  na_Execution_taken : NoAttr K C_Execution "taken"
  na_Execution_left : NoAttr K C_Execution "left"
  na_Execution_begun : NoAttr K C_Execution "begun"
  na_Execution_deeds : NoAttr K C_Execution "deeds"
  na_Execution_way : NoAttr K C_Execution "way"
  C_NoRun : Addr
  g_NoRun : mg "NoRun" = some (.ref C_NoRun)
  O_NoRun : OexC K C_NoRun
  x_NoRun : PySem.W.exmOne K (.ref C_NoRun) (.ref C_NoRun) = some true
  xf_NoRun : XfC K C_NoRun
  no_NoRun_index : PySem.W.findIn K (.ref C_NoRun) "index" = some none
  a_NoRun___init__ : Addr
  d_NoRun___init__ : FuncData
  F_NoRun___init__ : Fun K "__init__" "NoRun.__init__" s_NoRun___init__ a_NoRun___init__ d_NoRun___init__
  io_NoRun : PySem.W.findIn K (.ref C_NoRun) "__init__" = some (some (.ref a_NoRun___init__))
  to_NoRun : PySem.W.typeIn K (.ref a_NoRun___init__) = some (.type "function")
  a_is_integer : Addr
  d_is_integer : FuncData
  F_is_integer : Fun K "is_integer" "is_integer" s_is_integer a_is_integer d_is_integer
  g_is_integer : mg "is_integer" = some (.ref a_is_integer)
  a_is_pen : Addr
  d_is_pen : FuncData
  F_is_pen : Fun K "is_pen" "is_pen" s_is_pen a_is_pen d_is_pen
  g_is_pen : mg "is_pen" = some (.ref a_is_pen)
  a_is_within : Addr
  d_is_within : FuncData
  F_is_within : Fun K "is_within" "is_within" s_is_within a_is_within d_is_within
  g_is_within : mg "is_within" = some (.ref a_is_within)
  a_is_bit : Addr
  d_is_bit : FuncData
  F_is_bit : Fun K "is_bit" "is_bit" s_is_bit a_is_bit d_is_bit
  g_is_bit : mg "is_bit" = some (.ref a_is_bit)
  a_is_command : Addr
  d_is_command : FuncData
  F_is_command : Fun K "is_command" "is_command" s_is_command a_is_command d_is_command
  g_is_command : mg "is_command" = some (.ref a_is_command)
  a_turned : Addr
  d_turned : FuncData
  F_turned : Fun K "turned" "turned" s_turned a_turned d_turned
  g_turned : mg "turned" = some (.ref a_turned)
  a_moved : Addr
  d_moved : FuncData
  F_moved : Fun K "moved" "moved" s_moved a_moved d_moved
  g_moved : mg "moved" = some (.ref a_moved)
  a_is_index : Addr
  d_is_index : FuncData
  F_is_index : Fun K "is_index" "is_index" s_is_index a_is_index d_is_index
  g_is_index : mg "is_index" = some (.ref a_is_index)
  a_are_blocks : Addr
  d_are_blocks : FuncData
  F_are_blocks : Fun K "are_blocks" "are_blocks" s_are_blocks a_are_blocks d_are_blocks
  g_are_blocks : mg "are_blocks" = some (.ref a_are_blocks)
  a_is_call : Addr
  d_is_call : FuncData
  F_is_call : Fun K "is_call" "is_call" s_is_call a_is_call d_is_call
  g_is_call : mg "is_call" = some (.ref a_is_call)
  a_is_statement : Addr
  d_is_statement : FuncData
  F_is_statement : Fun K "is_statement" "is_statement" s_is_statement a_is_statement d_is_statement
  g_is_statement : mg "is_statement" = some (.ref a_is_statement)
  a_blocks_of : Addr
  d_blocks_of : FuncData
  F_blocks_of : Fun K "blocks_of" "blocks_of" s_blocks_of a_blocks_of d_blocks_of
  g_blocks_of : mg "blocks_of" = some (.ref a_blocks_of)
  a_with_blocks : Addr
  d_with_blocks : FuncData
  F_with_blocks : Fun K "with_blocks" "with_blocks" s_with_blocks a_with_blocks d_with_blocks
  g_with_blocks : mg "with_blocks" = some (.ref a_with_blocks)
  a_copied_statement : Addr
  d_copied_statement : FuncData
  F_copied_statement : Fun K "copied_statement" "copied_statement" s_copied_statement a_copied_statement d_copied_statement
  g_copied_statement : mg "copied_statement" = some (.ref a_copied_statement)
  a_copied : Addr
  d_copied : FuncData
  F_copied : Fun K "copied" "copied" s_copied a_copied d_copied
  g_copied : mg "copied" = some (.ref a_copied)
  a_check_block : Addr
  d_check_block : FuncData
  F_check_block : Fun K "check_block" "check_block" s_check_block a_check_block d_check_block
  g_check_block : mg "check_block" = some (.ref a_check_block)
  a_check_bodies : Addr
  d_check_bodies : FuncData
  F_check_bodies : Fun K "check_bodies" "check_bodies" s_check_bodies a_check_bodies d_check_bodies
  g_check_bodies : mg "check_bodies" = some (.ref a_check_bodies)
  a_Book___init__ : Addr
  d_Book___init__ : FuncData
  F_Book___init__ : Fun K "__init__" "Book.__init__" s_Book___init__ a_Book___init__ d_Book___init__
  mk_Book : Mk K C_Book a_Book___init__
  a_Book___len__ : Addr
  d_Book___len__ : FuncData
  F_Book___len__ : Fun K "__len__" "Book.__len__" s_Book___len__ a_Book___len__ d_Book___len__
  m_Book___len__ : Meth K C_Book "__len__" a_Book___len__
  a_Book_bodies : Addr
  d_Book_bodies : FuncData
  F_Book_bodies : Fun K "bodies" "Book.bodies" s_Book_bodies a_Book_bodies d_Book_bodies
  m_Book_bodies : Meth K C_Book "bodies" a_Book_bodies
  a_vector : Addr
  d_vector : FuncData
  F_vector : Fun K "vector" "vector" s_vector a_vector d_vector
  g_vector : mg "vector" = some (.ref a_vector)
  a_unit_pen : Addr
  d_unit_pen : FuncData
  F_unit_pen : Fun K "unit_pen" "unit_pen" s_unit_pen a_unit_pen d_unit_pen
  g_unit_pen : mg "unit_pen" = some (.ref a_unit_pen)
  a_probes : Addr
  d_probes : FuncData
  F_probes : Fun K "probes" "probes" s_probes a_probes d_probes
  g_probes : mg "probes" = some (.ref a_probes)
  a_matrix_from : Addr
  d_matrix_from : FuncData
  F_matrix_from : Fun K "matrix_from" "matrix_from" s_matrix_from a_matrix_from d_matrix_from
  g_matrix_from : mg "matrix_from" = some (.ref a_matrix_from)
  a_Execution___init__ : Addr
  d_Execution___init__ : FuncData
  F_Execution___init__ : Fun K "__init__" "Execution.__init__" s_Execution___init__ a_Execution___init__ d_Execution___init__
  mk_Execution : Mk K C_Execution a_Execution___init__
  a_Execution_finish : Addr
  d_Execution_finish : FuncData
  F_Execution_finish : Fun K "finish" "Execution.finish" s_Execution_finish a_Execution_finish d_Execution_finish
  m_Execution_finish : Meth K C_Execution "finish" a_Execution_finish
  a_Execution_step : Addr
  d_Execution_step : FuncData
  F_Execution_step : Fun K "step" "Execution.step" s_Execution_step a_Execution_step d_Execution_step
  m_Execution_step : Meth K C_Execution "step" a_Execution_step
  a_Execution_enter : Addr
  d_Execution_enter : FuncData
  F_Execution_enter : Fun K "enter" "Execution.enter" s_Execution_enter a_Execution_enter d_Execution_enter
  m_Execution_enter : Meth K C_Execution "enter" a_Execution_enter
  a_Execution_take : Addr
  d_Execution_take : FuncData
  F_Execution_take : Fun K "take" "Execution.take" s_Execution_take a_Execution_take d_Execution_take
  m_Execution_take : Meth K C_Execution "take" a_Execution_take
  a_Execution_begin : Addr
  d_Execution_begin : FuncData
  F_Execution_begin : Fun K "begin" "Execution.begin" s_Execution_begin a_Execution_begin d_Execution_begin
  m_Execution_begin : Meth K C_Execution "begin" a_Execution_begin
  a_Execution_unwind : Addr
  d_Execution_unwind : FuncData
  F_Execution_unwind : Fun K "unwind" "Execution.unwind" s_Execution_unwind a_Execution_unwind d_Execution_unwind
  m_Execution_unwind : Meth K C_Execution "unwind" a_Execution_unwind
  a_Execution_leave : Addr
  d_Execution_leave : FuncData
  F_Execution_leave : Fun K "leave" "Execution.leave" s_Execution_leave a_Execution_leave d_Execution_leave
  m_Execution_leave : Meth K C_Execution "leave" a_Execution_leave
  a_check_bits : Addr
  d_check_bits : FuncData
  F_check_bits : Fun K "check_bits" "check_bits" s_check_bits a_check_bits d_check_bits
  g_check_bits : mg "check_bits" = some (.ref a_check_bits)
  a_executed : Addr
  d_executed : FuncData
  F_executed : Fun K "executed" "executed" s_executed a_executed d_executed
  g_executed : mg "executed" = some (.ref a_executed)
  a_length_of : Addr
  d_length_of : FuncData
  F_length_of : Fun K "length_of" "length_of" s_length_of a_length_of d_length_of
  g_length_of : mg "length_of" = some (.ref a_length_of)
  a_pens_behind : Addr
  d_pens_behind : FuncData
  F_pens_behind : Fun K "pens_behind" "pens_behind" s_pens_behind a_pens_behind d_pens_behind
  g_pens_behind : mg "pens_behind" = some (.ref a_pens_behind)
  a_end_of : Addr
  d_end_of : FuncData
  F_end_of : Fun K "end_of" "end_of" s_end_of a_end_of d_end_of
  g_end_of : mg "end_of" = some (.ref a_end_of)
  a_ran : Addr
  d_ran : FuncData
  F_ran : Fun K "ran" "ran" s_ran a_ran d_ran
  FD_ran : FunD K "ran" "ran" (defArgs s_ran) (defBody s_ran) (defScope s_ran) [] [("pen", .ref a_HOME)] a_ran d_ran
  g_ran : mg "ran" = some (.ref a_ran)
  a_run_matrix : Addr
  d_run_matrix : FuncData
  F_run_matrix : Fun K "run_matrix" "run_matrix" s_run_matrix a_run_matrix d_run_matrix
  g_run_matrix : mg "run_matrix" = some (.ref a_run_matrix)
  a__law_pool : Addr
  d__law_pool : FuncData
  F__law_pool : Fun K "_law_pool" "_law_pool" s__law_pool a__law_pool d__law_pool
  g__law_pool : mg "_law_pool" = some (.ref a__law_pool)
  a__law_draw : Addr
  d__law_draw : FuncData
  F__law_draw : Fun K "_law_draw" "_law_draw" s__law_draw a__law_draw d__law_draw
  g__law_draw : mg "_law_draw" = some (.ref a__law_draw)
  a__law_command : Addr
  d__law_command : FuncData
  F__law_command : Fun K "_law_command" "_law_command" s__law_command a__law_command d__law_command
  g__law_command : mg "_law_command" = some (.ref a__law_command)
  a__law_pair : Addr
  d__law_pair : FuncData
  F__law_pair : Fun K "_law_pair" "_law_pair" s__law_pair a__law_pair d__law_pair
  g__law_pair : mg "_law_pair" = some (.ref a__law_pair)
  a__law_block : Addr
  d__law_block : FuncData
  F__law_block : Fun K "_law_block" "_law_block" s__law_block a__law_block d__law_block
  g__law_block : mg "_law_block" = some (.ref a__law_block)
  a__law_piece : Addr
  d__law_piece : FuncData
  F__law_piece : Fun K "_law_piece" "_law_piece" s__law_piece a__law_piece d__law_piece
  g__law_piece : mg "_law_piece" = some (.ref a__law_piece)
  a__law_number : Addr
  d__law_number : FuncData
  F__law_number : Fun K "_law_number" "_law_number" s__law_number a__law_number d__law_number
  g__law_number : mg "_law_number" = some (.ref a__law_number)
  a__law_pen : Addr
  d__law_pen : FuncData
  F__law_pen : Fun K "_law_pen" "_law_pen" s__law_pen a__law_pen d__law_pen
  g__law_pen : mg "_law_pen" = some (.ref a__law_pen)
  a__law_move : Addr
  d__law_move : FuncData
  F__law_move : Fun K "_law_move" "_law_move" s__law_move a__law_move d__law_move
  g__law_move : mg "_law_move" = some (.ref a__law_move)
  a__law_bit : Addr
  d__law_bit : FuncData
  F__law_bit : Fun K "_law_bit" "_law_bit" s__law_bit a__law_bit d__law_bit
  g__law_bit : mg "_law_bit" = some (.ref a__law_bit)
  a__law_run : Addr
  d__law_run : FuncData
  F__law_run : Fun K "_law_run" "_law_run" s__law_run a__law_run d__law_run
  g__law_run : mg "_law_run" = some (.ref a__law_run)
  a__law_bits : Addr
  d__law_bits : FuncData
  F__law_bits : Fun K "_law_bits" "_law_bits" s__law_bits a__law_bits d__law_bits
  g__law_bits : mg "_law_bits" = some (.ref a__law_bits)
  a__law_pens : Addr
  d__law_pens : FuncData
  F__law_pens : Fun K "_law_pens" "_law_pens" s__law_pens a__law_pens d__law_pens
  g__law_pens : mg "_law_pens" = some (.ref a__law_pens)
  a__law_probe : Addr
  d__law_probe : FuncData
  F__law_probe : Fun K "_law_probe" "_law_probe" s__law_probe a__law_probe d__law_probe
  g__law_probe : mg "_law_probe" = some (.ref a__law_probe)
  a__law_length : Addr
  d__law_length : FuncData
  F__law_length : Fun K "_law_length" "_law_length" s__law_length a__law_length d__law_length
  g__law_length : mg "_law_length" = some (.ref a__law_length)
  a__law_blocks : Addr
  d__law_blocks : FuncData
  F__law_blocks : Fun K "_law_blocks" "_law_blocks" s__law_blocks a__law_blocks d__law_blocks
  g__law_blocks : mg "_law_blocks" = some (.ref a__law_blocks)
  a__law_with : Addr
  d__law_with : FuncData
  F__law_with : Fun K "_law_with" "_law_with" s__law_with a__law_with d__law_with
  g__law_with : mg "_law_with" = some (.ref a__law_with)
  a__law_copy : Addr
  d__law_copy : FuncData
  F__law_copy : Fun K "_law_copy" "_law_copy" s__law_copy a__law_copy d__law_copy
  g__law_copy : mg "_law_copy" = some (.ref a__law_copy)
  a__law_same : Addr
  d__law_same : FuncData
  F__law_same : Fun K "_law_same" "_law_same" s__law_same a__law_same d__law_same
  g__law_same : mg "_law_same" = some (.ref a__law_same)
  a__law_steered : Addr
  d__law_steered : FuncData
  F__law_steered : Fun K "_law_steered" "_law_steered" s__law_steered a__law_steered d__law_steered
  g__law_steered : mg "_law_steered" = some (.ref a__law_steered)
  a__law_task : Addr
  d__law_task : FuncData
  F__law_task : Fun K "_law_task" "_law_task" s__law_task a__law_task d__law_task
  g__law_task : mg "_law_task" = some (.ref a__law_task)
  a_law : Addr
  d_law : FuncData
  F_law : Fun K "law" "law" s_law a_law d_law
  g_law : mg "law" = some (.ref a_law)
  c_DEEPEST_LEVEL : ∃ u, mg "DEEPEST_LEVEL" = some u ∧ RelV (.int 3) u
  c_MOST_IN_A_LIST : ∃ u, mg "MOST_IN_A_LIST" = some u ∧ RelV (.int 8) u
  c_MOST_IN_A_PROCEDURE : ∃ u, mg "MOST_IN_A_PROCEDURE" = some u ∧ RelV (.int 12) u
  c_MOST_PROCEDURES : ∃ u, mg "MOST_PROCEDURES" = some u ∧ RelV (.int 3) u
  z_all : mg "all" = none
  z_bool : mg "bool" = none
  z_enumerate : mg "enumerate" = none
  z_int : mg "int" = none
  z_isinstance : mg "isinstance" = none
  z_len : mg "len" = none
  z_list : mg "list" = none
  z_min : mg "min" = none
  z_range : mg "range" = none
  z_str : mg "str" = none
  z_tuple : mg "tuple" = none
  z_zip : mg "zip" = none
  a_BOUNDS : Addr
  c_BOUNDS : ∃ u, mg "BOUNDS" = some u ∧ RelV (.ref a_BOUNDS) u
  e_B : Array DictEntry
  n_B : Nat
  D_B : KDict K w a_BOUNDS e_B n_B
  L_B : Lims w K a_BOUNDS
  W_B : ∀ s ∈ oddWords, PySem.W.nsIn K a_BOUNDS s = some none
  a_NoProcedure : Addr
  a_NoPen : Addr
  X_NPr : ExcT K mg "NoProcedure" a_NoProcedure
  X_NP : ExcT K mg "NoPen" a_NoPen
  c_HOME : ∃ u, mg "HOME" = some u ∧ RelV (.ref a_HOME) u
  h_HOME : ∀ H, SqT K H a_HOME (([0, 0, 1, 0, 0, 0] : List Int).map V.int)
  a_HOLD : Addr
  c_HOLD : ∃ u, mg "HOLD" = some u ∧ RelV (.ref a_HOLD) u
  h_HOLD : ∀ H, SqT K H a_HOLD [V.str "hold"]
  a_BACK : Addr
  c_BACK : ∃ u, mg "BACK" = some u ∧ RelV (.ref a_BACK) u
  h_BACK : ∀ H, SqT K H a_BACK [V.str "back"]
  W_D0 : PySem.W.nsIn K a_BOUNDS "hold" = some none
  W_D1 : PySem.W.nsIn K a_BOUNDS "back" = some none
theorem b_NoRun___init__ {w : World} {K : PySem.W.Frag} {mg : Str → Option Value} (T : Top w K mg) : Binds K T.d_NoRun___init__ ["self", "index"] [] := T.F_NoRun___init__.binds (ps := ["self", "index"]) fun _ _ _ _ _ _ us hl => match us, hl with | [_, _], _ => rfl
theorem b_is_integer {w : World} {K : PySem.W.Frag} {mg : Str → Option Value} (T : Top w K mg) : Binds K T.d_is_integer ["thing"] [] := T.F_is_integer.binds (ps := ["thing"]) fun _ _ _ _ _ _ us hl => match us, hl with | [_], _ => rfl
theorem b_is_pen {w : World} {K : PySem.W.Frag} {mg : Str → Option Value} (T : Top w K mg) : Binds K T.d_is_pen ["thing"] [] := T.F_is_pen.binds (ps := ["thing"]) fun _ _ _ _ _ _ us hl => match us, hl with | [_], _ => rfl
theorem b_is_within {w : World} {K : PySem.W.Frag} {mg : Str → Option Value} (T : Top w K mg) : Binds K T.d_is_within ["thing", "bounds"] [] := T.F_is_within.binds (ps := ["thing", "bounds"]) fun _ _ _ _ _ _ us hl => match us, hl with | [_, _], _ => rfl
theorem b_is_bit {w : World} {K : PySem.W.Frag} {mg : Str → Option Value} (T : Top w K mg) : Binds K T.d_is_bit ["thing"] [] := T.F_is_bit.binds (ps := ["thing"]) fun _ _ _ _ _ _ us hl => match us, hl with | [_], _ => rfl
theorem b_is_command {w : World} {K : PySem.W.Frag} {mg : Str → Option Value} (T : Top w K mg) : Binds K T.d_is_command ["thing"] [] := T.F_is_command.binds (ps := ["thing"]) fun _ _ _ _ _ _ us hl => match us, hl with | [_], _ => rfl
theorem b_turned {w : World} {K : PySem.W.Frag} {mg : Str → Option Value} (T : Top w K mg) : Binds K T.d_turned ["u", "v", "times"] [] := T.F_turned.binds (ps := ["u", "v", "times"]) fun _ _ _ _ _ _ us hl => match us, hl with | [_, _, _], _ => rfl
theorem b_moved {w : World} {K : PySem.W.Frag} {mg : Str → Option Value} (T : Top w K mg) : Binds K T.d_moved ["pen", "command"] [] := T.F_moved.binds (ps := ["pen", "command"]) fun _ _ _ _ _ _ us hl => match us, hl with | [_, _], _ => rfl
theorem b_is_index {w : World} {K : PySem.W.Frag} {mg : Str → Option Value} (T : Top w K mg) : Binds K T.d_is_index ["thing", "many"] [] := T.F_is_index.binds (ps := ["thing", "many"]) fun _ _ _ _ _ _ us hl => match us, hl with | [_, _], _ => rfl
theorem b_are_blocks {w : World} {K : PySem.W.Frag} {mg : Str → Option Value} (T : Top w K mg) : Binds K T.d_are_blocks ["thing", "many"] [] := T.F_are_blocks.binds (ps := ["thing", "many"]) fun _ _ _ _ _ _ us hl => match us, hl with | [_, _], _ => rfl
theorem b_is_call {w : World} {K : PySem.W.Frag} {mg : Str → Option Value} (T : Top w K mg) : Binds K T.d_is_call ["thing", "procedures"] [] := T.F_is_call.binds (ps := ["thing", "procedures"]) fun _ _ _ _ _ _ us hl => match us, hl with | [_, _], _ => rfl
theorem b_is_statement {w : World} {K : PySem.W.Frag} {mg : Str → Option Value} (T : Top w K mg) : Binds K T.d_is_statement ["thing", "level", "procedures"] [] := T.F_is_statement.binds (ps := ["thing", "level", "procedures"]) fun _ _ _ _ _ _ us hl => match us, hl with | [_, _, _], _ => rfl
theorem b_blocks_of {w : World} {K : PySem.W.Frag} {mg : Str → Option Value} (T : Top w K mg) : Binds K T.d_blocks_of ["statement"] [] := T.F_blocks_of.binds (ps := ["statement"]) fun _ _ _ _ _ _ us hl => match us, hl with | [_], _ => rfl
theorem b_with_blocks {w : World} {K : PySem.W.Frag} {mg : Str → Option Value} (T : Top w K mg) : Binds K T.d_with_blocks ["statement", "blocks"] [] := T.F_with_blocks.binds (ps := ["statement", "blocks"]) fun _ _ _ _ _ _ us hl => match us, hl with | [_, _], _ => rfl
theorem b_copied_statement {w : World} {K : PySem.W.Frag} {mg : Str → Option Value} (T : Top w K mg) : Binds K T.d_copied_statement ["statement"] [] := T.F_copied_statement.binds (ps := ["statement"]) fun _ _ _ _ _ _ us hl => match us, hl with | [_], _ => rfl
theorem b_copied {w : World} {K : PySem.W.Frag} {mg : Str → Option Value} (T : Top w K mg) : Binds K T.d_copied ["block"] [] := T.F_copied.binds (ps := ["block"]) fun _ _ _ _ _ _ us hl => match us, hl with | [_], _ => rfl
theorem b_check_block {w : World} {K : PySem.W.Frag} {mg : Str → Option Value} (T : Top w K mg) : Binds K T.d_check_block ["block", "procedure", "ahead", "read", "procedures"] [] := T.F_check_block.binds (ps := ["block", "procedure", "ahead", "read", "procedures"]) fun _ _ _ _ _ _ us hl => match us, hl with | [_, _, _, _, _], _ => rfl
theorem b_check_bodies {w : World} {K : PySem.W.Frag} {mg : Str → Option Value} (T : Top w K mg) : Binds K T.d_check_bodies ["bodies"] [] := T.F_check_bodies.binds (ps := ["bodies"]) fun _ _ _ _ _ _ us hl => match us, hl with | [_], _ => rfl
theorem b_Book___init__ {w : World} {K : PySem.W.Frag} {mg : Str → Option Value} (T : Top w K mg) : Binds K T.d_Book___init__ ["self", "bodies"] [] := T.F_Book___init__.binds (ps := ["self", "bodies"]) fun _ _ _ _ _ _ us hl => match us, hl with | [_, _], _ => rfl
theorem b_Book___len__ {w : World} {K : PySem.W.Frag} {mg : Str → Option Value} (T : Top w K mg) : Binds K T.d_Book___len__ ["self"] [] := T.F_Book___len__.binds (ps := ["self"]) fun _ _ _ _ _ _ us hl => match us, hl with | [_], _ => rfl
theorem b_Book_bodies {w : World} {K : PySem.W.Frag} {mg : Str → Option Value} (T : Top w K mg) : Binds K T.d_Book_bodies ["self"] [] := T.F_Book_bodies.binds (ps := ["self"]) fun _ _ _ _ _ _ us hl => match us, hl with | [_], _ => rfl
theorem b_vector {w : World} {K : PySem.W.Frag} {mg : Str → Option Value} (T : Top w K mg) : Binds K T.d_vector ["pen"] [] := T.F_vector.binds (ps := ["pen"]) fun _ _ _ _ _ _ us hl => match us, hl with | [_], _ => rfl
theorem b_unit_pen {w : World} {K : PySem.W.Frag} {mg : Str → Option Value} (T : Top w K mg) : Binds K T.d_unit_pen ["at"] [] := T.F_unit_pen.binds (ps := ["at"]) fun _ _ _ _ _ _ us hl => match us, hl with | [_], _ => rfl
theorem b_probes {w : World} {K : PySem.W.Frag} {mg : Str → Option Value} (T : Top w K mg) : Binds K T.d_probes [] [] := T.F_probes.binds (ps := []) fun _ _ _ _ _ _ us hl => match us, hl with | [], _ => rfl
theorem b_matrix_from {w : World} {K : PySem.W.Frag} {mg : Str → Option Value} (T : Top w K mg) : Binds K T.d_matrix_from ["ends"] [] := T.F_matrix_from.binds (ps := ["ends"]) fun _ _ _ _ _ _ us hl => match us, hl with | [_], _ => rfl
theorem b_Execution___init__ {w : World} {K : PySem.W.Frag} {mg : Str → Option Value} (T : Top w K mg) : Binds K T.d_Execution___init__ ["self", "procedures", "bits"] [] := T.F_Execution___init__.binds (ps := ["self", "procedures", "bits"]) fun _ _ _ _ _ _ us hl => match us, hl with | [_, _, _], _ => rfl
theorem b_Execution_finish {w : World} {K : PySem.W.Frag} {mg : Str → Option Value} (T : Top w K mg) : Binds K T.d_Execution_finish ["self", "procedure"] [] := T.F_Execution_finish.binds (ps := ["self", "procedure"]) fun _ _ _ _ _ _ us hl => match us, hl with | [_, _], _ => rfl
theorem b_Execution_step {w : World} {K : PySem.W.Frag} {mg : Str → Option Value} (T : Top w K mg) : Binds K T.d_Execution_step ["self", "thing"] [] := T.F_Execution_step.binds (ps := ["self", "thing"]) fun _ _ _ _ _ _ us hl => match us, hl with | [_, _], _ => rfl
theorem b_Execution_enter {w : World} {K : PySem.W.Frag} {mg : Str → Option Value} (T : Top w K mg) : Binds K T.d_Execution_enter ["self", "block"] [] := T.F_Execution_enter.binds (ps := ["self", "block"]) fun _ _ _ _ _ _ us hl => match us, hl with | [_, _], _ => rfl
theorem b_Execution_take {w : World} {K : PySem.W.Frag} {mg : Str → Option Value} (T : Top w K mg) : Binds K T.d_Execution_take ["self"] [] := T.F_Execution_take.binds (ps := ["self"]) fun _ _ _ _ _ _ us hl => match us, hl with | [_], _ => rfl
theorem b_Execution_begin {w : World} {K : PySem.W.Frag} {mg : Str → Option Value} (T : Top w K mg) : Binds K T.d_Execution_begin ["self", "statement"] [] := T.F_Execution_begin.binds (ps := ["self", "statement"]) fun _ _ _ _ _ _ us hl => match us, hl with | [_, _], _ => rfl
theorem b_Execution_unwind {w : World} {K : PySem.W.Frag} {mg : Str → Option Value} (T : Top w K mg) : Binds K T.d_Execution_unwind ["self", "way"] [] := T.F_Execution_unwind.binds (ps := ["self", "way"]) fun _ _ _ _ _ _ us hl => match us, hl with | [_, _], _ => rfl
theorem b_Execution_leave {w : World} {K : PySem.W.Frag} {mg : Str → Option Value} (T : Top w K mg) : Binds K T.d_Execution_leave ["self", "thing", "way"] [] := T.F_Execution_leave.binds (ps := ["self", "thing", "way"]) fun _ _ _ _ _ _ us hl => match us, hl with | [_, _, _], _ => rfl
theorem b_check_bits {w : World} {K : PySem.W.Frag} {mg : Str → Option Value} (T : Top w K mg) : Binds K T.d_check_bits ["bits"] [] := T.F_check_bits.binds (ps := ["bits"]) fun _ _ _ _ _ _ us hl => match us, hl with | [_], _ => rfl
theorem b_executed {w : World} {K : PySem.W.Frag} {mg : Str → Option Value} (T : Top w K mg) : Binds K T.d_executed ["book", "procedure", "bits"] [] := T.F_executed.binds (ps := ["book", "procedure", "bits"]) fun _ _ _ _ _ _ us hl => match us, hl with | [_, _, _], _ => rfl
theorem b_length_of {w : World} {K : PySem.W.Frag} {mg : Str → Option Value} (T : Top w K mg) : Binds K T.d_length_of ["deeds"] [] := T.F_length_of.binds (ps := ["deeds"]) fun _ _ _ _ _ _ us hl => match us, hl with | [_], _ => rfl
theorem b_pens_behind {w : World} {K : PySem.W.Frag} {mg : Str → Option Value} (T : Top w K mg) : Binds K T.d_pens_behind ["deeds", "pen"] [] := T.F_pens_behind.binds (ps := ["deeds", "pen"]) fun _ _ _ _ _ _ us hl => match us, hl with | [_, _], _ => rfl
theorem b_end_of {w : World} {K : PySem.W.Frag} {mg : Str → Option Value} (T : Top w K mg) : Binds K T.d_end_of ["deeds", "pen"] [] := T.F_end_of.binds (ps := ["deeds", "pen"]) fun _ _ _ _ _ _ us hl => match us, hl with | [_, _], _ => rfl
theorem bd_ran {w : World} {K : PySem.W.Frag} {mg : Str → Option Value} (T : Top w K mg) : ∃ ds, Vals [.ref T.a_HOME] ds ∧ Binds K T.d_ran ["book", "procedure", "bits", "pen"] ds := T.FD_ran.binds0 (ps := ["book", "procedure", "bits", "pen"]) 3 (by simp) rfl fun _ _ _ _ _ _ us ks hl hk => match us, ks, hl, hk with | [_, _, _], [_], _, _ => ⟨_, _, _, _, _, _, rfl, rfl, rfl⟩
theorem bk_ran {w : World} {K : PySem.W.Frag} {mg : Str → Option Value} (T : Top w K mg) : KBn K T.d_ran ["book", "procedure", "bits", "pen"] 3 ["pen"] (fun us ws => us ++ ws) (fun us ws => us ++ ws) := kb_all T.F_ran fun _ _ _ _ _ _ us ws hl hk => match us, ws, hl, hk with | [_, _, _], [_], _, _ => rfl
theorem b_run_matrix {w : World} {K : PySem.W.Frag} {mg : Str → Option Value} (T : Top w K mg) : Binds K T.d_run_matrix ["book", "procedure", "bits"] [] := T.F_run_matrix.binds (ps := ["book", "procedure", "bits"]) fun _ _ _ _ _ _ us hl => match us, hl with | [_, _, _], _ => rfl
theorem b__law_pool {w : World} {K : PySem.W.Frag} {mg : Str → Option Value} (T : Top w K mg) : Binds K T.d__law_pool ["_law_script"] [] := T.F__law_pool.binds (ps := ["_law_script"]) fun _ _ _ _ _ _ us hl => match us, hl with | [_], _ => rfl
theorem b__law_draw {w : World} {K : PySem.W.Frag} {mg : Str → Option Value} (T : Top w K mg) : Binds K T.d__law_draw ["_law_pool_here", "_law_many"] [] := T.F__law_draw.binds (ps := ["_law_pool_here", "_law_many"]) fun _ _ _ _ _ _ us hl => match us, hl with | [_, _], _ => rfl
theorem b__law_command {w : World} {K : PySem.W.Frag} {mg : Str → Option Value} (T : Top w K mg) : Binds K T.d__law_command ["_law_pool_here", "_law_mood"] [] := T.F__law_command.binds (ps := ["_law_pool_here", "_law_mood"]) fun _ _ _ _ _ _ us hl => match us, hl with | [_, _], _ => rfl
theorem b__law_pair {w : World} {K : PySem.W.Frag} {mg : Str → Option Value} (T : Top w K mg) : Binds K T.d__law_pair ["_law_pool_here", "_law_mood"] [] := T.F__law_pair.binds (ps := ["_law_pool_here", "_law_mood"]) fun _ _ _ _ _ _ us hl => match us, hl with | [_, _], _ => rfl
theorem b__law_block {w : World} {K : PySem.W.Frag} {mg : Str → Option Value} (T : Top w K mg) : Binds K T.d__law_block ["_law_pool_here", "_law_mood", "_law_level", "_law_room", "_law_calls", "_law_low"] [] := T.F__law_block.binds (ps := ["_law_pool_here", "_law_mood", "_law_level", "_law_room", "_law_calls", "_law_low"]) fun _ _ _ _ _ _ us hl => match us, hl with | [_, _, _, _, _, _], _ => rfl
theorem b__law_piece {w : World} {K : PySem.W.Frag} {mg : Str → Option Value} (T : Top w K mg) : Binds K T.d__law_piece ["_law_pool_here", "_law_mood", "_law_level", "_law_room", "_law_calls", "_law_low"] [] := T.F__law_piece.binds (ps := ["_law_pool_here", "_law_mood", "_law_level", "_law_room", "_law_calls", "_law_low"]) fun _ _ _ _ _ _ us hl => match us, hl with | [_, _, _, _, _, _], _ => rfl
theorem b__law_number {w : World} {K : PySem.W.Frag} {mg : Str → Option Value} (T : Top w K mg) : Binds K T.d__law_number ["_law_pool_here"] [] := T.F__law_number.binds (ps := ["_law_pool_here"]) fun _ _ _ _ _ _ us hl => match us, hl with | [_], _ => rfl
theorem b__law_pen {w : World} {K : PySem.W.Frag} {mg : Str → Option Value} (T : Top w K mg) : Binds K T.d__law_pen ["_law_pool_here"] [] := T.F__law_pen.binds (ps := ["_law_pool_here"]) fun _ _ _ _ _ _ us hl => match us, hl with | [_], _ => rfl
theorem b__law_move {w : World} {K : PySem.W.Frag} {mg : Str → Option Value} (T : Top w K mg) : Binds K T.d__law_move ["_law_begin", "_law_command_here"] [] := T.F__law_move.binds (ps := ["_law_begin", "_law_command_here"]) fun _ _ _ _ _ _ us hl => match us, hl with | [_, _], _ => rfl
theorem b__law_bit {w : World} {K : PySem.W.Frag} {mg : Str → Option Value} (T : Top w K mg) : Binds K T.d__law_bit ["_law_state", "_law_task_here"] [] := T.F__law_bit.binds (ps := ["_law_state", "_law_task_here"]) fun _ _ _ _ _ _ us hl => match us, hl with | [_, _], _ => rfl
theorem b__law_run {w : World} {K : PySem.W.Frag} {mg : Str → Option Value} (T : Top w K mg) : Binds K T.d__law_run ["_law_bodies", "_law_procedure", "_law_bits_here", "_law_extra"] [] := T.F__law_run.binds (ps := ["_law_bodies", "_law_procedure", "_law_bits_here", "_law_extra"]) fun _ _ _ _ _ _ us hl => match us, hl with | [_, _, _, _], _ => rfl
theorem b__law_bits {w : World} {K : PySem.W.Frag} {mg : Str → Option Value} (T : Top w K mg) : Binds K T.d__law_bits ["_law_pool_here", "_law_many"] [] := T.F__law_bits.binds (ps := ["_law_pool_here", "_law_many"]) fun _ _ _ _ _ _ us hl => match us, hl with | [_, _], _ => rfl
theorem b__law_pens {w : World} {K : PySem.W.Frag} {mg : Str → Option Value} (T : Top w K mg) : Binds K T.d__law_pens ["_law_deeds", "_law_begin"] [] := T.F__law_pens.binds (ps := ["_law_deeds", "_law_begin"]) fun _ _ _ _ _ _ us hl => match us, hl with | [_, _], _ => rfl
theorem b__law_probe {w : World} {K : PySem.W.Frag} {mg : Str → Option Value} (T : Top w K mg) : Binds K T.d__law_probe ["_law_deeds"] [] := T.F__law_probe.binds (ps := ["_law_deeds"]) fun _ _ _ _ _ _ us hl => match us, hl with | [_], _ => rfl
theorem b__law_length {w : World} {K : PySem.W.Frag} {mg : Str → Option Value} (T : Top w K mg) : Binds K T.d__law_length ["_law_deeds"] [] := T.F__law_length.binds (ps := ["_law_deeds"]) fun _ _ _ _ _ _ us hl => match us, hl with | [_], _ => rfl
theorem b__law_blocks {w : World} {K : PySem.W.Frag} {mg : Str → Option Value} (T : Top w K mg) : Binds K T.d__law_blocks ["_law_statement"] [] := T.F__law_blocks.binds (ps := ["_law_statement"]) fun _ _ _ _ _ _ us hl => match us, hl with | [_], _ => rfl
theorem b__law_with {w : World} {K : PySem.W.Frag} {mg : Str → Option Value} (T : Top w K mg) : Binds K T.d__law_with ["_law_statement", "_law_blocks_here"] [] := T.F__law_with.binds (ps := ["_law_statement", "_law_blocks_here"]) fun _ _ _ _ _ _ us hl => match us, hl with | [_, _], _ => rfl
theorem b__law_copy {w : World} {K : PySem.W.Frag} {mg : Str → Option Value} (T : Top w K mg) : Binds K T.d__law_copy ["_law_block_here"] [] := T.F__law_copy.binds (ps := ["_law_block_here"]) fun _ _ _ _ _ _ us hl => match us, hl with | [_], _ => rfl
theorem b__law_same {w : World} {K : PySem.W.Frag} {mg : Str → Option Value} (T : Top w K mg) : Binds K T.d__law_same ["_law_one", "_law_other"] [] := T.F__law_same.binds (ps := ["_law_one", "_law_other"]) fun _ _ _ _ _ _ us hl => match us, hl with | [_, _], _ => rfl
theorem b__law_steered {w : World} {K : PySem.W.Frag} {mg : Str → Option Value} (T : Top w K mg) : Binds K T.d__law_steered ["_law_pool_here", "_law_bodies", "_law_procedure", "_law_many", "_law_extra"] [] := T.F__law_steered.binds (ps := ["_law_pool_here", "_law_bodies", "_law_procedure", "_law_many", "_law_extra"]) fun _ _ _ _ _ _ us hl => match us, hl with | [_, _, _, _, _], _ => rfl
theorem b__law_task {w : World} {K : PySem.W.Frag} {mg : Str → Option Value} (T : Top w K mg) : Binds K T.d__law_task ["_law_state", "_law_task_here"] [] := T.F__law_task.binds (ps := ["_law_state", "_law_task_here"]) fun _ _ _ _ _ _ us hl => match us, hl with | [_, _], _ => rfl
theorem b_law {w : World} {K : PySem.W.Frag} {mg : Str → Option Value} (T : Top w K mg) : Binds K T.d_law ["_law_script"] [] := T.F_law.binds (ps := ["_law_script"]) fun _ _ _ _ _ _ us hl => match us, hl with | [_], _ => rfl
--SPLIT
def sp_is_integer : Sp := fun vs H Q _ => ∃ (S : Addr → Prop) (d : PyData) (v : V), vs = [v] ∧ Tr S H d v ∧ Q (.bl (isI d)) H
theorem ok_is_integer (T : Top w K mg) : FnOk P w K mg base CX0 1 T.a_is_integer T.d_is_integer ["thing"] sp_is_integer := by
  refine T.F_is_integer.ok sc_is_integer (fun vs H Q E h => ?_) (fun cdv A outer s H vs Q E hr h => ?_)
  · obtain ⟨S, d, v, rfl, _⟩ := h
    rfl
  · obtain ⟨S, d, v, rfl, hv, q⟩ := h
    refine ⟨_, (pss_one (ps_ret (pe_and (pe_callB (k_isi K) (by rfl) T.z_isinstance bt_isinstance (pa_cons (pv 0) (pa_cons (pe_bltn (v := .ty "int") (by rfl) T.z_int bt_int rfl) pa_nil))) (pe_one (pe_not (pe_callB (k_isi K) (by rfl) T.z_isinstance bt_isinstance (pa_cons (pv 0) (pa_cons (pe_bltn (v := .ty "bool") (by rfl) T.z_bool bt_bool rfl) pa_nil)))))))), ?_⟩
    refine ⟨_, rfl, _, _, _, _, isNum d, rfl, .ty _, tr_ty K hv, ki_int K d, _, rfl, ?_⟩
    cases d with
    | int z => exact iteT ⟨_, rfl, _, _, _, _, _, rfl, .ty _, tr_ty K hv, ki_bool K _, _, rfl, q⟩
    | bool b => exact iteT ⟨_, rfl, _, _, _, _, _, rfl, .ty _, tr_ty K hv, ki_bool K _, _, rfl, q⟩
    | _ => exact q
def sp_is_within (K : PySem.W.Frag) : Sp := fun vs H Q _ => ∃ (S : Addr → Prop) (t : Addr) (d : PyData) (v : V) (l : Int × Int), vs = [v, .ref t] ∧ Tr S H d v ∧ SqT K H t [.int l.1, .int l.2] ∧ Q (.bl (inD d l)) H
theorem ok_is_within (T : Top w K mg) : FnOk P w K mg base CX0 2 T.a_is_within T.d_is_within ["thing", "bounds"] (sp_is_within K) := by
  refine T.F_is_within.ok sc_is_within (fun vs H Q E h => ?_) (fun cdv A outer s H vs Q E hr h => ?_)
  · obtain ⟨S, t, d, v, l, rfl, _⟩ := h
    rfl
  · obtain ⟨S, t, d, v, l, rfl, hv, ht, q⟩ := h
    refine ⟨_, (pss_cons (ps_asg (pv 1) (pg_tup rfl (pgs_cons (pg_name (i := 2) sc_is_within.nd rfl (Or.inl rfl)) (pgs_cons (pg_name (i := 3) sc_is_within.nd rfl (Or.inl rfl)) pgs_nil))))
      (pss_one (ps_ret (pe_and (pe_call (ok_is_integer T) hr (by rfl) T.g_is_integer T.F_is_integer.kp (b_is_integer T) .nil pass0 (pa_cons (pv 0) pa_nil)) (pe_one (pe_chain op_le op_le (pv 2) (pv 0) (pv 3))))))), ?_⟩
    refine ⟨_, rfl, t, _, rfl, ht, rfl, _, _, rfl, _, _, rfl, rfl, ?_⟩
    refine ⟨_, rfl, S, d, v, rfl, hv, ⟨isI d, rfl, ?_⟩⟩
    cases d with
    | int z =>
      cases hv
      refine iteT ⟨_, rfl, _, rfl, _, _, rfl, rfl, _, rfl, ?_⟩
      by_cases h1 : l.1 ≤ z
      · refine iteP h1 ⟨_, rfl, _, _, rfl, rfl, ?_⟩
        have e : inD (.int z) l = decide (z ≤ l.2) := by
          show (decide (l.1 ≤ z) && decide (z ≤ l.2)) = _
          rw [decide_eq_true h1, Bool.true_and]
        rw [e] at q
        exact q
      · refine iteN h1 ?_
        have e : inD (.int z) l = false := by
          show (decide (l.1 ≤ z) && decide (z ≤ l.2)) = _
          rw [decide_eq_false h1, Bool.false_and]
        rw [e] at q
        exact q
    | _ => exact q
def sp_is_bit (K : PySem.W.Frag) : Sp := fun vs H Q _ => ∃ (S : Addr → Prop) (d : PyData) (v : V), vs = [v] ∧ Tr S H d v ∧ ∀ H', Same H H' → Q (.bl (inD d (0, 1))) H'
theorem ok_is_bit (T : Top w K mg) : FnOk P w K mg base CX0 3 T.a_is_bit T.d_is_bit ["thing"] (sp_is_bit K) := by
  refine T.F_is_bit.ok sc_is_bit (fun vs H Q E h => ?_) (fun cdv A outer s H vs Q E hr h => ?_)
  · obtain ⟨S, d, v, rfl, _⟩ := h
    rfl
  · obtain ⟨S, d, v, rfl, hv, q⟩ := h
    refine ⟨_, (pss_one (ps_ret (pe_call (ok_is_within T) hr (by rfl) T.g_is_within T.F_is_within.kp (b_is_within T) .nil pass0 (pa_cons (pv 0) (pa_cons (pe_tup (pa_cons pe_int (pa_cons pe_int pa_nil))) pa_nil))))), ?_⟩
    refine ⟨_, rfl, small100 (n := 2) (by decide), fun t nt => ?_⟩
    have s1 := same_upd (o := .tup [V.int 0, V.int 1]) nt
    exact ⟨S, t, d, v, (0, 1), rfl, hv.same s1, SqT.of upd_same, q _ s1⟩
def sp_is_index (K : PySem.W.Frag) : Sp := fun vs H Q _ => ∃ (S : Addr → Prop) (d : PyData) (v : V) (n : Int), vs = [v, .int n] ∧ Tr S H d v ∧ ∀ H', Same H H' → Q (.bl (inD d (0, n - 1))) H'
theorem ok_is_index (T : Top w K mg) : FnOk P w K mg base CX0 3 T.a_is_index T.d_is_index ["thing", "many"] (sp_is_index K) := by
  refine T.F_is_index.ok sc_is_index (fun vs H Q E h => ?_) (fun cdv A outer s H vs Q E hr h => ?_)
  · obtain ⟨S, d, v, n, rfl, _⟩ := h
    rfl
  · obtain ⟨S, d, v, n, rfl, hv, q⟩ := h
    refine ⟨_, (pss_one (ps_ret (pe_call (ok_is_within T) hr (by rfl) T.g_is_within T.F_is_within.kp (b_is_within T) .nil pass0 (pa_cons (pv 0) (pa_cons (pe_tup (pa_cons pe_int (pa_cons (pe_op op_sub (pv 1) pe_int) pa_nil))) pa_nil))))), ?_⟩
    refine ⟨_, rfl, _, rfl, _, _, rfl, rfl, small100 (n := 2) (by decide), fun t nt => ?_⟩
    have s1 := same_upd (o := .tup [V.int 0, V.int (n - 1)]) nt
    exact ⟨S, t, d, v, (0, n - 1), rfl, hv.same s1, SqT.of upd_same, q _ s1⟩

def sp_is_command : Sp := fun vs H Q _ => ∃ (S : Addr → Prop) (d : PyData) (v : V), vs = [v] ∧ Tr S H d v ∧ WordOk d ∧ ∀ H', Same H H' → Q (.bl (cmdOk d)) H'
theorem zipTake (ns : List PyData) (ls : List (Int × Int)) (i : Nat) {d : PyData} {l : Int × Int} (h1 : ns[i]? = some d) (h2 : ls[i]? = some l) : ((List.zipWith inD ns ls).take (i + 1)).map V.bl = ((List.zipWith inD ns ls).take i).map V.bl ++ [.bl (inD d l)] := by
  rw [List.take_add_one, List.getElem?_zipWith, h1, h2, List.map_append]
  rfl
theorem ok_is_command (T : Top w K mg) : FnOk P w K mg base CX0 3 T.a_is_command T.d_is_command ["thing"] sp_is_command := by
  refine T.F_is_command.ok sc_is_command (fun vs H Q E h => ?_) (fun cdv A outer s H vs Q E hr h => ?_)
  · obtain ⟨S, d, v, rfl, _⟩ := h
    rfl
  · obtain ⟨S, d, v, rfl, hv, hw, q⟩ := h
    refine ⟨_, (pss_cons (ps_if (PW.pt (pw_or (pt_not (pt_val (pe_callB (k_isi K) (by rfl) T.z_isinstance bt_isinstance (pa_cons (pv 0) (pa_cons (pe_bltn (v := .ty "tuple") (by rfl) T.z_tuple bt_tuple rfl) pa_nil))))) (pw_or1 (pt_cmpR op_eq (pe_callB (k_len K) (by rfl) T.z_len bt_len (pa_cons (pv 0) pa_nil)) pe_int (nomark _))))) (pss_one (ps_ret pe_bl)) pss_nil)
      (pss_cons (ps_asg (pv 0) (pg_star K rfl (pg_name (i := 1) sc_is_command.nd rfl (Or.inl rfl)) (pg_name (i := 2) sc_is_command.nd rfl (Or.inl rfl))))
      (pss_cons (ps_if (PW.pt (pw_or (pt_not (pt_val (pe_callB (k_isi K) (by rfl) T.z_isinstance bt_isinstance (pa_cons (pv 1) (pa_cons (pe_bltn (v := .ty "str") (by rfl) T.z_str bt_str rfl) pa_nil))))) (pw_or1 (pt_cmpR (op_notIn_kd T.D_B) (pv 1) (C8.pe_gc rfl T.c_BOUNDS) rfl)))) (pss_one (ps_ret pe_bl)) pss_nil)
      (pss_cons (ps_set (i := 3) sc_is_command.nd rfl (Or.inl rfl) (pe_ix ix_kdict (C8.pe_gc rfl T.c_BOUNDS) (pv 1) (fun _ _ => rfl)))
      (pss_cons (ps_if (pt_cmpR op_ne (pe_callB (k_len K) (by rfl) T.z_len bt_len (pa_cons (pv 2) pa_nil)) (pe_callB (k_len K) (by rfl) T.z_len bt_len (pa_cons (pv 3) pa_nil)) (nomark _)) (pss_one (ps_ret pe_bl)) pss_nil)
      (pss_one (ps_ret (pe_callB (k_all K) (by rfl) T.z_all bt_all (pa_cons (pe_lc (own := [("number", 4), ("pair", 5)]) (g := (gTup K 2 (gCons (gName 4) (gCons (gName 5) gNil)))) (tt := tYes) rfl sc_is_command.nd (pi_zipLT K (by rfl) T.z_zip (pa_cons (pv 2) (pa_cons (pv 3) pa_nil))) (blkOk_by (N := N_is_command) (sc := defScope s_is_command) (by decide +kernel)) (fun _ _ _ _ _ => (pg_tup rfl (pgs_cons (pg_name (i := 4) sc_is_command.nd rfl (Or.inl rfl)) (pgs_cons (pg_name (i := 5) sc_is_command.nd rfl (Or.inl rfl)) pgs_nil)))) (fun _ _ _ _ _ => pts_nil) (fun _ _ _ _ _ => (pe_call (ok_is_within T) hr (by rfl) T.g_is_within T.F_is_within.kp (b_is_within T) .nil pass0 (pa_cons (pv 4) (pa_cons (pv 5) pa_nil))))) pa_nil))))))))), ?_⟩
    cases d with
    | tuple ds =>
      refine ⟨_, rfl, _, _, _, _, _, rfl, .ty _, tr_ty K hv, ki_tuple K _, _, rfl, ?_⟩
      obtain ⟨a, xs, rfl, ha, hs⟩ := hv
      cases ds with
      | nil =>
        cases hs
        exact ⟨_, rfl, _, _, rfl, .inr (SqT.of ha), rfl, _, rfl, iteP rfl (q H (Same.refl _))⟩
      | cons x ns =>
        obtain ⟨y, r, rfl, hx, hr2⟩ := hs
        refine ⟨_, rfl, a, _, rfl, .inr (SqT.of ha), rfl, _, rfl, iteN (fun e => ?_) ?_⟩
        · have := V.int.inj e
          rw [List.length_cons] at this
          omega
        refine ⟨_, rfl, a, _, _, rfl, SqT.of ha, fun b nb => ?_⟩
        have s1 := same_upd (o := .lst r) nb
        have hb : (upd H b (.lst r)) b = some (.lst r) := upd_same
        generalize upd H b (.lst r) = H1 at *
        have hx := hx.same s1
        have hr2 := hr2.same s1
        refine ⟨_, rfl, _, _, _, _, _, rfl, .ty _, tr_ty K hx, ki_str K _, _, rfl, ?_⟩
        cases x with
        | str sw =>
          cases hx
          rcases hw with hw | ⟨c, rfl⟩
          · refine ⟨_, rfl, _, none, rfl, rfl, T.W_B _ hw, _, rfl, ?_⟩
            have e : cmdOk (.tuple (.str sw :: ns)) = false := by
              unfold cmdOk
              dsimp only
              rw [bounds_odd hw]
            rw [← e]
            exact q _ s1
          · obtain ⟨ab, ps, hd, hab, hpl, hll, hps⟩ := T.L_B.row c
            obtain ⟨es, n, u, hl, hk, hn, hu⟩ := id hd
            have hlen : c.nums.length ≤ 2 := by cases c <;> simp [Cm.nums]
            have lr := hr2.len
            refine ⟨_, rfl, _, some u, rfl, rfl, hn, _, rfl, ?_⟩
            refine ⟨_, rfl, _, _, _, rfl, rfl, hd, ?_⟩
            have e : cmdOk (.tuple (.str c.word :: ns)) = (decide (ns.length = c.lims.length) && (List.zipWith inD ns c.lims).all id) := by
              unfold cmdOk
              dsimp only
              rw [bounds_cm]
            by_cases l : ns.length = c.nums.length
            · refine ⟨_, rfl, b, _, rfl, .inl (SqL.of hb), _, rfl, ab, _, rfl, .inr (hab _), rfl, _, rfl, iteNS (by rw [List.length_map, hpl, lr, l]) ?_⟩
              have lz : (List.zipWith inD ns c.lims).length = c.nums.length := by rw [List.length_zipWith, hll, l]; omega
              refine ⟨_, rfl, _, rfl, b, ab, _, _, rfl, SqL.of hb, hab _, fun D nD => ?_⟩
              refine lc_it (walk_zipLT (xs := r) (ys := ps.map V.ref) (n := c.nums.length) (by rw [lr, l]) (by rw [List.length_map, hpl])) (fun i H' => Same H1 H' ∧ H' D = some (.lst (((List.zipWith inD ns c.lims).take i).map V.bl))) ⟨same_upd nD, upd_same⟩ (fun i H' _ h => ⟨SqL.of (h.1 _ _ hb), hab _⟩) (fun i x H' H2 hi h y => ?_) (fun H' h => ?_)
              · obtain ⟨sm, hD⟩ := h
                obtain ⟨t, x, y, rfl, nt, rfl, hx, hy⟩ := y
                have hx : r[i]? = some x := hx
                have hy : (ps.map V.ref)[i]? = some y := hy
                have gy : ps[i]? = some ps[i] := List.getElem?_eq_getElem (by omega)
                rw [List.getElem?_map, gy] at hy
                cases hy
                obtain ⟨lm, hl1, hl2⟩ := hps i _ gy
                obtain ⟨dx, hdx, tx⟩ := hr2.get hx
                have sm2 := sm.trans (same_upd (o := .tup [x, V.ref ps[i]]) nt)
                have hD2 := same_upd (o := .tup [x, V.ref ps[i]]) nt _ _ hD
                refine ⟨t, [x, V.ref ps[i]], rfl, SqT.of upd_same, rfl, _, _, rfl, _, _, rfl, rfl, rfl, _, rfl, _, rfl, S, ps[i], dx, x, lm, rfl, tx.same sm2, hl2 _, _, hD2, ?_, same_new sm2 nD, ?_⟩
                · rw [List.length_map, List.length_take]
                  exact small1000 (by omega)
                · rw [upd_same, zipTake ns c.lims i hdx hl1]
              · rw [← lz, List.take_length] at h
                refine ⟨D, _, rfl, SqL.of h.2, ?_⟩
                have e2 : cmdOk (.tuple (.str c.word :: ns)) = (List.zipWith inD ns c.lims).all id := by rw [e, decide_eq_true (by rw [l, hll]), Bool.true_and]
                rw [← e2]
                exact q _ (s1.trans h.1)
            · refine ⟨_, rfl, b, _, rfl, .inl (SqL.of hb), _, rfl, ab, _, rfl, .inr (hab _), rfl, _, rfl, iteNN (fun e => l (by have := V.int.inj e; rw [List.length_map, hpl, lr] at this; omega)) ?_⟩
              have e2 : cmdOk (.tuple (.str c.word :: ns)) = false := by rw [e, decide_eq_false (by rw [hll]; exact l), Bool.false_and]
              rw [← e2]
              exact q _ s1
        | _ => exact q _ s1
    | _ => exact ⟨_, rfl, _, _, _, _, _, rfl, .ty _, tr_ty K hv, ki_tuple K _, _, rfl, q H (Same.refl _)⟩

--SPLIT
def sp_are_blocks : Sp := fun vs H Q _ => ∃ (S : Addr → Prop) (d : PyData) (v : V) (n : Nat), vs = [v, .int n] ∧ n ≤ 100 ∧ Tr S H d v ∧ ∀ H', Same H H' → Q (.bl (areBl n d)) H'
theorem ok_are_blocks (T : Top w K mg) : FnOk P w K mg base CX0 1 T.a_are_blocks T.d_are_blocks ["thing", "many"] sp_are_blocks := by
  refine T.F_are_blocks.ok sc_are_blocks (fun vs H Q E h => ?_) (fun cdv A outer s H vs Q E hr h => ?_)
  · obtain ⟨S, d, v, n, rfl, _⟩ := h
    rfl
  · obtain ⟨S, d, v, n, rfl, hn, hv, q⟩ := h
    refine ⟨_, (pss_one (ps_ret (pe_and (pe_callB (k_isi K) (by rfl) T.z_isinstance bt_isinstance (pa_cons (pv 0) (pa_cons (pe_bltn (v := .ty "list") (by rfl) T.z_list bt_list rfl) pa_nil))) (pe_and (pe_cmpR op_eq (pe_callB (k_len K) (by rfl) T.z_len bt_len (pa_cons (pv 0) pa_nil)) (pv 1) (nomark _)) (pe_one (pe_callB (k_all K) (by rfl) T.z_all bt_all (pa_cons (pe_lc (own := [("block", 2)]) (g := (gName 2)) (tt := tYes) rfl sc_are_blocks.nd (k_piL K (pv 0)) (blkOk_by (N := N_are_blocks) (sc := defScope s_are_blocks) (by decide +kernel)) (fun _ _ _ _ _ => (pg_name (i := 2) sc_are_blocks.nd rfl (Or.inl rfl))) (fun _ _ _ _ _ => pts_nil) (fun _ _ _ _ _ => (pe_callB (k_isi K) (by rfl) T.z_isinstance bt_isinstance (pa_cons (pv 2) (pa_cons (pe_bltn (v := .ty "list") (by rfl) T.z_list bt_list rfl) pa_nil))))) pa_nil))))))), ?_⟩
    refine ⟨_, rfl, _, _, _, _, _, rfl, .ty _, tr_ty K hv, ki_list K _, _, rfl, ?_⟩
    cases d with
    | list ds =>
      obtain ⟨a, xs, rfl, sa, ha, hs⟩ := hv
      have hl := hs.len
      refine iteT ⟨_, rfl, a, _, rfl, .inl (SqL.of ha), _, rfl, rfl, _, rfl, ?_⟩
      by_cases e : ds.length = n
      · refine iteP (by rw [hl, e]) ?_
        refine ⟨_, rfl, a, rfl, ⟨_, SqL.of ha⟩, fun D nD => ?_⟩
        refine lc_list (xs := xs) (fun i H' => Same H H' ∧ H' D = some (.lst (((ds.map isLs).take i).map V.bl))) ⟨same_upd nD, upd_same⟩ (fun i H' _ h => h.1.seq (SqL.of ha)) (fun i x H' hx h => ?_) (fun H' h => ?_)
        · obtain ⟨dx, hdx, tx⟩ := hs.get hx
          have hi := (List.getElem?_eq_some_iff.mp hx).1
          refine ⟨rfl, _, rfl, _, _, _, _, _, rfl, .ty _, tr_ty K (tx.same h.1), ki_list K _, _, h.2, ?_, same_new h.1 nD, ?_⟩
          · rw [List.length_map, List.length_take]
            exact small1000 (by omega)
          · rw [upd_same, List.take_add_one, List.getElem?_map, hdx, List.map_append]
            rfl
        · rw [hl, ← List.length_map (f := isLs), List.take_length] at h
          refine ⟨D, _, rfl, SqL.of h.2, ?_⟩
          have e2 : areBl n (.list ds) = (ds.map isLs).all id := by
            show (decide (ds.length = n) && ds.all isLs) = _
            rw [decide_eq_true e, Bool.true_and, List.all_map]
            rfl
          rw [← e2]
          exact q _ h.1
      · refine iteN (fun z => e (by have := V.int.inj z; omega)) ?_
        have e2 : areBl n (.list ds) = false := by
          show (decide (ds.length = n) && ds.all isLs) = _
          rw [decide_eq_false e, Bool.false_and]
        rw [← e2]
        exact q _ (Same.refl _)
    | _ => exact q _ (Same.refl _)
def sp_is_call : Sp := fun vs H Q _ => ∃ (S : Addr → Prop) (ds : List PyData) (v : V) (n : Int), vs = [v, .int n] ∧ Tr S H (.tuple ds) v ∧ ∀ H', Same H H' → Q (.bl (callOk n ds)) H'
theorem ok_is_call (T : Top w K mg) : FnOk P w K mg base CX0 4 T.a_is_call T.d_is_call ["thing", "procedures"] sp_is_call := by
  refine T.F_is_call.ok sc_is_call (fun vs H Q E h => ?_) (fun cdv A outer s H vs Q E hr h => ?_)
  · obtain ⟨S, ds, v, n, rfl, _⟩ := h
    rfl
  · obtain ⟨S, ds, v, n, rfl, hv, q⟩ := h
    refine ⟨_, (pss_cons (ps_if (pt_cmpR op_ne (pe_callB (k_len K) (by rfl) T.z_len bt_len (pa_cons (pv 0) pa_nil)) pe_int (nomark _)) (pss_one (ps_ret pe_bl)) pss_nil)
      (pss_cons (ps_asg (pv 0) (pg_tup rfl (pgs_cons (pg_name (i := 2) sc_is_call.nd rfl (Or.inl rfl)) (pgs_cons (pg_name (i := 3) sc_is_call.nd rfl (Or.inl rfl)) (pgs_cons (pg_name (i := 4) sc_is_call.nd rfl (Or.inl rfl)) (pgs_cons (pg_name (i := 5) sc_is_call.nd rfl (Or.inl rfl)) pgs_nil))))))
      (pss_one (ps_ret (pe_and (pe_call (ok_is_index T) hr (by rfl) T.g_is_index T.F_is_index.kp (b_is_index T) .nil pass0 (pa_cons (pv 3) (pa_cons (pv 1) pa_nil))) (pe_and (pe_callB (k_isi K) (by rfl) T.z_isinstance bt_isinstance (pa_cons (pv 4) (pa_cons (pe_bltn (v := .ty "bool") (by rfl) T.z_bool bt_bool rfl) pa_nil))) (pe_one (pe_call (ok_are_blocks T) (hr.mono (by decide)) (by rfl) T.g_are_blocks T.F_are_blocks.kp (b_are_blocks T) .nil pass0 (pa_cons (pv 5) (pa_cons pe_int pa_nil)))))))))), ?_⟩
    obtain ⟨a, xs, rfl, ha, hs⟩ := hv
    have hl := hs.len
    refine ⟨_, rfl, a, _, rfl, .inr (SqT.of ha), rfl, _, rfl, ?_⟩
    by_cases e : ds.length = 4
    · refine iteNS (by rw [hl, e]; rfl) ?_
      match ds, e, hs with
      | [d0, d1, d2, d3], _, ⟨x0, _, e0, t0, x1, _, e1, t1, x2, _, e2, t2, x3, _, e3, t3, e4⟩ =>
        subst e4 e3 e2 e1 e0
        refine ⟨_, rfl, a, _, rfl, SqT.of ha, rfl, _, _, rfl, _, _, rfl, _, _, rfl, _, _, rfl, rfl, ?_⟩
        refine ⟨_, rfl, _, rfl, S, d1, x1, n, rfl, t1, fun H1 s1 => ⟨_, rfl, ?_⟩⟩
        cases c1 : inD d1 (0, n - 1)
        · have e : callOk n [d0, d1, d2, d3] = false := by simp [callOk, c1]
          have q := q _ s1
          rw [e] at q
          exact q
        · refine iteT ⟨_, rfl, _, _, _, _, _, rfl, .ty _, tr_ty K (t2.same s1), ki_bool K _, _, rfl, ?_⟩
          cases c2 : isBl d2
          · have e : callOk n [d0, d1, d2, d3] = false := by simp [callOk, c2]
            have q := q _ s1
            rw [e] at q
            exact q
          · refine iteT ⟨_, rfl, S, d3, x3, 2, rfl, by decide, t3.same s1, fun H2 s2 => ?_⟩
            have e : callOk n [d0, d1, d2, d3] = areBl 2 d3 := by simp [callOk, c1, c2]
            rw [← e]
            exact q _ (s1.trans s2)
    · refine iteNN (fun z => e (by have := V.int.inj z; omega)) ?_
      have e2 : callOk n ds = false := by
        unfold callOk
        split
        · exact absurd rfl e
        · rfl
      rw [← e2]
      exact q _ (Same.refl _)
def sp_is_statement : Sp := fun vs H Q _ => ∃ (S : Addr → Prop) (d : PyData) (v : V) (level n : Int), vs = [v, .int level, .int n] ∧ Tr S H d v ∧ WordOk d ∧ (∀ x r, d = .tuple (x :: r) → SeqAt.shaped x = true) ∧ ∀ H', Same H H' → Q (.bl (stOk level n d)) H'
set_option maxHeartbeats 1000000 in
theorem ok_is_statement (T : Top w K mg) : FnOk P w K mg base CX0 5 T.a_is_statement T.d_is_statement ["thing", "level", "procedures"] sp_is_statement := by
  refine T.F_is_statement.ok sc_is_statement (fun vs H Q E h => ?_) (fun cdv A outer s H vs Q E hr h => ?_)
  · obtain ⟨S, d, v, l, n, rfl, _⟩ := h
    rfl
  · obtain ⟨S, d, v, l, n, rfl, hv, hw, hx, q⟩ := h
    refine ⟨_, (pss_cons (ps_if (pt_val (pe_call (ok_is_command T) (hr.mono (by decide)) (by rfl) T.g_is_command T.F_is_command.kp (b_is_command T) .nil pass0 (pa_cons (pv 0) pa_nil))) (pss_one (ps_ret pe_bl)) pss_nil)
      (pss_cons (ps_if (PW.pt (pw_or (pt_not (pt_val (pe_callB (k_isi K) (by rfl) T.z_isinstance bt_isinstance (pa_cons (pv 0) (pa_cons (pe_bltn (v := .ty "tuple") (by rfl) T.z_tuple bt_tuple rfl) pa_nil))))) (pw_or1 (pt_cmpR op_eq (pe_callB (k_len K) (by rfl) T.z_len bt_len (pa_cons (pv 0) pa_nil)) pe_int (nomark _))))) (pss_one (ps_ret pe_bl)) pss_nil)
      (pss_cons (ps_set (i := 3) sc_is_statement.nd rfl (Or.inl rfl) (pe_ix (k_ixT K) (pv 0) pe_int (fun _ _ => rfl)))
      (pss_cons (ps_if (pt_cmpR (op_eqD (hu64 hr)) (pv 3) pe_str (nomark _)) (pss_one (ps_ret (pe_and (pe_cmpR op_eq (pe_callB (k_len K) (by rfl) T.z_len bt_len (pa_cons (pv 0) pa_nil)) pe_int (nomark _)) (pe_one (pe_call (ok_is_bit T) (hr.mono (by decide)) (by rfl) T.g_is_bit T.F_is_bit.kp (b_is_bit T) .nil pass0 (pa_cons (pe_ix (k_ixT K) (pv 0) pe_int (fun _ _ => rfl)) pa_nil)))))) pss_nil)
      (pss_cons (ps_if (pt_cmpR op_eq (pv 1) (C8.pe_gc rfl T.c_DEEPEST_LEVEL) (nomark _)) (pss_one (ps_ret pe_bl)) pss_nil)
      (pss_cons (ps_if (pt_cmpR (op_eqD (hu64 hr)) (pv 3) pe_str (nomark _)) (pss_one (ps_ret (pe_call (ok_is_call T) hr (by rfl) T.g_is_call T.F_is_call.kp (b_is_call T) .nil pass0 (pa_cons (pv 0) (pa_cons (pv 2) pa_nil))))) pss_nil)
      (pss_cons (ps_if (pt_cmpR (op_eqD (hu64 hr)) (pv 3) pe_str (nomark _)) (pss_one (ps_ret (pe_call (ok_are_blocks T) (hr.mono (by decide)) (by rfl) T.g_are_blocks T.F_are_blocks.kp (b_are_blocks T) .nil pass0 (pa_cons (pe_callTy (k_list K) (by rfl) T.z_list bt_list (pa_cons (pe_slice (k_slT K) (pv 0) (po_some pe_int) po_none) pa_nil)) (pa_cons pe_int pa_nil))))) pss_nil)
      (pss_one (ps_ret (pe_and (pe_cmpR (k_inDT K (hu65 hr)) (pv 3) (pe_tup (pa_cons pe_str (pa_cons pe_str pa_nil))) rfl) (pe_one (pe_call (ok_are_blocks T) (hr.mono (by decide)) (by rfl) T.g_are_blocks T.F_are_blocks.kp (b_are_blocks T) .nil pass0 (pa_cons (pe_callTy (k_list K) (by rfl) T.z_list bt_list (pa_cons (pe_slice (k_slT K) (pv 0) (po_some pe_int) po_none) pa_nil)) (pa_cons pe_int pa_nil)))))))))))))), ?_⟩
    refine ⟨_, rfl, S, d, v, rfl, hv, hw, fun H1 s1 => ⟨_, rfl, ?_⟩⟩
    cases c : cmdOk d
    · refine iteF ?_
      have hv1 := hv.same s1
      have e0 : stOk l n d = stRest l n d := by
        unfold stOk
        rw [c, Bool.false_or]
      refine ⟨_, rfl, _, _, _, _, _, rfl, .ty _, tr_ty K hv1, ki_tuple K _, _, rfl, ?_⟩
      rw [e0] at q
      cases d with
      | tuple ds =>
        obtain ⟨a, xs, rfl, ha, hs⟩ := hv1
        refine iteF ?_
        cases ds with
        | nil =>
          cases hs
          exact ⟨_, rfl, _, _, rfl, .inr (SqT.of ha), rfl, _, rfl, iteP rfl (q _ s1)⟩
        | cons x ns =>
          obtain ⟨y, r, rfl, hy, hr2⟩ := hs
          have hsx := hx x ns rfl
          have e1 : stRest l n (.tuple (x :: ns)) = (if PyData.eqv x (.str "end") then endOk ns
            else if l = 3 then false
            else if PyData.eqv x (.str "call") then callOk n (x :: ns)
            else if PyData.eqv x (.str "either") then areBlT 2 ns
            else (PyData.eqv x (.str "keep") || PyData.eqv x (.str "again")) && areBlT 1 ns) := rfl
          rw [e1] at q
          clear hx hv e0 e1 hw
          refine ⟨_, rfl, a, _, rfl, .inr (SqT.of ha), rfl, _, rfl, iteN (fun e => ?_) ?_⟩
          · have := V.int.inj e
            rw [List.length_cons] at this
            omega
          refine ⟨_, rfl, a, _, 0, y, rfl, rfl, SqT.of ha, at_of (j := 0) (by decide) rfl, ?_⟩
          refine ⟨_, rfl, x, .str "end", Tr.dp x y (canOf hsx) hy, .str _, hsx, sh_str (by decide +kernel), _, rfl, ?_⟩
          have lr := hr2.len
          refine ifB (fun c1 => ?_) (fun c1 => ?_)
          · rw [if_pos c1] at q
            refine ⟨_, rfl, a, _, rfl, .inr (SqT.of ha), rfl, _, rfl, ?_⟩
            match ns, r, hr2, lr with
            | [z], [u], ⟨_, _, e1, tz, e2⟩, _ =>
              cases e1
              refine iteP rfl ⟨_, rfl, a, _, 1, u, rfl, rfl, SqT.of ha, at_of (j := 1) (by decide) rfl, S, z, u, rfl, tz, fun H2 s2 => q _ (s1.trans s2)⟩
            | [], r, _, lr =>
              refine iteN (fun e => ?_) (q _ s1)
              have := V.int.inj e
              rw [List.length_cons, lr] at this
              cases this
            | _ :: _ :: ns', r, _, lr =>
              refine iteN (fun e => ?_) (q _ s1)
              have := V.int.inj e
              rw [List.length_cons, lr, List.length_cons, List.length_cons] at this
              omega
          · rw [if_neg (by rw [c1]; exact Bool.false_ne_true)] at q
            refine ⟨_, rfl, rfl, _, rfl, ite2 (fun c2 => ?_) (fun c2 => ?_)⟩
            · rw [if_pos (dec_int' c2)] at q
              exact q _ s1
            · rw [if_neg (dec_int c2)] at q
              refine ⟨_, rfl, x, .str "call", Tr.dp x y (canOf hsx) hy, .str _, hsx, sh_str (by decide +kernel), _, rfl, ?_⟩
              refine ifB (fun c3 => ?_) (fun c3 => ?_)
              · rw [if_pos c3] at q
                exact ⟨_, rfl, _, rfl, S, x :: ns, .ref a, n, rfl, ⟨a, _, rfl, ha, y, r, rfl, hy, hr2⟩, fun H2 s2 => q _ (s1.trans s2)⟩
              · rw [if_neg (by rw [c3]; exact Bool.false_ne_true)] at q
                refine ⟨_, rfl, x, .str "either", Tr.dp x y (canOf hsx) hy, .str _, hsx, sh_str (by decide +kernel), _, rfl, ?_⟩
                have slice : ∀ (k : Nat) {p2 : V → Hp → Prop}, k ≤ 100 → (∀ H', Same H1 H' → p2 (.bl (areBlT k ns)) H') → ∀ t, H1 t = none → ∀ l, (upd H1 t (.tup (cutV (y :: r) (some 1) none))) l = none → ∃ (S : Addr → Prop) (d : PyData) (v : V) (n : Nat), [V.ref l, V.int (k : Int)] = [v, .int n] ∧ n ≤ 100 ∧ Tr S (upd (upd H1 t (.tup (cutV (y :: r) (some 1) none))) l (.lst (cutV (y :: r) (some 1) none))) d v ∧ ∀ H', Same (upd (upd H1 t (.tup (cutV (y :: r) (some 1) none))) l (.lst (cutV (y :: r) (some 1) none))) H' → p2 (.bl (areBl n d)) H' := by
                  intro k p2 hk hp t nt l nl
                  have s2 := same_upd (o := .tup (cutV (y :: r) (some 1) none)) nt
                  have s3 := s2.trans (same_upd (o := .lst (cutV (y :: r) (some 1) none)) nl)
                  refine ⟨fun _ => True, .list ns, .ref l, k, rfl, hk, ⟨l, r, rfl, True.intro, by rw [upd_same, cut_from1], (TrAll.mono (S' := fun _ => True) (fun _ _ => True.intro) _ _ hr2).same s3⟩, fun H' s4 => hp _ (s3.trans s4)⟩
                refine ifB (fun c4 => ?_) (fun c4 => ?_)
                · rw [if_pos c4] at q
                  refine ⟨_, rfl, _, rfl, a, _, rfl, SqT.of ha, cut_ne1, fun t nt => ⟨t, _, rfl, .inr (SqT.of upd_same), fun l nl => ?_⟩⟩
                  exact slice 2 (by decide) (fun H' s => q _ (s1.trans s)) t nt l nl
                · rw [if_neg (by rw [c4]; exact Bool.false_ne_true)] at q
                  refine ⟨_, rfl, small100 (n := 2) (by decide), fun t0 nt0 => ?_⟩
                  have s0 := same_upd (o := .tup [V.str "keep", V.str "again"]) nt0
                  have ht0 : (upd H1 t0 (.tup [V.str "keep", V.str "again"])) t0 = some (.tup [V.str "keep", V.str "again"]) := upd_same
                  generalize upd H1 t0 (.tup [V.str "keep", V.str "again"]) = H2 at *
                  refine ⟨x, [.str "keep", .str "again"], Tr.dp x y (canOf hsx) (hy.same s0), .tup (SqT.of ht0) (dp_strs ["keep", "again"]), hsx, sh_strs (ss := ["keep", "again"]) (by decide +kernel), _, rfl, ?_⟩
                  have ea : ([PyData.str "keep", PyData.str "again"].any fun z => PyData.eqv z x) = (PyData.eqv x (.str "keep") || PyData.eqv x (.str "again")) := by
                    show (PyData.eqv (.str "keep") x || (PyData.eqv (.str "again") x || false)) = _
                    rw [Bool.or_false, eqv_strC, eqv_strC]
                  rw [ea]
                  refine ifB (fun c5 => ?_) (fun c5 => ?_)
                  · rw [c5, Bool.true_and] at q
                    have ha2 := s0 _ _ ha
                    have hr3 := hr2.same s0
                    refine ⟨_, rfl, _, rfl, a, _, rfl, SqT.of ha2, cut_ne1, fun t nt => ⟨t, _, rfl, .inr (SqT.of upd_same), fun l nl => ?_⟩⟩
                    have s2 := same_upd (o := .tup (cutV (y :: r) (some 1) none)) nt
                    have s3 := s2.trans (same_upd (o := .lst (cutV (y :: r) (some 1) none)) nl)
                    exact ⟨fun _ => True, .list ns, .ref l, 1, rfl, by decide, ⟨l, r, rfl, True.intro, by rw [upd_same, cut_from1], (TrAll.mono (S' := fun _ => True) (fun _ _ => True.intro) _ _ hr3).same s3⟩, fun H' s4 => q _ ((s1.trans s0).trans (s3.trans s4))⟩
                  · rw [c5, Bool.false_and] at q
                    exact q _ (s1.trans s0)
      | _ => exact q _ s1
    · refine iteT ?_
      have e : stOk l n d = true := by
        unfold stOk
        rw [c, Bool.true_or]
      rw [← e]
      exact q _ s1

--SPLIT
section
variable (K : PySem.W.Frag) {X : Cx}
theorem k_inS (hK : X.K = K := by rfl) : OpR X (compareOp .In) (rIn K false) := hK ▸ op_in_seq
theorem k_notInS (hK : X.K = K := by rfl) : OpR X (compareOp .NotIn) (rIn K true) := hK ▸ op_notIn_seq
end
def sp_blocks_of : Sp := fun vs H Q _ => ∃ (S : Addr → Prop) (sw : Str) (r : List PyData) (v : V), vs = [v] ∧ Tr S H (.tuple (.str sw :: r)) v ∧ (sw = "call" → ∃ p q bs, r = [p, q, .list bs]) ∧
  ∀ (q : Addr) (ys : List V) (H' : Hp), Same H H' → (S q ∨ H q = none) → H' q = some (.lst ys) → TrAll S H' (blocksR sw r) ys → Q (.ref q) H'
theorem ok_blocks_of (T : Top w K mg) : FnOk P w K mg base CX0 1 T.a_blocks_of T.d_blocks_of ["statement"] sp_blocks_of := by
  refine T.F_blocks_of.ok sc_blocks_of (fun vs H Q E h => ?_) (fun cdv A outer s H vs Q E hr h => ?_)
  · obtain ⟨S, sw, r, v, rfl, _⟩ := h
    rfl
  · obtain ⟨S, sw, r, v, rfl, hv, hc, q⟩ := h
    obtain ⟨a, xs, rfl, ha, y, us, rfl, hy, hs⟩ := hv
    cases hy
    refine ⟨_, (pss_cons (ps_set (i := 1) sc_blocks_of.nd rfl (Or.inl rfl) (pe_ix (k_ixT K) (pv 0) pe_int (fun _ _ => rfl)))
      (pss_cons (ps_if (pt_cmpR op_eq (pv 1) pe_str (nomark _)) (pss_one (ps_ret (pe_ix (k_ixT K) (pv 0) pe_int (fun _ _ => rfl)))) pss_nil)
      (pss_cons (ps_if (pt_cmpR (k_inS K) (pv 1) (pe_tup (pa_cons pe_str (pa_cons pe_str (pa_cons pe_str pa_nil)))) rfl) (pss_one (ps_ret (pe_callTy (k_list K) (by rfl) T.z_list bt_list (pa_cons (pe_slice (k_slT K) (pv 0) (po_some pe_int) po_none) pa_nil)))) pss_nil)
      (pss_one (ps_ret (pe_lst pa_nil)))))), ?_⟩
    refine ⟨_, rfl, a, _, 0, _, rfl, rfl, SqT.of ha, at_of (j := 0) (by decide) rfl, ?_⟩
    refine ⟨_, rfl, rfl, _, rfl, ite2 (fun c => ?_) (fun c => ?_)⟩
    · have c : sw = "call" := V.str.inj (of_decide_eq_true c)
      obtain ⟨p, z, bs, rfl⟩ := hc c
      obtain ⟨x1, _, rfl, t1, x2, _, rfl, t2, x3, _, rfl, ⟨b, ys, rfl, sb, hb, tb⟩, rfl⟩ := hs
      refine ⟨_, rfl, a, _, 3, _, rfl, rfl, SqT.of ha, at_of (j := 3) (by decide) rfl, ?_⟩
      refine q b ys H (Same.refl _) (.inl sb) hb ?_
      rw [blocksR, if_pos c]
      exact tb
    · have c : ¬ sw = "call" := fun e => c (by rw [e]; exact decide_eq_true rfl)
      refine ⟨_, rfl, small100 (n := 3) (by decide), fun t nt => ?_⟩
      have s1 := same_upd (o := .tup [V.str "keep", V.str "either", V.str "again"]) nt
      have ht : (upd H t (.tup [V.str "keep", V.str "either", V.str "again"])) t = some (.tup [V.str "keep", V.str "either", V.str "again"]) := upd_same
      generalize upd H t (.tup [V.str "keep", V.str "either", V.str "again"]) = H1 at *
      refine ⟨t, _, rfl, .inr (SqT.of ht), rfl, rfl, _, rfl, ifB (fun c2 => ?_) (fun c2 => ?_)⟩
      · have hb : blocksR sw r = r := by
          rw [blocksR, if_neg c, if_pos (show isBlk sw = true from c2)]
        refine ⟨_, rfl, _, rfl, a, _, rfl, SqT.of (s1 _ _ ha), cut_ne1, fun u nu => ⟨u, _, rfl, .inr (SqT.of upd_same), fun l nl => ?_⟩⟩
        have s2 := same_upd (o := .tup (cutV (V.str sw :: us) (some 1) none)) nu
        have s3 := s2.trans (same_upd (o := .lst (cutV (V.str sw :: us) (some 1) none)) nl)
        exact q l us _ (s1.trans s3) (.inr ((s1.trans s2).free nl)) (by rw [upd_same, cut_from1]) (by rw [hb]; exact hs.same (s1.trans s3))
      · have hb : blocksR sw r = [] := by
          rw [blocksR, if_neg c, if_neg (by rw [show isBlk sw = false from c2]; exact Bool.false_ne_true)]
        refine ⟨small100 (n := 0) (by decide), fun l nl => ?_⟩
        exact q l [] _ (s1.trans (same_upd nl)) (.inr (s1.free nl)) upd_same (by rw [hb]; exact TrAll.nil)
def sp_with_blocks : Sp := fun vs H Q _ => ∃ (S S' : Addr → Prop) (z : Stm) (v : V) (b : Addr) (ys : List V), vs = [v, .ref b] ∧ Tr S H z.d v ∧ S' b ∧ H b = some (.lst ys) ∧ TrAll S' H (z.blocks.map bD) ys ∧
  ∀ (r : V) (H' : Hp), Same H H' → Tr S' H' z.d r → Q r H'
theorem ok_with_blocks (T : Top w K mg) : FnOk P w K mg base CX0 1 T.a_with_blocks T.d_with_blocks ["statement", "blocks"] sp_with_blocks := by
  refine T.F_with_blocks.ok sc_with_blocks (fun vs H Q E h => ?_) (fun cdv A outer s H vs Q E hr h => ?_)
  · obtain ⟨S, S', z, v, b, ys, rfl, _⟩ := h
    rfl
  · obtain ⟨S, S', z, v, b, ys, rfl, hv, sb, hb, tb, q⟩ := h
    rw [Stm.d_eq] at hv
    obtain ⟨a, xs, rfl, ha, y, us, rfl, hy, hs⟩ := hv
    cases hy
    refine ⟨_, (pss_cons (ps_set (i := 2) sc_with_blocks.nd rfl (Or.inl rfl) (pe_ix (k_ixT K) (pv 0) pe_int (fun _ _ => rfl)))
      (pss_cons (ps_if (pt_cmpR op_eq (pv 2) pe_str (nomark _)) (pss_one (ps_ret (pe_tup (k_star K (pe_slice (k_slT K) (pv 0) po_none (po_some pe_int)) (pa_cons (pv 1) pa_nil))))) pss_nil)
      (pss_cons (ps_if (pt_cmpR (k_inS K) (pv 2) (pe_tup (pa_cons pe_str (pa_cons pe_str (pa_cons pe_str pa_nil)))) rfl) (pss_one (ps_ret (pe_tup (pa_cons (pv 2) (k_star K (pv 1) pa_nil))))) pss_nil)
      (pss_one (ps_ret (pv 0)))))), ?_⟩
    refine ⟨_, rfl, a, _, 0, _, rfl, rfl, SqT.of ha, at_of (j := 0) (by decide) rfl, ?_⟩
    refine ⟨_, rfl, rfl, _, rfl, ite2 (fun c => ?_) (fun c => ?_)⟩
    · have c : z.word = "call" := V.str.inj (of_decide_eq_true c)
      cases z with
      | call p sv b0 b1 =>
        obtain ⟨x1, _, rfl, t1, x2, _, rfl, t2, x3, _, rfl, t3, rfl⟩ := hs
        cases t1
        cases t2
        refine ⟨_, rfl, _, rfl, a, _, rfl, SqT.of ha, cut_ne (n := 3) (xs := [V.str (Stm.call p sv b0 b1).word, V.int p, V.bl sv, x3]) (by show 3 < 4; decide), fun u nu => ⟨u, _, rfl, .inl (SqT.of upd_same), ?_⟩⟩
        have s1 := same_upd (o := .tup (cutV [V.str (Stm.call p sv b0 b1).word, V.int p, V.bl sv, x3] none (some 3))) nu
        refine ⟨_, rfl, ?_⟩
        rw [show cutV [V.str (Stm.call p sv b0 b1).word, V.int p, V.bl sv, x3] none (some 3) = [V.str "call", V.int p, V.bl sv] from cut_to (n := 3)] at *
        refine ⟨small100 (n := 4) (by decide), fun t nt => ?_⟩
        have s2 := s1.trans (same_upd (o := .tup [V.str "call", V.int p, V.bl sv, V.ref b]) nt)
        refine q _ _ s2 ?_
        refine ⟨t, _, rfl, upd_same, .cons rfl (.cons rfl (.cons rfl (.cons ?_ .nil)))⟩
        exact ⟨b, ys, rfl, sb, s2 _ _ hb, tb.same s2⟩
      | cmd c' => exact absurd c (cm_call c')
      | fin w => exact absurd c (show ¬ ("end" : Str) = "call" by decide +kernel)
      | keep w => exact absurd c (show ¬ ("keep" : Str) = "call" by decide +kernel)
      | again w => exact absurd c (show ¬ ("again" : Str) = "call" by decide +kernel)
      | either w z => exact absurd c (show ¬ ("either" : Str) = "call" by decide +kernel)
    · have c : ¬ z.word = "call" := fun e => c (by rw [e]; exact decide_eq_true rfl)
      refine ⟨_, rfl, small100 (n := 3) (by decide), fun t nt => ?_⟩
      have s1 := same_upd (o := .tup [V.str "keep", V.str "either", V.str "again"]) nt
      have ht : (upd H t (.tup [V.str "keep", V.str "either", V.str "again"])) t = some (.tup [V.str "keep", V.str "either", V.str "again"]) := upd_same
      generalize upd H t (.tup [V.str "keep", V.str "either", V.str "again"]) = H1 at *
      refine ⟨t, _, rfl, .inr (SqT.of ht), rfl, rfl, _, rfl, ifB (fun c2 => ?_) (fun c2 => ?_)⟩
      · have hz : z.rest = z.blocks.map bD := by
          have := blocksR_d z
          rw [blocksR, if_neg c, if_pos (show isBlk z.word = true from c2)] at this
          exact this
        have hl := tb.len
        have hl2 := z.rest_len
        rw [← hz] at hl tb
        refine ⟨_, rfl, _, rfl, b, _, rfl, .inr (SqL.of (s1 _ _ hb)), ?_⟩
        refine ⟨small100 (n := (V.str z.word :: (ys ++ [])).length) (by rw [List.append_nil, List.length_cons]; omega), fun u nu => ?_⟩
        rw [List.append_nil] at *
        have s2 := s1.trans (same_upd (o := .tup (V.str z.word :: ys)) nu)
        refine q _ _ s2 ?_
        rw [Stm.d_eq]
        exact ⟨u, _, rfl, upd_same, .cons rfl (tb.same s2)⟩
      · refine ⟨_, rfl, q _ _ s1 ?_⟩
        rw [Stm.d_eq]
        have flat : ∀ {us : List V}, TrAll S H z.rest us → TrAll S' H1 z.rest us := by
          intro us hs
          cases z with
          | cmd c' =>
            have hs : TrAll S H (c'.nums.map PyData.int) us := hs
            rw [hs.ints]
            exact TrAll.ofInts c'.nums
          | fin w' =>
            obtain ⟨x, r', rfl, t, rfl⟩ := hs
            exact ⟨x, [], rfl, t, rfl⟩
          | call p sv b0 b1 => exact absurd rfl c
          | keep b0 => exact absurd (show isBlk "keep" = true by decide +kernel) (by rw [show isBlk "keep" = false from c2]; exact Bool.false_ne_true)
          | again b0 => exact absurd (show isBlk "again" = true by decide +kernel) (by rw [show isBlk "again" = false from c2]; exact Bool.false_ne_true)
          | either b0 b1 => exact absurd (show isBlk "either" = true by decide +kernel) (by rw [show isBlk "either" = false from c2]; exact Bool.false_ne_true)
        exact ⟨a, _, rfl, s1 _ _ ha, .cons rfl (flat hs)⟩

/-! ### copies -/
def sp_copied (n : Nat) : Sp := fun vs H Q _ => ∃ (S : Addr → Prop) (b : List Stm) (v : V) (many l : Nat), vs = [v] ∧ Tr S H (bD b) v ∧ b.length ≤ 8 ∧ okB many b l ∧ l ≤ 3 ∧ 4 ≤ l + n ∧
  ∀ (r : V) (H' : Hp), Same H H' → Tr (New H) H' (bD b) r → Q r H'
def sp_copied_statement (n : Nat) : Sp := fun vs H Q _ => ∃ (S : Addr → Prop) (z : Stm) (v : V) (many l : Nat), vs = [v] ∧ Tr S H z.d v ∧ z.ok many l ∧ 3 ≤ l + n ∧
  ∀ (r : V) (H' : Hp), Same H H' → Tr (New H) H' z.d r → Q r H'
/-- what a statement's blocks are -/
theorem ok_block {many : Nat} {z : Stm} {l : Nat} (h : z.ok many l) {b : List Stm} (hb : b ∈ z.blocks) : l < 3 ∧ b.length ≤ 8 ∧ okB many b (l + 1) := by
  cases z with
  | cmd c => cases hb
  | fin w => cases hb
  | keep c => cases List.mem_singleton.mp hb; exact h
  | again c => cases List.mem_singleton.mp hb; exact h
  | either c d =>
    rcases List.mem_cons.mp hb with rfl | hb
    · exact ⟨h.1, h.2.1⟩
    · cases List.mem_singleton.mp hb
      exact ⟨h.1, h.2.2⟩
  | call p s c d =>
    rcases List.mem_cons.mp hb with rfl | hb
    · exact ⟨h.1, h.2.2.1⟩
    · cases List.mem_singleton.mp hb
      exact ⟨h.1, h.2.2.2⟩
theorem blocks_len (z : Stm) : z.blocks.length ≤ 2 := by cases z <;> simp [Stm.blocks]
theorem get_blocks {z : Stm} {i : Nat} {d : PyData} (h : (z.blocks.map bD)[i]? = some d) : ∃ b, z.blocks[i]? = some b ∧ b ∈ z.blocks ∧ d = bD b := by
  rw [List.getElem?_map] at h
  cases e : z.blocks[i]? with
  | none => rw [e] at h; cases h
  | some b => rw [e] at h; cases h; exact ⟨b, rfl, List.mem_of_getElem? e, rfl⟩
theorem ok_cs (T : Top w K mg) (n : Nat) (G_copied : FnOk P w K mg base CX0 (2 * n + 2) T.a_copied T.d_copied ["block"] (sp_copied n)) :
    FnOk P w K mg base CX0 (2 * n + 3) T.a_copied_statement T.d_copied_statement ["statement"] (sp_copied_statement n) := by
  refine T.F_copied_statement.ok sc_copied_statement (fun vs H Q E h => ?_) (fun cdv A outer s H vs Q E hr h => ?_)
  · obtain ⟨S, z, v, many, l, rfl, _⟩ := h
    rfl
  · obtain ⟨S, z, v, many, l, rfl, hv, ho, hl, q⟩ := h
    refine ⟨_, (pss_one (ps_ret (pe_call (ok_with_blocks T) (hr.mono (by omega)) (by rfl) T.g_with_blocks T.F_with_blocks.kp (b_with_blocks T) .nil pass0 (pa_cons (pv 0) (pa_cons (pe_lc (own := [("block", 1)]) (g := (gName 1)) (tt := tYes) rfl sc_copied_statement.nd (k_piL K (pe_call (ok_blocks_of T) (hr.mono (by omega)) (by rfl) T.g_blocks_of T.F_blocks_of.kp (b_blocks_of T) .nil pass0 (pa_cons (pv 0) pa_nil))) (blkOk_by (N := N_copied_statement) (sc := defScope s_copied_statement) (by decide +kernel)) (fun _ _ _ _ _ => (pg_name (i := 1) sc_copied_statement.nd rfl (Or.inl rfl))) (fun _ _ _ _ _ => pts_nil) (fun _ _ _ _ _ => (pe_call G_copied (hr.mono (by omega)) (by rfl) T.g_copied T.F_copied.kp (b_copied T) .nil pass0 (pa_cons (pv 1) pa_nil)))) pa_nil))))), ?_⟩
    refine ⟨_, rfl, _, rfl, S, z.word, z.rest, v, rfl, by rw [← Stm.d_eq]; exact hv, fun e => Stm.rest_call e, fun a ys H1 s1 _ ha hs => ?_⟩
    rw [blocksR_d] at hs
    have hl2 := hs.len
    have hl3 := blocks_len z
    rw [List.length_map] at hl2
    refine ⟨a, rfl, ⟨_, SqL.of ha⟩, fun D nD => ?_⟩
    refine lc_list (xs := ys) (fun i H' => Bld H1 D ((z.blocks.map bD).take i) H') (Bld.nil nD) (fun i H' _ h => h.1.seq (SqL.of ha)) (fun i x H' hx h => ?_) (fun H' h => ?_)
    · obtain ⟨d, hd, tx⟩ := hs.get hx
      obtain ⟨b, hb, mb, rfl⟩ := get_blocks hd
      obtain ⟨o1, o2, o3⟩ := ok_block ho mb
      refine ⟨rfl, _, rfl, S, b, x, many, l + 1, rfl, tx.same h.1, o2, o3, by omega, by omega, fun r H2 s2 tr => ?_⟩
      obtain ⟨zs, hD, lz, m⟩ := h.push nD s2 tr
      have hi := (List.getElem?_eq_some_iff.mp hx).1
      refine ⟨zs, hD, ?_, ?_⟩
      · rw [lz, List.length_take]
        exact small1000 (by omega)
      · rw [List.take_add_one, hd]
        exact m
    · rw [hl2, ← List.length_map (f := bD), List.take_length] at h
      obtain ⟨zs, hD, lz⟩ := h.len
      have st := s1.trans h.1
      obtain ⟨_, zs', e', sD, hD', tz⟩ := h.done nD
      cases e'
      refine ⟨S, New H, z, v, D, zs', rfl, hv.same st, s1.free nD, hD', tz.newer s1, fun r H2 s2 tr => ?_⟩
      exact q r H2 (st.trans s2) tr
theorem ok_cp (T : Top w K mg) (n : Nat) (G_copied_statement : FnOk P w K mg base CX0 (2 * n + 3) T.a_copied_statement T.d_copied_statement ["statement"] (sp_copied_statement n)) :
    FnOk P w K mg base CX0 (2 * n + 4) T.a_copied T.d_copied ["block"] (sp_copied (n + 1)) := by
  refine T.F_copied.ok sc_copied (fun vs H Q E h => ?_) (fun cdv A outer s H vs Q E hr h => ?_)
  · obtain ⟨S, z, v, many, l, rfl, _⟩ := h
    rfl
  · obtain ⟨S, b, v, many, l, rfl, hv, h8, ho, hl3, hl, q⟩ := h
    refine ⟨_, (pss_one (ps_ret (pe_lc (own := [("statement", 1)]) (g := (gName 1)) (tt := tYes) rfl sc_copied.nd (k_piL K (pv 0)) (blkOk_by (N := N_copied) (sc := defScope s_copied) (by decide +kernel)) (fun _ _ _ _ _ => (pg_name (i := 1) sc_copied.nd rfl (Or.inl rfl))) (fun _ _ _ _ _ => pts_nil) (fun _ _ _ _ _ => (pe_call G_copied_statement (hr.mono (by omega)) (by rfl) T.g_copied_statement T.F_copied_statement.kp (b_copied_statement T) .nil pass0 (pa_cons (pv 1) pa_nil)))))), ?_⟩
    obtain ⟨a, ys, rfl, sa, ha, hs⟩ := hv
    have hl2 := hs.len
    rw [blkD_len] at hl2
    refine ⟨_, rfl, a, rfl, ⟨_, SqL.of ha⟩, fun D nD => ?_⟩
    refine lc_list (xs := ys) (fun i H' => Bld H D ((blkD b).take i) H') (Bld.nil nD) (fun i H' _ h => h.1.seq (SqL.of ha)) (fun i x H' hx h => ?_) (fun H' h => ?_)
    · obtain ⟨d, hd, tx⟩ := hs.get hx
      obtain ⟨z, hz, rfl⟩ := blkD_get hd
      refine ⟨rfl, _, rfl, S, z, x, many, l, rfl, tx.same h.1, okB_get ho hz, by omega, fun r H2 s2 tr => ?_⟩
      obtain ⟨zs, hD, lz, m⟩ := h.push nD s2 tr
      have hi := (List.getElem?_eq_some_iff.mp hx).1
      refine ⟨zs, hD, ?_, ?_⟩
      · rw [lz, List.length_take]
        exact small1000 (by omega)
      · rw [List.take_add_one, hd]
        exact m
    · rw [hl2, ← blkD_len, List.take_length] at h
      exact q _ _ h.1 (h.done nD)
theorem none_copied (T : Top w K mg) : FnOk P w K mg base CX0 2 T.a_copied T.d_copied ["block"] (sp_copied 0) := by
  have no : ∀ vs H Q E, ¬ sp_copied 0 vs H Q E := fun vs H Q E ⟨_, _, _, _, l, _, _, _, _, h1, h2, _⟩ => by omega
  exact ⟨fun vs H Q E h => absurd h (no vs H Q E), fun A outer s H args us vs Q E _ _ _ _ h => absurd h (no vs H Q E)⟩
theorem all_copied (T : Top w K mg) : ∀ n : Nat, FnOk P w K mg base CX0 (2 * n + 2) T.a_copied T.d_copied ["block"] (sp_copied n)
  | 0 => none_copied T
  | n + 1 => ok_cp T n (ok_cs T n (all_copied T n))
theorem ok_copied (T : Top w K mg) : FnOk P w K mg base CX0 10 T.a_copied T.d_copied ["block"] (sp_copied 4) := all_copied T 4

--SPLIT
/-! ### a good book is accepted -/
def sp_check_block (K : PySem.W.Frag) (n : Nat) : Sp := fun vs H Q _ => ∃ (S : Addr → Prop) (b : List Stm) (v : V) (many l rd : Nat) (pr : Int) (t : Addr) (ps : List V), vs = [v, .int pr, .ref t, .int rd, .int many] ∧ Tr S H (bD b) v ∧ b.length ≤ 8 ∧ okB many b l ∧ l ≤ 3 ∧ 4 ≤ l + n ∧
  H t = some (.tup ps) ∧ ps.length = 2 * l ∧ rd + cntB b ≤ 12 ∧ ∀ H', Same H H' → Q (.int ((rd + cntB b : Nat) : Int)) H'
theorem ok_check_step (T : Top w K mg) (n : Nat) (G_check_block : FnOk P w K mg base CX0 (n + 6) T.a_check_block T.d_check_block ["block", "procedure", "ahead", "read", "procedures"] (sp_check_block K n)) :
    FnOk P w K mg base CX0 (n + 7) T.a_check_block T.d_check_block ["block", "procedure", "ahead", "read", "procedures"] (sp_check_block K (n + 1)) := by
  refine T.F_check_block.ok sc_check_block (fun vs H Q E h => ?_) (fun cdv A outer s H vs Q E hr h => ?_)
  · obtain ⟨S, b, v, many, l, rd, pr, t, ps, rfl, _⟩ := h
    rfl
  · obtain ⟨S, b, v, many, l, rd, pr, t, ps, rfl, hv, h8, ho, hl3, hln, ht, hps, hc, q⟩ := h
    refine ⟨_, (pss_cons (ps_for PassesOwn.never rfl (pi_enum (by rfl) T.z_enumerate (pa_cons (pv 0) pa_nil)) (pg_tup rfl (pgs_cons (pg_name (i := 5) sc_check_block.nd rfl (Or.inl rfl)) (pgs_cons (pg_name (i := 6) sc_check_block.nd rfl (Or.inl rfl)) pgs_nil))) (pss_cons (ps_set (i := 7) sc_check_block.nd rfl (Or.inl rfl) (pe_tup (k_star K (pv 2) (pa_cons (pv 5) pa_nil))))
        (pss_cons (ps_set (i := 3) sc_check_block.nd rfl (Or.inl rfl) (pe_op op_add (pv 3) pe_int))
        (pss_cons (ps_if (PW.pt (pw_or (pt_cmpR op_eq (pv 5) (C8.pe_gc rfl T.c_MOST_IN_A_LIST) (nomark _)) (pw_or1 (pt_cmpR op_gt (pv 3) (C8.pe_gc rfl T.c_MOST_IN_A_PROCEDURE) (nomark _))))) (pss_one ps_never) pss_nil)
        (pss_cons (ps_if (pt_not (pt_val (pe_call (ok_is_statement T) (hr.mono (by omega)) (by rfl) T.g_is_statement T.F_is_statement.kp (b_is_statement T) .nil pass0 (pa_cons (pv 6) (pa_cons (pe_op op_fdiv (pe_callB (k_len K) (by rfl) T.z_len bt_len (pa_cons (pv 7) pa_nil)) pe_int) (pa_cons (pv 4) pa_nil)))))) (pss_one ps_never) pss_nil)
        (pss_one (ps_for PassesOwn.never rfl (pi_enum (by rfl) T.z_enumerate (pa_cons (pe_call (ok_blocks_of T) (hr.mono (by omega)) (by rfl) T.g_blocks_of T.F_blocks_of.kp (b_blocks_of T) .nil pass0 (pa_cons (pv 6) pa_nil)) pa_nil)) (pg_tup rfl (pgs_cons (pg_name (i := 8) sc_check_block.nd rfl (Or.inl rfl)) (pgs_cons (pg_name (i := 9) sc_check_block.nd rfl (Or.inl rfl)) pgs_nil))) (pss_one (ps_set (i := 3) sc_check_block.nd rfl (Or.inl rfl) (pe_call G_check_block (hr.mono (by omega)) (by rfl) T.g_check_block T.F_check_block.kp (b_check_block T) .nil pass0 (pa_cons (pv 9) (pa_cons (pv 1) (pa_cons (pe_tup (k_star K (pv 7) (pa_cons (pv 8) pa_nil))) (pa_cons (pv 3) (pa_cons (pv 4) pa_nil)))))))))))))))
      (pss_one (ps_ret (pv 3)))), ?_⟩
    obtain ⟨a, ys, rfl, sa, ha, hs⟩ := hv
    have hl2 := hs.len
    rw [blkD_len] at hl2
    refine ⟨_, rfl, a, ys, rfl, SqL.of ha, ?_⟩
    refine for_it (walk_enum (xs := ys)) (fun i σ H' => ∃ y5 y6 y7 y8 y9, σ = [some (.ref a), some (.int pr), some (.ref t), some (.int ((rd + cntB (b.take i) : Nat) : Int)), some (.int many), y5, y6, y7, y8, y9] ∧ Same H H') ⟨none, none, none, none, none, rfl, Same.refl _⟩ (fun i σ H' _ h => ?_) (fun i x σ H' H2 hi h y => ?_) (fun σ H' h => ?_)
    · obtain ⟨_, _, _, _, _, _, sm⟩ := h
      exact SqL.of (sm _ _ ha)
    · obtain ⟨y5, y6, y7, y8, y9, rfl, sm⟩ := h
      obtain ⟨u, x, y, rfl, nu, rfl, hx, hy⟩ := y
      cases hx
      have hy : ys[i]? = some y := hy
      obtain ⟨d, hd, tx⟩ := hs.get hy
      obtain ⟨z, hz, rfl⟩ := blkD_get hd
      have oz := okB_get ho hz
      have c1 := cntB_le hz
      have c0 := z.cnt_pos
      have cb := cnt_blocks z
      have s1 := sm.trans (same_upd (o := .tup [V.int (i : Int), y]) nu)
      have hu : (upd H' u (.tup [V.int (i : Int), y])) u = some (.tup [V.int (i : Int), y]) := upd_same
      generalize upd H' u (.tup [V.int (i : Int), y]) = H1 at *
      refine ⟨u, _, rfl, SqT.of hu, rfl, _, _, rfl, _, _, rfl, rfl, ?_⟩
      refine ⟨_, rfl, t, ps, rfl, .inl (SqT.of (s1 _ _ ht)), _, rfl, ?_⟩
      have lp : (ps ++ [V.int (i : Int)]).length = 2 * l + 1 := by rw [List.length_append, hps]; rfl
      refine ⟨small100 (by rw [lp]; omega), fun p np => ?_⟩
      have s2 := s1.trans (same_upd (o := .tup (ps ++ [V.int (i : Int)])) np)
      have hp : (upd H1 p (.tup (ps ++ [V.int (i : Int)]))) p = some (.tup (ps ++ [V.int (i : Int)])) := upd_same
      generalize upd H1 p (.tup (ps ++ [V.int (i : Int)])) = H2 at *
      refine ⟨_, rfl, _, _, rfl, rfl, ?_⟩
      refine ⟨_, rfl, rfl, _, rfl, iteN (fun e => ?_) ?_⟩
      · have := V.int.inj e
        omega
      refine ⟨_, rfl, _, _, rfl, rfl, _, rfl, iteN (fun e => ?_) ?_⟩
      · omega
      refine ⟨_, rfl, _, rfl, p, _, rfl, .inr (SqT.of hp), _, _, rfl, rfl, ⟨by decide, by decide⟩, _, rfl, ?_⟩
      have el : (((ps ++ [V.int (i : Int)]).length : Nat) : Int) / 2 = (l : Int) := by rw [lp]; omega
      dsimp only
      rw [el]
      refine ⟨S, z.d, y, (l : Int), (many : Int), rfl, tx.same s2, wordOk_d z, fun x r e => ?_, fun H3 s3 => ?_⟩
      · rw [Stm.d_eq] at e
        cases e
        exact sh_str (word_ok z)
      refine ⟨_, rfl, ?_⟩
      rw [stOk_ok oz]
      refine ⟨_, rfl, S, z.word, z.rest, y, rfl, by rw [← Stm.d_eq]; exact tx.same (s2.trans s3), fun e => Stm.rest_call e, fun qa zs H4 s4 _ hqa hzs => ?_⟩
      rw [blocksR_d] at hzs
      have s24 := s2.trans (s3.trans s4)
      have hl5 := hzs.len
      rw [List.length_map] at hl5
      refine ⟨qa, zs, rfl, SqL.of hqa, ?_⟩
      refine for_it (walk_enum (xs := zs)) (fun j σ H' => ∃ y8 y9, σ = [some (.ref a), some (.int pr), some (.ref t), some (.int ((rd + cntB (b.take i) + 1 + cntBs (z.blocks.take j) : Nat) : Int)), some (.int many), some (.int i), some y, some (.ref p), y8, y9] ∧ Same H4 H') ⟨y8, y9, rfl, Same.refl _⟩ (fun j σ H' _ h => ?_) (fun j x σ H' H6 hj h y => ?_) (fun σ H' h => ?_)
      · obtain ⟨_, _, _, sj⟩ := h
        exact SqL.of (sj _ _ hqa)
      · obtain ⟨y8, y9, rfl, sj⟩ := h
        obtain ⟨u2, x2, y2, rfl, nu2, rfl, hx2, hy2⟩ := y
        cases hx2
        have hy2 : zs[j]? = some y2 := hy2
        obtain ⟨d2, hd2, tx2⟩ := hzs.get hy2
        obtain ⟨zb, hzb, mzb, rfl⟩ := get_blocks hd2
        obtain ⟨o1, o2, o3⟩ := ok_block oz mzb
        have c2 := cntBs_le hzb
        have s5 := sj.trans (same_upd (o := .tup [V.int (j : Int), y2]) nu2)
        have hu2 : (upd H' u2 (.tup [V.int (j : Int), y2])) u2 = some (.tup [V.int (j : Int), y2]) := upd_same
        generalize upd H' u2 (.tup [V.int (j : Int), y2]) = H5 at *
        refine ⟨u2, _, rfl, SqT.of hu2, rfl, _, _, rfl, _, _, rfl, rfl, ?_⟩
        refine ⟨_, rfl, _, rfl, _, rfl, p, _, rfl, .inl (SqT.of (s5 _ _ ((s3.trans s4) _ _ hp))), _, rfl, small100 (by rw [List.length_append, lp]; show 2 * l + 1 + 1 ≤ 1000; omega), fun p2 np2 => ?_⟩
        have s6 := s5.trans (same_upd (o := .tup (ps ++ [V.int (i : Int)] ++ [V.int (j : Int)])) np2)
        refine ⟨_, rfl, _, rfl, S, zb, y2, many, l + 1, rd + cntB (b.take i) + 1 + cntBs (z.blocks.take j), pr, p2, _, rfl, tx2.same s6, o2, o3, by omega, by omega, upd_same, by rw [List.length_append, lp]; show 2 * l + 1 + 1 = _; omega, by omega, fun H7 s7 => ?_⟩
        refine ⟨some (.int (j : Int)), some y2, ?_, s6.trans s7⟩
        rw [cntBs_take hzb, ← Nat.add_assoc]
        rfl
      · obtain ⟨y8, y9, rfl, sj⟩ := h
        refine ⟨some (.int (i : Int)), some y, some (.ref p), y8, y9, ?_, s24.trans sj⟩
        rw [hl5, List.take_length, cntB_take hz, cb, ← Nat.add_assoc, ← Nat.add_assoc]
    · obtain ⟨y5, y6, y7, y8, y9, rfl, sm⟩ := h
      refine ⟨_, rfl, ?_⟩
      have q := q H' sm
      rw [hl2, List.take_length]
      exact q
theorem none_check (T : Top w K mg) : FnOk P w K mg base CX0 6 T.a_check_block T.d_check_block ["block", "procedure", "ahead", "read", "procedures"] (sp_check_block K 0) := by
  have no : ∀ vs H Q E, ¬ sp_check_block K 0 vs H Q E := fun vs H Q E ⟨_, _, _, _, l, _, _, _, _, _, _, _, _, h1, h2, _⟩ => by omega
  exact ⟨fun vs H Q E h => absurd h (no vs H Q E), fun A outer s H args us vs Q E _ _ _ _ h => absurd h (no vs H Q E)⟩
theorem all_check (T : Top w K mg) : ∀ n : Nat, FnOk P w K mg base CX0 (n + 6) T.a_check_block T.d_check_block ["block", "procedure", "ahead", "read", "procedures"] (sp_check_block K n)
  | 0 => none_check T
  | n + 1 => ok_check_step T n (all_check T n)
theorem ok_check_block (T : Top w K mg) : FnOk P w K mg base CX0 10 T.a_check_block T.d_check_block ["block", "procedure", "ahead", "read", "procedures"] (sp_check_block K 4) := all_check T 4

--SPLIT
/-! ### a book -/
def sp_check_bodies : Sp := fun vs H Q _ => ∃ (S : Addr → Prop) (bs : List (List Stm)) (v : V), vs = [v] ∧ Tr S H (bookD bs) v ∧ OkBook bs ∧ ∀ H', Same H H' → Q .non H'
theorem ok_check_bodies (T : Top w K mg) : FnOk P w K mg base CX0 11 T.a_check_bodies T.d_check_bodies ["bodies"] sp_check_bodies := by
  refine T.F_check_bodies.ok sc_check_bodies (fun vs H Q E h => ?_) (fun cdv A outer s H vs Q E hr h => ?_)
  · obtain ⟨S, bs, v, rfl, _⟩ := h
    rfl
  · obtain ⟨S, bs, v, rfl, hv, ho, q⟩ := h
    refine ⟨_, (pss_cons (ps_if (PW.pt (pw_or (pt_not (pt_val (pe_callB (k_isi K) (by rfl) T.z_isinstance bt_isinstance (pa_cons (pv 0) (pa_cons (pe_bltn (v := .ty "list") (by rfl) T.z_list bt_list rfl) pa_nil))))) (pw_or1 (pt_not (pt_chain op_le op_le pe_int (pe_callB (k_len K) (by rfl) T.z_len bt_len (pa_cons (pv 0) pa_nil)) (C8.pe_gc rfl T.c_MOST_PROCEDURES)))))) (pss_one ps_never) pss_nil)
      (pss_one (ps_for PassesOwn.never rfl (pi_enum (by rfl) T.z_enumerate (pa_cons (pv 0) pa_nil)) (pg_tup rfl (pgs_cons (pg_name (i := 1) sc_check_bodies.nd rfl (Or.inl rfl)) (pgs_cons (pg_name (i := 2) sc_check_bodies.nd rfl (Or.inl rfl)) pgs_nil))) (pss_cons (ps_if (pt_not (pt_val (pe_callB (k_isi K) (by rfl) T.z_isinstance bt_isinstance (pa_cons (pv 2) (pa_cons (pe_bltn (v := .ty "list") (by rfl) T.z_list bt_list rfl) pa_nil))))) (pss_one ps_never) pss_nil)
        (pss_one (ps_expr (pe_call (ok_check_block T) hr (by rfl) T.g_check_block T.F_check_block.kp (b_check_block T) .nil pass0 (pa_cons (pv 2) (pa_cons (pv 1) (pa_cons (pe_tup pa_nil) (pa_cons pe_int (pa_cons (pe_callB (k_len K) (by rfl) T.z_len bt_len (pa_cons (pv 0) pa_nil)) pa_nil)))))))))))), ?_⟩
    refine ⟨_, rfl, _, _, _, _, _, rfl, .ty _, tr_ty K hv, ki_list K _, _, rfl, ?_⟩
    obtain ⟨a, ys, rfl, sa, ha, hs⟩ := hv
    have hl2 := hs.len
    rw [List.length_map] at hl2
    have lo := ho.lo
    have hi := ho.hi
    refine iteF ⟨_, rfl, a, _, rfl, .inl (SqL.of ha), _, _, rfl, rfl, _, rfl, iteP (by rw [hl2]; omega) ⟨_, _, rfl, rfl, _, rfl, ?_⟩⟩
    rw [decide_eq_true (by rw [hl2]; omega)]
    refine ⟨_, rfl, a, ys, rfl, SqL.of ha, ?_⟩
    refine for_it (walk_enum (xs := ys)) (fun i σ H' => ∃ y1 y2, σ = [some (.ref a), y1, y2] ∧ Same H H') ⟨_, _, rfl, Same.refl _⟩ (fun i σ H' _ h => ?_) (fun i x σ H' H2 hi h y => ?_) (fun σ H' h => ?_)
    · obtain ⟨_, _, _, sm⟩ := h
      exact SqL.of (sm _ _ ha)
    · obtain ⟨y1, y2, rfl, sm⟩ := h
      obtain ⟨u, x, y, rfl, nu, rfl, hx, hy⟩ := y
      cases hx
      have hy : ys[i]? = some y := hy
      obtain ⟨d, hd, tx⟩ := hs.get hy
      obtain ⟨b, hb, mb, rfl⟩ := get_bodies hd
      obtain ⟨o1, o2, o3⟩ := ho.each b mb
      have s1 := sm.trans (same_upd (o := .tup [V.int (i : Int), y]) nu)
      have hu : (upd H' u (.tup [V.int (i : Int), y])) u = some (.tup [V.int (i : Int), y]) := upd_same
      generalize upd H' u (.tup [V.int (i : Int), y]) = H1 at *
      refine ⟨u, _, rfl, SqT.of hu, rfl, _, _, rfl, _, _, rfl, rfl, ?_⟩
      refine ⟨_, rfl, _, _, _, _, _, rfl, .ty _, tr_ty K (tx.same s1), ki_list K _, _, rfl, ?_⟩
      refine iteF ⟨_, rfl, _, rfl, small100 (n := 0) (by decide), fun t nt => ?_⟩
      have s2 := s1.trans (same_upd (o := .tup []) nt)
      refine ⟨_, rfl, a, _, rfl, .inl (SqL.of (s2 _ _ ha)), ?_⟩
      refine ⟨S, b, y, bs.length, 0, 0, (i : Int), t, [], by rw [hl2]; rfl, tx.same s2, o1, o3, by decide, by decide, upd_same, rfl, by omega, fun H3 s3 => ?_⟩
      exact ⟨_, _, rfl, s2.trans s3⟩
    · obtain ⟨y1, y2, rfl, sm⟩ := h
      exact q _ sm
section
variable (K : PySem.W.Frag) {X : Cx}
end
def bf (q : Addr) : List (Str × V) := putF "_bodies" (.ref q) []
theorem bf_get (q : Addr) : (bf q).lookup ("_bodies" : Str) = some (.ref q) := by
  unfold bf
  rw [lookup_putF, if_pos rfl]
theorem bf_no (q : Addr) {m : Str} (h : ¬ m = "_bodies") : (bf q).lookup m = none := by
  unfold bf
  rw [lookup_putF, if_neg h]
  rfl
/-- a Book of the bodies bs stands at p, its lists at S -/
def BookV (S : Addr → Prop) (C : Addr) (H : Hp) (p : Addr) (bs : List (List Stm)) : Prop := ∃ dx q, H p = some (.ins C dx (bf q)) ∧ Tr S H (bookD bs) (.ref q)
theorem BookV.kpl {S M : Addr → Prop} {C : Addr} {H H' : Hp} {p : Addr} {bs : List (List Stm)} (k : KpL M H H') (h : ∀ a, S a → ¬ M a) (b : BookV S C H p bs) : BookV S C H' p bs := by
  obtain ⟨dx, q, hp, t⟩ := b
  exact ⟨dx, q, k.ins hp, Tr.kpl k h _ _ t⟩
theorem BookV.same {S : Addr → Prop} {C : Addr} {H H' : Hp} {p : Addr} {bs : List (List Stm)} (k : Same H H') (b : BookV S C H p bs) : BookV S C H' p bs := b.kpl (M := fun _ => False) (KpL.of k) fun _ _ h => h
theorem BookV.mono {S S' : Addr → Prop} {C : Addr} {H : Hp} {p : Addr} {bs : List (List Stm)} (h : ∀ a, S a → S' a) (b : BookV S C H p bs) : BookV S' C H p bs := by
  obtain ⟨dx, q, hp, t⟩ := b
  exact ⟨dx, q, hp, Tr.mono h _ _ t⟩
def sp_Book_init (C : Addr) : Sp := fun vs H Q _ => ∃ (S : Addr → Prop) (p dx : Addr) (v : V) (bs : List (List Stm)), vs = [.ref p, v] ∧ H p = some (.ins C dx []) ∧ Tr S H (bookD bs) v ∧ OkBook bs ∧
  ∀ H', (∀ b o, H b = some o → b ≠ p → H' b = some o) → BookV (New H) C H' p bs → Q .non H'
theorem ok_Book___init__ (T : Top w K mg) : FnOk P w K mg base CX0 12 T.a_Book___init__ T.d_Book___init__ ["self", "bodies"] (sp_Book_init T.C_Book) := by
  refine T.F_Book___init__.ok sc_Book___init__ (fun vs H Q E h => ?_) (fun cdv A outer s H vs Q E hr h => ?_)
  · obtain ⟨S, p, dx, v, bs, rfl, _⟩ := h
    rfl
  · obtain ⟨S, p, dx, v, bs, rfl, hp, hv, ho, q⟩ := h
    refine ⟨_, (pss_cons (ps_expr (pe_call (ok_check_bodies T) hr (by rfl) T.g_check_bodies T.F_check_bodies.kp (b_check_bodies T) .nil pass0 (pa_cons (pv 1) pa_nil)))
      (pss_one (ps_fld (pv 0) (pe_lc (own := [("body", 2)]) (g := (gName 2)) (tt := tYes) rfl sc_Book___init__.nd (k_piL K (pv 1)) (blkOk_by (N := N_Book___init__) (sc := defScope s_Book___init__) (by decide +kernel)) (fun _ _ _ _ _ => (pg_name (i := 2) sc_Book___init__.nd rfl (Or.inl rfl))) (fun _ _ _ _ _ => pts_nil) (fun _ _ _ _ _ => (pe_call (ok_copied T) (hr.mono (by decide)) (by rfl) T.g_copied T.F_copied.kp (b_copied T) .nil pass0 (pa_cons (pv 2) pa_nil)))) rfl))), ?_⟩
    refine ⟨_, rfl, S, bs, v, rfl, hv, ho, fun H1 s1 => ?_⟩
    have hv1 := hv.same s1
    obtain ⟨a, ys, rfl, sa, ha, hs⟩ := hv1
    have hl2 := hs.len
    rw [List.length_map] at hl2
    have hi3 := ho.hi
    refine ⟨_, rfl, a, rfl, ⟨_, SqL.of ha⟩, fun D nD => ?_⟩
    refine lc_list (xs := ys) (fun i H' => Bld H1 D ((bs.map bD).take i) H') (Bld.nil nD) (fun i H' _ h => h.1.seq (SqL.of ha)) (fun i x H' hx h => ?_) (fun H' h => ?_)
    · obtain ⟨d, hd, tx⟩ := hs.get hx
      obtain ⟨b, hb, mb, rfl⟩ := get_bodies hd
      obtain ⟨o1, o2, o3⟩ := ho.each b mb
      refine ⟨rfl, _, rfl, S, b, x, bs.length, 0, rfl, tx.same h.1, o1, o3, by decide, by decide, fun r H2 s2 tr => ?_⟩
      obtain ⟨zs, hD, lz, m⟩ := h.push nD s2 tr
      have hi := (List.getElem?_eq_some_iff.mp hx).1
      refine ⟨zs, hD, ?_, ?_⟩
      · rw [lz, List.length_take]
        exact small1000 (by omega)
      · rw [List.take_add_one, hd]
        exact m
    · rw [hl2, ← List.length_map (f := bD), List.take_length] at h
      have st := s1.trans h.1
      have hp' := st _ _ hp
      refine ⟨_, rfl, p, T.C_Book, dx, [], rfl, hp', T.cl_Book, T.na_Book__bodies, by decide, ?_⟩
      refine q _ (fun b o e nb => by rw [upd_ne nb]; exact st _ _ e) ⟨dx, D, upd_same, ?_⟩
      have t := (h.done nD).newer s1
      exact Tr.put hp' t
/-- Book(v) -/
theorem made {S : Addr → Prop} {C : Addr} {H : Hp} {p dx : Addr} {v : V} {bs : List (List Stm)} {R : Hp → Prop} {E : XK} (hv : Tr S H (bookD bs) v) (ho : OkBook bs) (np : H p = none) (nd : H dx = none) (ne : dx ≠ p)
    (q : ∀ H', Same H H' → BookV (New H) C H' p bs → R H') : sp_Book_init C [.ref p, v] (upd (upd H dx (.own p)) p (.ins C dx [])) (fun z H2 => z = .non ∧ R H2) E := by
  have s1 : Same H (upd (upd H dx (.own p)) p (.ins C dx [])) := fun b o e => by
    rw [upd_ne (ne_of_none e np), upd_ne (ne_of_none e nd)]
    exact e
  refine ⟨S, p, dx, v, bs, rfl, upd_same, hv.same s1, ho, fun H' k b => ⟨rfl, q H' (fun c o e => k c o (s1 _ _ e) (ne_of_none e np)) (b.mono fun a n => s1.free n)⟩⟩

def sp_Book_bodies (C : Addr) : Sp := fun vs H Q _ => ∃ (S : Addr → Prop) (p : Addr) (bs : List (List Stm)), vs = [.ref p] ∧ BookV S C H p bs ∧ OkBook bs ∧ ∀ r H', Same H H' → Tr (New H) H' (bookD bs) r → Q r H'
theorem ok_Book_bodies (T : Top w K mg) : FnOk P w K mg base CX0 11 T.a_Book_bodies T.d_Book_bodies ["self"] (sp_Book_bodies T.C_Book) := by
  refine T.F_Book_bodies.ok sc_Book_bodies (fun vs H Q E h => ?_) (fun cdv A outer s H vs Q E hr h => ?_)
  · obtain ⟨S, p, bs, rfl, _⟩ := h
    rfl
  · obtain ⟨S, p, bs, rfl, ⟨dx, qa, hp, hv⟩, ho, q⟩ := h
    refine ⟨_, (pss_one (ps_ret (pe_lc (own := [("body", 1)]) (g := (gName 1)) (tt := tYes) rfl sc_Book_bodies.nd (k_piL K (pe_fld (pv 0) rfl)) (blkOk_by (N := N_Book_bodies) (sc := defScope s_Book_bodies) (by decide +kernel)) (fun _ _ _ _ _ => (pg_name (i := 1) sc_Book_bodies.nd rfl (Or.inl rfl))) (fun _ _ _ _ _ => pts_nil) (fun _ _ _ _ _ => (pe_call (ok_copied T) hr (by rfl) T.g_copied T.F_copied.kp (b_copied T) .nil pass0 (pa_cons (pv 1) pa_nil)))))), ?_⟩
    obtain ⟨a, ys, ea, sa, ha, hs⟩ := hv
    cases ea
    have hl2 := hs.len
    rw [List.length_map] at hl2
    have hi3 := ho.hi
    refine ⟨_, rfl, p, T.C_Book, dx, _, _, rfl, hp, T.cl_Book, T.na_Book__bodies, bf_get _, qa, rfl, ⟨_, SqL.of ha⟩, fun D nD => ?_⟩
    refine lc_list (xs := ys) (fun i H' => Bld H D ((bs.map bD).take i) H') (Bld.nil nD) (fun i H' _ h => h.1.seq (SqL.of ha)) (fun i x H' hx h => ?_) (fun H' h => ?_)
    · obtain ⟨d, hd, tx⟩ := hs.get hx
      obtain ⟨b, hb, mb, rfl⟩ := get_bodies hd
      obtain ⟨o1, o2, o3⟩ := ho.each b mb
      refine ⟨rfl, _, rfl, S, b, x, bs.length, 0, rfl, tx.same h.1, o1, o3, by decide, by decide, fun r H2 s2 tr => ?_⟩
      obtain ⟨zs, hD, lz, m⟩ := h.push nD s2 tr
      have hi := (List.getElem?_eq_some_iff.mp hx).1
      refine ⟨zs, hD, ?_, ?_⟩
      · rw [lz, List.length_take]
        exact small1000 (by omega)
      · rw [List.take_add_one, hd]
        exact m
    · rw [hl2, ← List.length_map (f := bD), List.take_length] at h
      exact q _ _ h.1 (h.done nD)

def sp_Book_len (C : Addr) : Sp := fun vs H Q _ => ∃ (S : Addr → Prop) (p : Addr) (bs : List (List Stm)), vs = [.ref p] ∧ BookV S C H p bs ∧ Q (.int bs.length) H
theorem ok_Book___len__ (T : Top w K mg) : FnOk P w K mg base CX0 1 T.a_Book___len__ T.d_Book___len__ ["self"] (sp_Book_len T.C_Book) := by
  refine T.F_Book___len__.ok sc_Book___len__ (fun vs H Q E h => ?_) (fun cdv A outer s H vs Q E hr h => ?_)
  · obtain ⟨S, p, bs, rfl, _⟩ := h
    rfl
  · obtain ⟨S, p, bs, rfl, ⟨dx, qa, hp, hv⟩, q⟩ := h
    refine ⟨_, (pss_one (ps_ret (pe_callB (k_len K) (by rfl) T.z_len bt_len (pa_cons (pe_fld (pv 0) rfl) pa_nil)))), ?_⟩
    obtain ⟨a, ys, ea, sa, ha, hs⟩ := hv
    cases ea
    have hl2 := hs.len
    rw [List.length_map] at hl2
    refine ⟨_, rfl, p, T.C_Book, dx, _, _, rfl, hp, T.cl_Book, T.na_Book__bodies, bf_get _, qa, _, rfl, .inl (SqL.of ha), ?_⟩
    rw [hl2]
    exact q

--SPLIT
/-! ### the methods of an execution -/
def sp_Execution_enter (C aH aB : Addr) : Sp := fun vs H Q _ => ∃ (A : ExA) (s : ESt) (b : List Stm) (v : V), vs = [.ref A.e, v] ∧ ExV C aH aB A s H ∧ Tr A.S H (bD b) v ∧ b.length ≤ 8 ∧ s.left.length ≤ 1000000 ∧
  ∀ H', KpM A.M H H' → ExV C aH aB A (enterE b s) H' → Q .non H'
theorem ok_Execution_enter (T : Top w K mg) : FnOk P w K mg base CX0 1 T.a_Execution_enter T.d_Execution_enter ["self", "block"] (sp_Execution_enter T.C_Execution T.a_HOLD T.a_BACK) := by
  refine T.F_Execution_enter.ok sc_Execution_enter (fun vs H Q E h => ?_) (fun cdv A outer sh H vs Q E hr h => ?_)
  · obtain ⟨A, s, b, v, rfl, _⟩ := h
    rfl
  · obtain ⟨A1, s, b, v, rfl, X, hv, h8, h1, q⟩ := h
    refine ⟨_, (pss_one (ps_expr (pe_bm PySem.F.plainAttrs_list PySem.F.slot_list_extend PySem.F.type_list_extend mt_extend (pe_fld (pv 0) rfl) (pa_cons (pe_revL (pv 1)) pa_nil)))), ?_⟩
    obtain ⟨dx, he⟩ := X.ins
    obtain ⟨ls, hl, rl⟩ := X.lft
    obtain ⟨bv, ys, rfl, sb, hb, tb⟩ := hv
    have ly := tb.len
    rw [blkD_len] at ly
    have ll := rl.len
    rw [List.length_reverse] at ll
    refine ⟨_, rfl, A1.e, T.C_Execution, dx, _, _, rfl, he, T.cl_Execution, T.na_Execution_left, exf_left, .inl ⟨rfl, _, .inl (.inl hl)⟩, ?_⟩
    refine ⟨_, rfl, bv, ys, rfl, SqL.of hb, fun p np => ?_⟩
    have sp := same_upd (o := .lst ys.reverse) np
    have hp : upd H p (.lst ys.reverse) p = some (.lst ys.reverse) := upd_same
    have X1 := X.same sp
    have hl1 := sp _ _ hl
    have tb1 := tb.same sp
    have rl1 := AllR.imp (ThV.keep (KpM.of (M := A1.M) sp) X.mut) rl
    generalize upd H p _ = H1 at *
    refine ⟨A1.aL, p, ls, ys.reverse, rfl, rfl, hl1, hp, Nat.le_trans (m := 2000000) (by rw [List.length_reverse]; omega) (by decide), ?_⟩
    have r2 : AllR (ThV A1.S T.a_BACK H1) (enterE b s).left.reverse (ls ++ ys.reverse) := by
      unfold enterE
      rw [List.reverse_append]
      exact AllR.append rl1 (AllR.reverse (th_blk tb1))
    obtain ⟨k, X2⟩ := X1.setLeft r2
    exact q _ ((KpM.of sp).trans k) X2

--SPLIT
theorem ok_NoRun___init__ (T : Top w K mg) : FnOk P w K mg base CX0 1 T.a_NoRun___init__ T.d_NoRun___init__ ["self", "index"] (sp1 T.C_NoRun "index") := by
  refine T.F_NoRun___init__.ok sc_NoRun___init__ (fun vs H Q E h => ?_) (fun cdv A outer s H vs Q E hr h => ?_)
  · obtain ⟨a, x, rfl, _⟩ := h
    rfl
  · obtain ⟨a, x, rfl, ha, q⟩ := h
    refine ⟨_, (pss_one (ps_ost (pv 0) (pv 1))), ?_⟩
    refine ⟨_, rfl, _, rfl, a, T.C_NoRun, rfl, T.O_NoRun, T.no_NoRun_index, .inl ⟨ha, fun dx nd ne => q dx nd ne⟩⟩
/-- raise NoRun(i) -/
theorem made_NR {CE : Addr} {M : Addr → Prop} {H H1 : Hp} {E : XK} {i : Int} (q : ErrR CE M H E i) (k : KpM M H H1) : ∀ a, H1 a = none → sp1 CE "index" (.ref a :: ([V.int i] ++ [])) (upd H1 a (exo a CE none)) (fun v H2 => v = .non ∧ ∃ (d : Addr) (fs : List (Str × V)), H2 a = some (exo a CE (some d)) ∧ H2 d = some (exd d fs) ∧ H1 d = none ∧ E (.ref CE) (some d) (upd (del H2 a) d (.xd fs))) (fun _ _ _ => False) :=
  mk1 [.int i] H1 E rfl fun d fs H' s2 nd hd ef => by
    subst ef
    exact q d H' (k.trans (KpM.of s2)) hd
def sp_Execution_take (C aH aB CE : Addr) : Sp := fun vs H Q E => ∃ (A : ExA) (s : ESt), vs = [.ref A.e] ∧ ExV C aH aB A s H ∧ (A.bits[s.taken]? = none → ErrR CE A.M H E s.taken) ∧
  ∀ b, A.bits[s.taken]? = some b → ∀ H', KpM A.M H H' → ExV C aH aB A { s with taken := s.taken + 1 } H' → Q (bitV b) H'
theorem ok_Execution_take (T : Top w K mg) : FnOk P w K mg base (L2.CX P w) 3 T.a_Execution_take T.d_Execution_take ["self"] (sp_Execution_take T.C_Execution T.a_HOLD T.a_BACK T.C_NoRun) := by
  refine T.F_Execution_take.okX sc_Execution_take (fun vs H Q E h => ?_) (fun cdv A outer sh H vs Q E hr h => ?_)
  · obtain ⟨A, s, rfl, _⟩ := h
    rfl
  · obtain ⟨A1, s, rfl, X, qe, q⟩ := h
    refine ⟨_, (pss_cons (ps_if (pt_cmpR op_eq (pe_fld (pv 0) rfl) (pe_callB (k_len K) (by rfl) T.z_len bt_len (pa_cons (pe_fld (pv 0) rfl) pa_nil)) (nomark _)) (pss_one (ps_raise rfl (takes_of rfl rfl rfl rfl) (pmk_oex T.O_NoRun T.io_NoRun T.to_NoRun (ok_NoRun___init__ T) (hr.mono (by decide)) (b_NoRun___init__ T) .nil pass0 (by rfl) T.g_NoRun (pa_cons (pe_fld (pv 0) rfl) pa_nil)))) pss_nil)
      (pss_cons (ps_fld (pv 0) (pe_op op_add (pe_fld (pv 0) rfl) pe_int) rfl)
      (pss_one (ps_ret (pe_ix (k_ixL K) (pe_fld (pv 0) rfl) (pe_op op_sub (pe_fld (pv 0) rfl) pe_int) (fun _ _ => rfl)))))), ?_⟩
    obtain ⟨dx, he⟩ := X.ins
    have htk := X.tk
    refine ⟨_, rfl, A1.e, T.C_Execution, dx, _, _, rfl, he, T.cl_Execution, T.na_Execution_taken, exf_taken, ?_⟩
    refine ⟨_, rfl, A1.e, T.C_Execution, dx, _, _, rfl, he, T.cl_Execution, T.na_Execution_bits, exf_bits, _, _, rfl, .inl (SqL.of X.bts), rfl, ?_⟩
    rw [List.length_map]
    by_cases e : s.taken = A1.bits.length
    · refine ⟨_, rfl, iteP (show natV s.taken = V.int (A1.bits.length : Int) by rw [e]) ?_⟩
      have qe := qe (by rw [e]; exact List.getElem?_eq_none (Nat.le_refl _))
      refine ⟨_, rfl, A1.e, T.C_Execution, dx, _, _, rfl, he, T.cl_Execution, T.na_Execution_taken, exf_taken, ?_⟩
      exact ⟨by show 1 ≤ 1000; decide, made_NR qe (KpM.of (Same.refl _))⟩
    · have hlt : s.taken < A1.bits.length := by omega
      refine ⟨_, rfl, iteN (show ¬ natV s.taken = V.int (A1.bits.length : Int) from fun h => e (by injection h with h; exact Int.ofNat.inj h)) ?_⟩
      refine ⟨_, rfl, A1.e, T.C_Execution, dx, _, _, rfl, he, T.cl_Execution, T.na_Execution_taken, exf_taken, _, _, rfl, rfl, _, rfl, A1.e, T.C_Execution, dx, _, rfl, he, T.cl_Execution, T.na_Execution_taken, exf_len, ?_⟩
      obtain ⟨k, X1⟩ := X.setIns (t := s.taken + 1) (w := s.way) (dx := dx) (by omega)
      have q := q _ (List.getElem?_eq_getElem hlt) _ k X1
      have he1 : upd H A1.e (.ins T.C_Execution dx (A1.fs (s.taken + 1) s.way)) A1.e = _ := upd_same
      have hb1 := X1.bts
      have ei : ((s.taken + 1 : Nat) : Int) - 1 = (s.taken : Int) := by omega
      refine ⟨_, rfl, A1.e, T.C_Execution, dx, _, _, rfl, he1, T.cl_Execution, T.na_Execution_bits, exf_bits, _, rfl, A1.e, T.C_Execution, dx, _, _, rfl, he1, T.cl_Execution, T.na_Execution_taken, exf_taken, _, _, rfl, rfl, A1.aT, _, _, bitV A1.bits[s.taken], rfl, rfl, SqL.of hb1, ?_, q⟩
      rw [ei]
      exact atI_nat (by rw [List.getElem?_map, List.getElem?_eq_getElem hlt]; rfl)

--SPLIT
def sp_Execution_leave (C aH aB : Addr) : Sp := fun vs H Q _ => ∃ (A : ExA) (s s' : ESt) (p : Nat) (sv w : Bool) (a b : List Stm) (v : V), vs = [.ref A.e, v, .int (wayN w)] ∧ ExV C aH aB A s H ∧ ThV A.S aB H (.beh p sv a b) v ∧ (Th.beh p sv a b).ok ∧ Szd 500000 s ∧ leaveE p sv a b w s = .go s' ∧
  ∀ H', KpM A.M H H' → ExV C aH aB A s' H' → Q .non H'
theorem leave_go {p : Nat} {sv w : Bool} {a b : List Stm} {s s' : ESt} (h : leaveE p sv a b w s = .go s') : ∃ n r, s.begun[p]? = some (n :: r) ∧ s' = { s with begun := s.begun.set p r, deeds := s.deeds ++ (if sv then [.back] else []), left := (if w then b else a).map Th.st ++ s.left, way := wayN w } := by
  unfold leaveE at h
  split at h
  · rename_i n r e
    cases h
    exact ⟨n, r, e, rfl⟩
  · cases h
theorem ok_Execution_leave (T : Top w K mg) : FnOk P w K mg base CX0 2 T.a_Execution_leave T.d_Execution_leave ["self", "thing", "way"] (sp_Execution_leave T.C_Execution T.a_HOLD T.a_BACK) := by
  refine T.F_Execution_leave.ok sc_Execution_leave (fun vs H Q E h => ?_) (fun cdv A outer sh H vs Q E hr h => ?_)
  · obtain ⟨A, s, s', p, sv, w, a, b, v, rfl, _⟩ := h
    rfl
  · obtain ⟨A1, s, s', p, sv, w1, a, b, v, rfl, X, hv, ho, hz, hg, q⟩ := h
    refine ⟨_, (pss_cons (ps_asg (pv 1) (pg_tup rfl (pgs_cons (pg_name (i := 3) sc_Execution_leave.nd rfl (Or.inl rfl)) (pgs_cons (pg_name (i := 4) sc_Execution_leave.nd rfl (Or.inl rfl)) (pgs_cons (pg_name (i := 5) sc_Execution_leave.nd rfl (Or.inl rfl)) (pgs_cons (pg_name (i := 6) sc_Execution_leave.nd rfl (Or.inl rfl)) pgs_nil))))))
      (pss_cons (ps_expr (pe_bm0 PySem.F.plainAttrs_list PySem.F.slot_list_pop PySem.F.type_list_pop mt_pop (pe_ix (k_ixL K) (pe_fld (pv 0) rfl) (pv 4) (fun _ _ => rfl))))
      (C8.pss_cut (ps_if (pt_val (pv 5)) (pss_one (ps_expr (pe_bm PySem.F.plainAttrs_list PySem.F.slot_list_append PySem.F.type_list_append mt_append (pe_fld (pv 0) rfl) (pa_cons (C8.pe_gc rfl T.c_BACK) pa_nil)))) pss_nil)
      (pss_cons (ps_expr (pe_meth (pv 0) T.cl_Execution T.m_Execution_enter (ok_Execution_enter T) (hr.mono (by decide)) (b_Execution_enter T) .nil pass0 (pa_cons (pe_ix (k_ixL K) (pv 6) (pv 2) (fun _ _ => rfl)) pa_nil)))
      (pss_one (ps_fld (pv 0) (pv 2) rfl)))))), ?_⟩
    obtain ⟨dx, he⟩ := X.ins
    obtain ⟨n, r, eb, rfl⟩ := leave_go hg
    obtain ⟨vt, xs, rfl, hvt, tx⟩ := hv
    obtain ⟨x1, _, rfl, t1, x2, _, rfl, t2, x3, _, rfl, t3, x4, _, rfl, t4, rfl⟩ := tx
    have t2 : x2 = .int p := t2
    have t3 : x3 = .bl sv := t3
    subst t2 t3
    refine ⟨_, rfl, vt, _, rfl, SqT.of hvt, rfl, _, _, rfl, _, _, rfl, _, _, rfl, _, _, rfl, rfl, ?_⟩
    obtain ⟨hG, lG, hB⟩ := X.beg
    have hp := (List.getElem?_eq_some_iff.mp eb).1
    obtain ⟨g, eg⟩ : ∃ g, A1.gs[p]? = some g := ⟨_, List.getElem?_eq_getElem (show p < A1.gs.length by omega)⟩
    have hg1 := hB p g _ eg eb
    refine ⟨_, rfl, A1.e, T.C_Execution, dx, _, _, rfl, he, T.cl_Execution, T.na_Execution_begun, exf_begun, _, rfl, A1.aG, _, _, .ref g, rfl, rfl, SqL.of hG, atI_nat (by rw [List.getElem?_map, eg]; rfl), ?_⟩
    have e1 : ((n :: r).reverse.map natV).dropLast = r.reverse.map natV := by rw [List.reverse_cons, List.map_append, List.map_cons, List.map_nil, List.dropLast_concat]
    refine ⟨.inl ⟨rfl, _, .inl (.inl hg1)⟩, g, _, natV n, rfl, rfl, hg1, ?_, ?_⟩
    · rw [List.reverse_cons, List.map_append, List.map_cons, List.map_nil, List.length_append, List.length_singleton, Nat.add_sub_cancel, List.getElem?_append_right (Nat.le_refl _), Nat.sub_self]
      rfl
    · rw [e1]
      obtain ⟨k1, X1⟩ := X.setBegun (ns := r) eg
      have m1 := X.mut
      have t4' := Tr.hold (k1.tr m1) _ _ t4
      clear t4 hvt hg1 hB hG
      generalize upd H g _ = H1 at *
      obtain ⟨dx1, he1⟩ := X1.ins
      refine ⟨fun σ H2 => σ = [some (.ref A1.e), some (.ref vt), some (.int (wayN w1)), some x1, some (.int p), some (.bl sv), some x4] ∧ KpM A1.M H H2 ∧ ExV T.C_Execution T.a_HOLD T.a_BACK A1 { s with begun := s.begun.set p r, deeds := s.deeds ++ (if sv then [.back] else []) } H2 ∧ Tr A1.S H2 (.list [bD a, bD b]) x4, ?_, fun σ H2 h => ?_⟩
      · refine ⟨_, rfl, _, rfl, ?_⟩
        obtain ⟨ds, hd, rd⟩ := X1.dds
        have ld := rd.len
        have hz1 : s.left.length + s.deeds.length ≤ 500000 := hz.1
        cases sv with
        | true =>
          refine iteT ⟨_, rfl, A1.e, T.C_Execution, dx1, _, _, rfl, he1, T.cl_Execution, T.na_Execution_deeds, exf_deeds, .inl ⟨rfl, _, .inl (.inl hd)⟩, A1.aD, ds, .ref T.a_BACK, rfl, rfl, hd, Nat.lt_of_le_of_lt (m := 500000) (by rw [ld]; exact Nat.le_trans (Nat.le_add_left _ _) hz1) (by decide), ?_⟩
          obtain ⟨k2, X2⟩ := X1.setDeeds (ds := ds ++ [.ref T.a_BACK]) (xs := s.deeds ++ [.back]) (AllR.append rd (AllR.one (a := Dd.back) rfl))
          exact ⟨rfl, k1.trans k2, X2, Tr.hold (k2.tr X1.mut) _ _ t4'⟩
        | false =>
          refine iteF ⟨rfl, k1, ?_, t4'⟩
          rw [show s.deeds ++ (if false = true then [Dd.back] else []) = s.deeds from List.append_nil _]
          exact X1
      · obtain ⟨rfl, k2, X2, t5⟩ := h
        obtain ⟨bl, bb, rfl, sbb, hbb, tb⟩ := t5
        obtain ⟨y1, _, rfl, u1, y2, _, rfl, u2, rfl⟩ := tb
        obtain ⟨dx2, he2⟩ := X2.ins
        obtain ⟨o1, o2⟩ := ho
        have ey : atI [y1, y2] (wayN w1) = some (if w1 then y2 else y1) := by cases w1 <;> rfl
        refine ⟨_, rfl, A1.e, dx2, _, rfl, he2, exf_enter, _, rfl, _, rfl, bl, _, wayN w1, _, rfl, rfl, SqL.of hbb, ey, A1, _, if w1 then b else a, if w1 then y2 else y1, rfl, X2, ?_, ?_, ?_, fun H3 k3 X3 => ?_⟩
        · cases w1
          · exact u1
          · exact u2
        · cases w1
          · exact o1.1
          · exact o2.1
        · exact Nat.le_trans (Nat.le_trans (Nat.le_add_right _ _) hz.1) (by decide)
        · obtain ⟨dx3, he3⟩ := X3.ins
          refine ⟨_, rfl, _, rfl, A1.e, T.C_Execution, dx3, _, rfl, he3, T.cl_Execution, T.na_Execution_way, exf_len, ?_⟩
          obtain ⟨k4, X4⟩ := X3.setIns (t := s.taken) (w := wayN w1) (dx := dx3) X.tk
          exact q _ ((k2.trans k3).trans k4) X4

--SPLIT
def OutR (CE C aH aB : Addr) (A : ExA) (H : Hp) (Q : VK) (E : XK) : Out → Prop
  | .go s' => ∀ H', KpM A.M H H' → ExV C aH aB A s' H' → Q .non H'
  | .no i => ErrR CE A.M H E i
  | .bad => False
def sp_Execution_begin (C aH aB CE : Addr) : Sp := fun vs H Q E => ∃ (A : ExA) (s : ESt) (p : Nat) (sv : Bool) (a b : List Stm) (v : V), vs = [.ref A.e, v] ∧ ExV C aH aB A s H ∧ Tr A.S H (Stm.call p sv a b).d v ∧ BodiesOk A.bs ∧ Szd 500000 s ∧ OutR CE C aH aB A H Q E (beginE A.bs p sv a b s)
theorem ok_Execution_begin (T : Top w K mg) : FnOk P w K mg base (L2.CX P w) 3 T.a_Execution_begin T.d_Execution_begin ["self", "statement"] (sp_Execution_begin T.C_Execution T.a_HOLD T.a_BACK T.C_NoRun) := by
  refine T.F_Execution_begin.okX sc_Execution_begin (fun vs H Q E h => ?_) (fun cdv A outer sh H vs Q E hr h => ?_)
  · obtain ⟨A, s, p, sv, a, b, v, rfl, _⟩ := h
    rfl
  · obtain ⟨A1, s, p, sv, a, b, v, rfl, X, hv, hb, hz, q⟩ := h
    refine ⟨_, (pss_cons (ps_asg (pv 1) (pg_tup rfl (pgs_cons (pg_name (i := 2) sc_Execution_begin.nd rfl (Or.inl rfl)) (pgs_cons (pg_name (i := 3) sc_Execution_begin.nd rfl (Or.inl rfl)) (pgs_cons (pg_name (i := 4) sc_Execution_begin.nd rfl (Or.inl rfl)) (pgs_cons (pg_name (i := 5) sc_Execution_begin.nd rfl (Or.inl rfl)) pgs_nil))))))
      (pss_cons (ps_set (i := 6) sc_Execution_begin.nd rfl (Or.inl rfl) (pe_ix (k_ixL K) (pe_fld (pv 0) rfl) (pv 3) (fun _ _ => rfl)))
      (C8.pss_cut (ps_if (PW.pt (pw_and (pt_cmpR op_gt (pe_callB (k_len K) (by rfl) T.z_len bt_len (pa_cons (pv 6) pa_nil)) pe_int (nomark _)) (pw_and1 (pt_cmpR op_eq (pe_ix (k_ixL K) (pv 6) (pe_un un_neg pe_int) (fun _ _ => rfl)) (pe_fld (pv 0) rfl) (nomark _))))) (pss_one (ps_raise rfl (takes_of rfl rfl rfl rfl) (pmk_oex T.O_NoRun T.io_NoRun T.to_NoRun (ok_NoRun___init__ T) (hr.mono (by decide)) (b_NoRun___init__ T) .nil pass0 (by rfl) T.g_NoRun (pa_cons (pe_un un_neg pe_int) pa_nil)))) pss_nil)
      (pss_cons (ps_expr (pe_bm PySem.F.plainAttrs_list PySem.F.slot_list_append PySem.F.type_list_append mt_append (pv 6) (pa_cons (pe_fld (pv 0) rfl) pa_nil)))
      (C8.pss_cut (ps_if (pt_val (pv 4)) (pss_one (ps_expr (pe_bm PySem.F.plainAttrs_list PySem.F.slot_list_append PySem.F.type_list_append mt_append (pe_fld (pv 0) rfl) (pa_cons (C8.pe_gc rfl T.c_HOLD) pa_nil)))) pss_nil)
      (pss_cons (ps_expr (pe_bm PySem.F.plainAttrs_list PySem.F.slot_list_append PySem.F.type_list_append mt_append (pe_fld (pv 0) rfl) (pa_cons (pe_tup (pa_cons pe_str (pa_cons (pv 3) (pa_cons (pv 4) (pa_cons (pv 5) pa_nil))))) pa_nil)))
      (pss_one (ps_expr (pe_meth (pv 0) T.cl_Execution T.m_Execution_enter (ok_Execution_enter T) (hr.mono (by decide)) (b_Execution_enter T) .nil pass0 (pa_cons (pe_ix (k_ixL K) (pe_fld (pv 0) rfl) (pv 3) (fun _ _ => rfl)) pa_nil)))))))))), ?_⟩
    obtain ⟨dx, he⟩ := X.ins
    obtain ⟨vt, xs, rfl, hvt, tx⟩ := hv
    obtain ⟨x1, _, rfl, t1, x2, _, rfl, t2, x3, _, rfl, t3, x4, _, rfl, t4, rfl⟩ := tx
    have t2 : x2 = .int p := t2
    have t3 : x3 = .bl sv := t3
    subst t2 t3
    unfold beginE at q
    cases eb : s.begun[p]? with
    | none => rw [eb] at q; exact q.elim
    | some ns =>
      cases ebd : A1.bs[p]? with
      | none => rw [eb, ebd] at q; exact q.elim
      | some body =>
        rw [eb, ebd] at q
        dsimp only at q
        refine ⟨_, rfl, vt, _, rfl, SqT.of hvt, rfl, _, _, rfl, _, _, rfl, _, _, rfl, _, _, rfl, rfl, ?_⟩
        obtain ⟨hG, lG, hB⟩ := X.beg
        have hp := (List.getElem?_eq_some_iff.mp eb).1
        obtain ⟨g, eg⟩ : ∃ g, A1.gs[p]? = some g := ⟨_, List.getElem?_eq_getElem (show p < A1.gs.length by omega)⟩
        have hg1 := hB p g _ eg eb
        refine ⟨_, rfl, A1.e, T.C_Execution, dx, _, _, rfl, he, T.cl_Execution, T.na_Execution_begun, exf_begun, _, rfl, A1.aG, _, _, .ref g, rfl, rfl, SqL.of hG, atI_nat (by rw [List.getElem?_map, eg]; rfl), ?_⟩
        refine ⟨fun σ H2 => σ = [some (.ref A1.e), some (.ref vt), some x1, some (.int p), some (.bl sv), some x4, some (.ref g)] ∧ H2 = H ∧ ¬ ns.head? = some s.taken, ?_, fun σ H2 h => ?_⟩
        · refine ⟨_, rfl, _, _, rfl, .inl (SqL.of hg1), _, _, rfl, rfl, ?_⟩
          cases ns with
          | nil => exact ⟨_, rfl, iteN (by decide) (iteF ⟨rfl, rfl, by simp⟩)⟩
          | cons n r =>
            have el : ((n :: r).reverse.map natV) = r.reverse.map natV ++ [natV n] := by rw [List.reverse_cons, List.map_append]; rfl
            refine ⟨_, rfl, iteP (by simp) ?_⟩
            refine ⟨_, rfl, _, rfl, g, _, _, natV n, rfl, rfl, SqL.of hg1, by rw [el]; exact atI_last _ _, _, rfl, A1.e, T.C_Execution, dx, _, _, rfl, he, T.cl_Execution, T.na_Execution_taken, exf_taken, rfl, ?_⟩
            by_cases e : n = s.taken
            · subst e
              rw [if_pos (show (s.taken :: r).head? = some s.taken from rfl)] at q
              refine ⟨_, rfl, iteP rfl ⟨_, rfl, ?_⟩⟩
              exact ⟨by show 1 ≤ 1000; decide, made_NR q (KpM.of (Same.refl _))⟩
            · refine ⟨_, rfl, iteN (show ¬ natV n = natV s.taken from fun h => e (by injection h with h; exact Int.ofNat.inj h)) ⟨rfl, rfl, fun h => e (by cases h; rfl)⟩⟩
        · obtain ⟨rfl, rfl, hne⟩ := h
          rw [if_neg hne] at q
          obtain ⟨hz1, hz2⟩ := hz
          have lns := hz2 _ (List.mem_of_getElem? eb)
          refine ⟨_, rfl, .inl ⟨rfl, _, .inl (.inl hg1)⟩, _, rfl, A1.e, T.C_Execution, dx, _, _, rfl, he, T.cl_Execution, T.na_Execution_taken, exf_taken, g, _, natV s.taken, rfl, rfl, hg1, Nat.lt_of_le_of_lt (m := 500000) (by rw [List.length_map, List.length_reverse]; exact lns) (by decide), ?_⟩
          have e1 : ns.reverse.map natV ++ [natV s.taken] = (s.taken :: ns).reverse.map natV := by rw [List.reverse_cons, List.map_append]; rfl
          rw [e1]
          obtain ⟨k1, X1⟩ := X.setBegun (ns := s.taken :: ns) eg
          have t4' := Tr.hold (k1.tr X.mut) _ _ t4
          clear t4 hvt hg1 hB hG
          generalize upd H2 g _ = H1 at *
          obtain ⟨dx1, he1⟩ := X1.ins
          refine ⟨fun σ H3 => σ = [some (.ref A1.e), some (.ref vt), some x1, some (.int p), some (.bl sv), some x4, some (.ref g)] ∧ KpM A1.M H2 H3 ∧ ExV T.C_Execution T.a_HOLD T.a_BACK A1 { s with begun := s.begun.set p (s.taken :: ns), deeds := s.deeds ++ (if sv then [.hold] else []) } H3 ∧ Tr A1.S H3 (.list [bD a, bD b]) x4, ?_, fun σ H3 h => ?_⟩
          · refine ⟨_, rfl, _, rfl, ?_⟩
            obtain ⟨ds, hd, rd⟩ := X1.dds
            have ld := rd.len
            cases sv with
            | true =>
              refine iteT ⟨_, rfl, A1.e, T.C_Execution, dx1, _, _, rfl, he1, T.cl_Execution, T.na_Execution_deeds, exf_deeds, .inl ⟨rfl, _, .inl (.inl hd)⟩, A1.aD, ds, .ref T.a_HOLD, rfl, rfl, hd, Nat.lt_of_le_of_lt (m := 500000) (by rw [ld]; exact Nat.le_trans (Nat.le_add_left _ _) hz1) (by decide), ?_⟩
              obtain ⟨k2, X2⟩ := X1.setDeeds (ds := ds ++ [.ref T.a_HOLD]) (xs := s.deeds ++ [.hold]) (AllR.append rd (AllR.one (a := Dd.hold) rfl))
              exact ⟨rfl, k1.trans k2, X2, Tr.hold (k2.tr X1.mut) _ _ t4'⟩
            | false =>
              refine iteF ⟨rfl, k1, ?_, t4'⟩
              rw [show s.deeds ++ (if false = true then [Dd.hold] else []) = s.deeds from List.append_nil _]
              exact X1
          · obtain ⟨rfl, k2, X2, t5⟩ := h
            obtain ⟨dx2, he2⟩ := X2.ins
            obtain ⟨ls, hl, rl⟩ := X2.lft
            refine ⟨_, rfl, A1.e, T.C_Execution, dx2, _, _, rfl, he2, T.cl_Execution, T.na_Execution_left, exf_left, .inl ⟨rfl, _, .inl (.inl hl)⟩, ?_⟩
            have zl : s.left.length ≤ 500000 := Nat.le_trans (Nat.le_add_right _ _) hz1
            have ll := rl.len
            rw [List.length_reverse] at ll
            refine ⟨_, rfl, _, rfl, _, rfl, small100 (n := 4) (by decide), fun u nu => ?_⟩
            have su := same_upd (o := .tup [.str "behind", .int p, .bl sv, x4]) nu
            have hu : upd H3 u (.tup [.str "behind", .int p, .bl sv, x4]) u = _ := upd_same
            have X3 := X2.same su
            have t6 := Tr.hold ((KpM.of (M := A1.M) su).tr X2.mut) _ _ t5
            have rl1 := AllR.imp (ThV.keep (KpM.of (M := A1.M) su) X2.mut) rl
            have hl1 := su _ _ hl
            have k3 : KpM A1.M H2 (upd H3 u (.tup [.str "behind", .int p, .bl sv, x4])) := k2.trans (KpM.of su)
            generalize upd H3 u _ = H4 at *
            have tb : ThV A1.S T.a_BACK H4 (.beh p sv a b) (.ref u) := ⟨u, _, rfl, hu, _, _, rfl, rfl, _, _, rfl, rfl, _, _, rfl, rfl, _, _, rfl, t6, rfl⟩
            refine ⟨A1.aL, ls, .ref u, rfl, rfl, hl1, Nat.lt_of_le_of_lt (m := 500000) (by rw [ll]; exact zl) (by decide), ?_⟩
            obtain ⟨k4, X4⟩ := X3.setLeft (ls := ls ++ [.ref u]) (xs := .beh p sv a b :: s.left) (by rw [List.reverse_cons]; exact AllR.append rl1 (AllR.one tb))
            generalize upd H4 A1.aL _ = H5 at *
            obtain ⟨dx5, he5⟩ := X4.ins
            obtain ⟨ps, hps, tps⟩ := X4.procs
            have lps := tps.len
            rw [List.length_map] at lps
            have hlt := (List.getElem?_eq_some_iff.mp ebd).1
            obtain ⟨y, ey⟩ : ∃ y, ps[p]? = some y := ⟨_, List.getElem?_eq_getElem (show p < ps.length by omega)⟩
            obtain ⟨d, ed, td⟩ := tps.get ey
            rw [List.getElem?_map, ebd] at ed
            cases ed
            refine ⟨_, rfl, A1.e, dx5, _, rfl, he5, exf_enter, _, rfl, A1.e, T.C_Execution, dx5, _, _, rfl, he5, T.cl_Execution, T.na_Execution_procedures, exf_procedures, _, rfl, A1.aP, ps, _, y, rfl, rfl, SqL.of hps, atI_nat ey, A1, _, body, y, rfl, X4, td, (hb _ (List.mem_of_getElem? ebd)).1, Nat.le_trans (show s.left.length + 1 ≤ 500001 by omega) (by decide), fun H6 k6 X6 => ?_⟩
            exact q _ ((k3.trans k4).trans k6) X6

--SPLIT
def Th.word : Th → Str
  | .st (.cmd c) => c.word
  | .st (.fin _) => "end"
  | .st (.keep _) => "keep"
  | .st (.again _) => "again"
  | .st (.either _ _) => "either"
  | .st (.call _ _ _ _) => "call"
  | .beh _ _ _ _ => "behind"
  | .back => "back"
theorem atI_0 (x : V) (r : List V) : atI (x :: r) 0 = some x := atI_nat (j := 0) rfl
def nine : List Str := ["go", "turn", "mirror", "scale", "aim", "place", "mark", "return", "exchange"]
theorem cm_nine (c : Cm) : c.word ∈ nine := by cases c <;> simp [Cm.word, nine]
theorem cm_neS {s : Str} (h : ¬ s ∈ nine) (c : Cm) : ¬ c.word = s := fun e => h (e ▸ cm_nine c)
theorem th_word {S : Addr → Prop} {aB : Addr} {H : Hp} (hB : ∀ H, SqT K H aB [V.str "back"]) : ∀ {x : Th} {v : V}, ThV S aB H x v → ∃ t xs, v = .ref t ∧ SqT K H t xs ∧ atI xs 0 = some (.str x.word)
  | .st (.cmd c), _, ⟨a, _, e, l, _, _, rfl, rfl, _⟩ => ⟨a, _, e, SqT.of l, atI_0 _ _⟩
  | .st (.fin _), _, ⟨a, _, e, l, _, _, rfl, rfl, _⟩ => ⟨a, _, e, SqT.of l, atI_0 _ _⟩
  | .st (.keep _), _, ⟨a, _, e, l, _, _, rfl, rfl, _⟩ => ⟨a, _, e, SqT.of l, atI_0 _ _⟩
  | .st (.again _), _, ⟨a, _, e, l, _, _, rfl, rfl, _⟩ => ⟨a, _, e, SqT.of l, atI_0 _ _⟩
  | .st (.either _ _), _, ⟨a, _, e, l, _, _, rfl, rfl, _⟩ => ⟨a, _, e, SqT.of l, atI_0 _ _⟩
  | .st (.call _ _ _ _), _, ⟨a, _, e, l, _, _, rfl, rfl, _⟩ => ⟨a, _, e, SqT.of l, atI_0 _ _⟩
  | .beh _ _ _ _, _, ⟨a, _, e, l, _, _, rfl, rfl, _⟩ => ⟨a, _, e, SqT.of l, atI_0 _ _⟩
  | .back, _, e => ⟨aB, _, e, hB H, rfl⟩
def backD : PyData := .tuple [.str "back"]
theorem back_sh : SeqAt.shaped backD = true := by decide +kernel
theorem cm_neB (c : Cm) (s : Str) (h : ∀ c : Cm, ¬ c.word = s) : PyData.eqv (.str c.word) (.str s) = false := by
  rw [PyData.eqv]
  exact beq_eq_false_iff_ne.mpr (h c)
theorem ne_back : ∀ z : Stm, PyData.eqv z.d backD = false
  | .cmd c => by
    show PyData.eqv (.tuple (.str c.word :: c.nums.map .int)) (.tuple [.str "back"]) = false
    rw [PyData.eqv, PyData.eqvAll, cm_neB c "back" (cm_neS (by decide))]
    rfl
  | .fin _ => rfl
  | .keep _ => rfl
  | .again _ => rfl
  | .either _ _ => rfl
  | .call _ _ _ _ => rfl
theorem iteB {b : Bool} {A B : Prop} (h : b = true) (hb : B) : if (!b) = true then A else B := by
  rw [h, if_neg (by decide)]
  exact hb
theorem iteNB {b : Bool} {A B : Prop} (h : b = false) (ha : A) : if (!b) = true then A else B := by
  rw [h]
  exact ha
theorem dec_str (a b : Str) : decide (V.str a = V.str b) = decide (a = b) := by
  by_cases h : a = b
  · subst h; simp
  · rw [decide_eq_false h, decide_eq_false (fun e => h (by injection e))]
def Th.isB : Th → Bool
  | .back => true
  | _ => false
theorem unw_cons {x : Th} {r : List Th} {ds : List Dd} (h : ¬ x.word = "behind") : unwL (x :: r) ds = unwL r (ds ++ if x.isB then [.back] else []) := by
  match x with
  | .st z => show unwL r ds = unwL r (ds ++ []); rw [List.append_nil]
  | .back => rfl
  | .beh _ _ _ _ => exact absurd rfl h
theorem th_neB {x : Th} (h : ¬ x.word = "behind") {S : Addr → Prop} {aB : Addr} {H : Hp} (hB : ∀ H, SqT K H aB [V.str "back"]) {v : V} (t : ThV S aB H x v) (o : x.ok) : ∃ d, Dp K H v d ∧ SeqAt.shaped d = true ∧ PyData.eqv d backD = x.isB := by
  match x with
  | .st z =>
    obtain ⟨many, l, o, hl⟩ := o
    have sh := (fit_stm z l 12 o (by omega)).shaped (by decide)
    exact ⟨z.d, Tr.dp _ _ (canOf sh) t, sh, ne_back z⟩
  | .back =>
    have t : v = .ref aB := t
    subst t
    exact ⟨backD, .tup (hB H) (.cons (.str _) .nil), back_sh, rfl⟩
  | .beh _ _ _ _ => exact absurd rfl h
def sp_Execution_unwind (C aH aB : Addr) : Sp := fun vs H Q _ => ∃ (A : ExA) (s s' : ESt) (w : Bool), vs = [.ref A.e, .int (wayN w)] ∧ ExV C aH aB A s H ∧ (∀ x ∈ s.left, x.ok) ∧ Szd 500000 s ∧ unwindE w s = .go s' ∧ ∀ H', KpM A.M H H' → ExV C aH aB A s' H' → Q .non H'
/-- the next thing of what is left -/
theorem pop_left {R : Th → V → Prop} {x : Th} {r : List Th} {ls : List V} (h : AllR R (x :: r).reverse ls) : ∃ us v, ls = us ++ [v] ∧ AllR R r.reverse us ∧ R x v := by
  rw [List.reverse_cons] at h
  exact AllR.split h
theorem pop_last (us : List V) (v : V) : (us ++ [v])[(us ++ [v]).length - 1]? = some v ∧ (us ++ [v]).dropLast = us := by
  refine ⟨?_, List.dropLast_concat⟩
  rw [List.length_append, List.length_singleton, Nat.add_sub_cancel, List.getElem?_append_right (Nat.le_refl _), Nat.sub_self]
  rfl
theorem ok_Execution_unwind (T : Top w K mg) : FnOk P w K mg base CX0 3 T.a_Execution_unwind T.d_Execution_unwind ["self", "way"] (sp_Execution_unwind T.C_Execution T.a_HOLD T.a_BACK) := by
  refine T.F_Execution_unwind.ok sc_Execution_unwind (fun vs H Q E h => ?_) (fun cdv A outer sh H vs Q E hr h => ?_)
  · obtain ⟨A, s, s', w, rfl, _⟩ := h
    rfl
  · obtain ⟨A1, s, s', w1, rfl, X, hok, hz, hg, q⟩ := h
    refine ⟨_, (pss_cons (ps_set (i := 2) sc_Execution_unwind.nd rfl (Or.inl rfl) (pe_bm0 PySem.F.plainAttrs_list PySem.F.slot_list_pop PySem.F.type_list_pop mt_pop (pe_fld (pv 0) rfl)))
      (pss_cons (ps_while PassesOwn.never (pt_cmpR op_ne (pe_ix ix_tup (pv 2) pe_int (fun _ _ => rfl)) pe_str (nomark _)) (C8.pss_cut (ps_if (pt_cmpR (op_eqD (hu64 hr)) (pv 2) (C8.pe_gc rfl T.c_BACK) (nomark _)) (pss_one (ps_expr (pe_bm PySem.F.plainAttrs_list PySem.F.slot_list_append PySem.F.type_list_append mt_append (pe_fld (pv 0) rfl) (pa_cons (C8.pe_gc rfl T.c_BACK) pa_nil)))) pss_nil)
        (pss_one (ps_set (i := 2) sc_Execution_unwind.nd rfl (Or.inl rfl) (pe_bm0 PySem.F.plainAttrs_list PySem.F.slot_list_pop PySem.F.type_list_pop mt_pop (pe_fld (pv 0) rfl))))))
      (pss_one (ps_expr (pe_meth (pv 0) T.cl_Execution T.m_Execution_leave (ok_Execution_leave T) (hr.mono (by decide)) (b_Execution_leave T) .nil pass0 (pa_cons (pv 2) (pa_cons (pv 1) pa_nil))))))), ?_⟩
    obtain ⟨dx, he⟩ := X.ins
    obtain ⟨hz1, hz2⟩ := hz
    unfold unwindE at hg
    cases eu : unwL s.left s.deeds with
    | none => rw [eu] at hg; cases hg
    | some res =>
      obtain ⟨⟨p, sv, a, b⟩, l', ds'⟩ := res
      rw [eu] at hg
      have hg : leaveE p sv a b w1 { s with left := l', deeds := ds' } = .go s' := hg
      have one : ∀ (H1 : Hp) (x : Th) (r : List Th) (ds : List Dd), ExV T.C_Execution T.a_HOLD T.a_BACK A1 { s with left := x :: r, deeds := ds } H1 → ∃ us v, H1 A1.aL = some (.lst (us ++ [v])) ∧ ThV A1.S T.a_BACK (upd H1 A1.aL (.lst us)) x v ∧ KpM A1.M H1 (upd H1 A1.aL (.lst us)) ∧ ExV T.C_Execution T.a_HOLD T.a_BACK A1 { s with left := r, deeds := ds } (upd H1 A1.aL (.lst us)) := fun H1 x r ds X1 => by
        obtain ⟨ls, hl, rl⟩ := X1.lft
        obtain ⟨us, v, rfl, ru, rv⟩ := pop_left rl
        obtain ⟨k, X2⟩ := X1.setLeft ru
        exact ⟨us, v, hl, ThV.keep k X1.mut _ _ rv, k, X2⟩
      cases eleft : s.left with
      | nil => rw [eleft] at eu; cases eu
      | cons x r =>
        have X0 : ExV T.C_Execution T.a_HOLD T.a_BACK A1 { s with left := x :: r, deeds := s.deeds } H := by rw [← eleft]; exact X
        obtain ⟨us, v, hl, tv, k1, X1⟩ := one H x r s.deeds X0
        rw [eleft] at eu hok
        rw [eleft, List.length_cons] at hz1
        refine ⟨_, rfl, A1.e, T.C_Execution, dx, _, _, rfl, he, T.cl_Execution, T.na_Execution_left, exf_left, .inl ⟨rfl, _, .inl (.inl hl)⟩, A1.aL, _, v, rfl, rfl, hl, (pop_last us v).1, ?_⟩
        rw [(pop_last us v).2]
        refine ⟨fun m σ H' => ∃ x rest ds v, m = rest.length ∧ σ = [some (.ref A1.e), some (.int (wayN w1)), some v] ∧ KpM A1.M H H' ∧ ExV T.C_Execution T.a_HOLD T.a_BACK A1 { s with left := rest, deeds := ds } H' ∧ ThV A1.S T.a_BACK H' x v ∧ (∀ y ∈ x :: rest, y.ok) ∧ rest.length + ds.length + 1 ≤ 500000 ∧ unwL (x :: rest) ds = some ((p, sv, a, b), l', ds'), ⟨_, x, r, s.deeds, v, rfl, rfl, k1, X1, tv, hok, by omega, eu⟩, ?_⟩
        rintro m σ H' ⟨x, rest, ds, v, rfl, rfl, k2, X2, tv, hok, hz3, eu⟩
        obtain ⟨t, xs, rfl, ht, hw⟩ := th_word T.h_BACK tv
        refine ⟨_, rfl, t, xs, 0, _, rfl, rfl, ht, hw, rfl, ?_⟩
        rw [dec_str]
        by_cases hb : x.word = "behind"
        · refine ⟨_, rfl, iteB (decide_eq_true hb) ?_⟩
          have hx : ∃ p' sv' a' b', x = .beh p' sv' a' b' := by
            match x, hb with
            | .beh p' sv' a' b', _ => exact ⟨_, _, _, _, rfl⟩
            | .st (.cmd c), hb => exact absurd hb (cm_neS (by decide) c)
          obtain ⟨p', sv', a', b', rfl⟩ := hx
          cases eu
          have ho := hok _ List.mem_cons_self
          obtain ⟨dx2, he2⟩ := X2.ins
          refine ⟨_, rfl, A1.e, dx2, _, rfl, he2, exf_leave, _, rfl, _, rfl, A1, _, s', p, sv, w1, a, b, .ref t, rfl, X2, tv, ho, ⟨by show l'.length + ds'.length ≤ 500000; omega, hz2⟩, hg, fun H3 k3 X3 => q _ (k2.trans k3) X3⟩
        · refine ⟨_, rfl, iteNB (decide_eq_false hb) ?_⟩
          rw [unw_cons hb] at eu
          cases erest : rest with
          | nil => rw [erest] at eu; cases eu
          | cons y r2 =>
            subst erest
            obtain ⟨d, hd1, sh1, ed⟩ := th_neB hb T.h_BACK tv (hok _ List.mem_cons_self)
            refine ⟨fun σ H' => ∃ y r3 ds v, r3.length = r2.length ∧ σ = [some (.ref A1.e), some (.int (wayN w1)), some v] ∧ KpM A1.M H H' ∧ ExV T.C_Execution T.a_HOLD T.a_BACK A1 { s with left := r3, deeds := ds } H' ∧ ThV A1.S T.a_BACK H' y v ∧ (∀ z ∈ y :: r3, z.ok) ∧ r3.length + ds.length + 1 ≤ 500000 ∧ unwL (y :: r3) ds = some ((p, sv, a, b), l', ds'), fun σ' H1 ⟨y, r3, ds, v, e1, e2⟩ => ⟨r2.length, by simp, y, r3, ds, v, e1.symm, e2⟩, ?_⟩
            refine ⟨fun σ H1 => σ = [some (.ref A1.e), some (.int (wayN w1)), some (.ref t)] ∧ KpM A1.M H H1 ∧ ExV T.C_Execution T.a_HOLD T.a_BACK A1 { s with left := y :: r2, deeds := ds ++ if x.isB then [.back] else [] } H1, ?_, fun σ H1 h => ?_⟩
            · refine ⟨_, rfl, d, backD, hd1, .tup (T.h_BACK _) (.cons (.str _) .nil), sh1, back_sh, _, rfl, ?_⟩
              rw [ed]
              obtain ⟨dsv, hdd, rd⟩ := X2.dds
              have ld := rd.len
              have hz4 : ds.length < 500000 := by omega
              obtain ⟨dx2, he2⟩ := X2.ins
              cases x.isB with
              | true =>
                refine iteT ⟨_, rfl, A1.e, T.C_Execution, dx2, _, _, rfl, he2, T.cl_Execution, T.na_Execution_deeds, exf_deeds, .inl ⟨rfl, _, .inl (.inl hdd)⟩, A1.aD, dsv, .ref T.a_BACK, rfl, rfl, hdd, Nat.lt_trans (m := 500000) (by rw [ld]; exact hz4) (by decide), ?_⟩
                obtain ⟨k3, X3⟩ := X2.setDeeds (ds := dsv ++ [.ref T.a_BACK]) (xs := ds ++ [.back]) (AllR.append rd (AllR.one (a := Dd.back) rfl))
                exact ⟨rfl, k2.trans k3, X3⟩
              | false =>
                refine iteF ⟨rfl, k2, ?_⟩
                rw [show ds ++ (if false = true then [Dd.back] else []) = ds from List.append_nil _]
                exact X2
            · obtain ⟨rfl, k3, X3⟩ := h
              obtain ⟨us, v, hl, tv, k4, X4⟩ := one H1 y r2 _ X3
              obtain ⟨dx3, he3⟩ := X3.ins
              refine ⟨_, rfl, A1.e, T.C_Execution, dx3, _, _, rfl, he3, T.cl_Execution, T.na_Execution_left, exf_left, .inl ⟨rfl, _, .inl (.inl hl)⟩, A1.aL, _, v, rfl, rfl, hl, (pop_last us v).1, ?_⟩
              rw [(pop_last us v).2]
              refine ⟨y, r2, _, v, rfl, rfl, k3.trans k4, X4, tv, fun z hz => hok z (List.mem_cons_of_mem _ hz), ?_, eu⟩
              have : (if x.isB = true then [Dd.back] else []).length ≤ 1 := by split <;> simp
              rw [List.length_append]
              rw [List.length_cons] at hz3
              omega

--SPLIT
theorem wne {a b : Str} (h : ¬ a = b) : ¬ V.str a = V.str b := fun e => h (by injection e)
theorem atI_1 (x y : V) (r : List V) : atI (x :: y :: r) 1 = some y := atI_nat (j := 1) rfl
theorem atI_2 (x y z : V) (r : List V) : atI (x :: y :: z :: r) 2 = some z := atI_nat (j := 2) rfl
theorem cm_tr {S S' : Addr → Prop} {H : Hp} (c : Cm) {us : List V} (h : TrAll S H (c.nums.map .int) us) : TrAll S' H (c.nums.map .int) us := by
  have key : ∀ (ns : List Int) (us : List V), TrAll S H (ns.map .int) us → TrAll S' H (ns.map .int) us := by
    intro ns
    induction ns with
    | nil => exact fun _ h => h
    | cons n r ih => exact fun us ⟨x, ws, e, t, u⟩ => ⟨x, ws, e, t, ih _ u⟩
  exact key _ _ h
theorem leave_or {p : Nat} {sv w : Bool} {a b : List Stm} {s : ESt} : leaveE p sv a b w s = .bad ∨ ∃ s', leaveE p sv a b w s = .go s' := by
  unfold leaveE
  split
  · exact .inr ⟨_, rfl⟩
  · exact .inl rfl
theorem unw_or {w : Bool} {s : ESt} : unwindE w s = .bad ∨ ∃ s', unwindE w s = .go s' := by
  unfold unwindE
  split
  · exact leave_or
  · exact .inl rfl
def sp_Execution_step (C aH aB CE : Addr) : Sp := fun vs H Q E => ∃ (A : ExA) (s : ESt) (x : Th) (v : V), vs = [.ref A.e, v] ∧ ExV C aH aB A s H ∧ ThV A.S aB H x v ∧ x.ok ∧ (∀ y ∈ s.left, y.ok) ∧ BodiesOk A.bs ∧ Szd 400000 s ∧ OutR CE C aH aB A H Q E (stepE A.bs A.bits x s)
theorem ok_Execution_step (T : Top w K mg) : FnOk P w K mg base (L2.CX P w) 4 T.a_Execution_step T.d_Execution_step ["self", "thing"] (sp_Execution_step T.C_Execution T.a_HOLD T.a_BACK T.C_NoRun) := by
  refine T.F_Execution_step.okX sc_Execution_step (fun vs H Q E h => ?_) (fun cdv A outer sh H vs Q E hr h => ?_)
  · obtain ⟨A, s, x, v, rfl, _⟩ := h
    rfl
  · obtain ⟨A1, s, x, v, rfl, X, tv, ho, hok, hbs, hz, q⟩ := h
    refine ⟨_, (pss_cons (ps_set (i := 2) sc_Execution_step.nd rfl (Or.inl rfl) (pe_ix ix_tup (pv 1) pe_int (fun _ _ => rfl)))
      (pss_one (ps_if (pt_cmpR op_eq (pv 2) pe_str (nomark _)) (pss_cons (ps_expr (pe_bm PySem.F.plainAttrs_list PySem.F.slot_list_append PySem.F.type_list_append mt_append (pe_fld (pv 0) rfl) (pa_cons (C8.pe_gc rfl T.c_HOLD) pa_nil)))
        (pss_cons (ps_expr (pe_bm PySem.F.plainAttrs_list PySem.F.slot_list_append PySem.F.type_list_append mt_append (pe_fld (pv 0) rfl) (pa_cons (C8.pe_gc rfl T.c_BACK) pa_nil)))
        (pss_one (ps_expr (pe_meth (pv 0) T.cl_Execution T.m_Execution_enter (ok_Execution_enter T) (hr.mono (by decide)) (b_Execution_enter T) .nil pass0 (pa_cons (pe_ix ix_tup (pv 1) pe_int (fun _ _ => rfl)) pa_nil)))))) (pss_one (ps_if (pt_cmpR op_eq (pv 2) pe_str (nomark _)) (pss_one (ps_expr (pe_meth (pv 0) T.cl_Execution T.m_Execution_enter (ok_Execution_enter T) (hr.mono (by decide)) (b_Execution_enter T) .nil pass0 (pa_cons (pe_ix ix_tup (pv 1) (pe_op op_add pe_int (pe_methR0 (pv 0) T.cl_Execution T.m_Execution_take (ok_Execution_take T) (hr.mono (by decide)) (b_Execution_take T) (fun σ => passAt (takes_of rfl rfl rfl rfl) σ))) (fun _ _ => rfl)) pa_nil)))) (pss_one (ps_if (pt_cmpR op_eq (pv 2) pe_str (nomark _)) (pss_one (ps_if (pt_cmpR op_eq (pe_methR0 (pv 0) T.cl_Execution T.m_Execution_take (ok_Execution_take T) (hr.mono (by decide)) (b_Execution_take T) (fun σ => passAt (takes_of rfl rfl rfl rfl) σ)) pe_int (nomark _)) (pss_cons (ps_expr (pe_bm PySem.F.plainAttrs_list PySem.F.slot_list_append PySem.F.type_list_append mt_append (pe_fld (pv 0) rfl) (pa_cons (pv 1) pa_nil)))
              (pss_one (ps_expr (pe_meth (pv 0) T.cl_Execution T.m_Execution_enter (ok_Execution_enter T) (hr.mono (by decide)) (b_Execution_enter T) .nil pass0 (pa_cons (pe_ix ix_tup (pv 1) pe_int (fun _ _ => rfl)) pa_nil))))) pss_nil)) (pss_one (ps_if (pt_cmpR op_eq (pv 2) pe_str (nomark _)) (pss_one (ps_expr (pe_methR (pv 0) T.cl_Execution T.m_Execution_begin (ok_Execution_begin T) (hr.mono (by decide)) (b_Execution_begin T) (fun σ => passAt (takes_of rfl rfl rfl rfl) σ) (pa_cons (pv 1) pa_nil)))) (pss_one (ps_if (pt_cmpR op_eq (pv 2) pe_str (nomark _)) (pss_one (ps_expr (pe_meth (pv 0) T.cl_Execution T.m_Execution_leave (ok_Execution_leave T) (hr.mono (by decide)) (b_Execution_leave T) .nil pass0 (pa_cons (pv 1) (pa_cons pe_int pa_nil))))) (pss_one (ps_if (pt_cmpR op_eq (pv 2) pe_str (nomark _)) (pss_one (ps_expr (pe_meth (pv 0) T.cl_Execution T.m_Execution_unwind (ok_Execution_unwind T) (hr.mono (by decide)) (b_Execution_unwind T) .nil pass0 (pa_cons (pe_ix ix_tup (pv 1) pe_int (fun _ _ => rfl)) pa_nil)))) (pss_one (ps_expr (pe_bm PySem.F.plainAttrs_list PySem.F.slot_list_append PySem.F.type_list_append mt_append (pe_fld (pv 0) rfl) (pa_cons (pv 1) pa_nil))))))))))))))))), ?_⟩
    obtain ⟨dx, he⟩ := X.ins
    obtain ⟨hz1, hz2⟩ := hz
    have zl : s.left.length ≤ 400000 := Nat.le_trans (Nat.le_add_right _ _) hz1
    obtain ⟨ls, hl, rl⟩ := X.lft
    have ll := rl.len
    rw [List.length_reverse] at ll
    obtain ⟨ds, hd, rd⟩ := X.dds
    have ld := rd.len
    have zd : ds.length ≤ 400000 := by rw [ld]; exact Nat.le_trans (Nat.le_add_left _ _) hz1
    have sz : Szd 500000 s := ⟨by omega, fun ns h => Nat.le_trans (hz2 ns h) (by decide)⟩
    have app : ∀ d (vd : V), DdV T.a_HOLD T.a_BACK H d vd → KpM A1.M H (upd H A1.aD (.lst (ds ++ [vd]))) ∧ ExV T.C_Execution T.a_HOLD T.a_BACK A1 { s with deeds := s.deeds ++ [d] } (upd H A1.aD (.lst (ds ++ [vd]))) := fun d vd h => X.setDeeds (AllR.append rd (AllR.one h))
    obtain ⟨t, xs, rfl, ht, hw⟩ := th_word T.h_BACK tv
    refine ⟨_, rfl, t, xs, 0, _, rfl, rfl, ht, hw, ?_⟩
    match x with
    | .back =>
      refine ⟨_, rfl, rfl, _, rfl, iteN (wne (a := "back") (by decide)) ?_⟩
      refine ⟨_, rfl, rfl, _, rfl, iteN (wne (a := "back") (by decide)) ?_⟩
      refine ⟨_, rfl, rfl, _, rfl, iteN (wne (a := "back") (by decide)) ?_⟩
      refine ⟨_, rfl, rfl, _, rfl, iteN (wne (a := "back") (by decide)) ?_⟩
      refine ⟨_, rfl, rfl, _, rfl, iteN (wne (a := "back") (by decide)) ?_⟩
      refine ⟨_, rfl, rfl, _, rfl, iteN (wne (a := "back") (by decide)) ?_⟩
      refine ⟨_, rfl, A1.e, T.C_Execution, dx, _, _, rfl, he, T.cl_Execution, T.na_Execution_deeds, exf_deeds, .inl ⟨rfl, _, .inl (.inl hd)⟩, _, rfl, A1.aD, ds, .ref t, rfl, rfl, hd, Nat.lt_of_le_of_lt zd (by decide), ?_⟩
      obtain ⟨k, X1⟩ := app .back (.ref t) tv
      exact q _ k X1
    | .st (.cmd c) =>
      refine ⟨_, rfl, rfl, _, rfl, iteN (wne (cm_neS (by decide) c)) ?_⟩
      refine ⟨_, rfl, rfl, _, rfl, iteN (wne (cm_neS (by decide) c)) ?_⟩
      refine ⟨_, rfl, rfl, _, rfl, iteN (wne (cm_neS (by decide) c)) ?_⟩
      refine ⟨_, rfl, rfl, _, rfl, iteN (wne (cm_neS (by decide) c)) ?_⟩
      refine ⟨_, rfl, rfl, _, rfl, iteN (wne (cm_neS (by decide) c)) ?_⟩
      refine ⟨_, rfl, rfl, _, rfl, iteN (wne (cm_neS (by decide) c)) ?_⟩
      refine ⟨_, rfl, A1.e, T.C_Execution, dx, _, _, rfl, he, T.cl_Execution, T.na_Execution_deeds, exf_deeds, .inl ⟨rfl, _, .inl (.inl hd)⟩, _, rfl, A1.aD, ds, .ref t, rfl, rfl, hd, Nat.lt_of_le_of_lt zd (by decide), ?_⟩
      obtain ⟨a, ys, e, l, y, us, rfl, hy, hu⟩ := tv
      have tc : DdV T.a_HOLD T.a_BACK H (.cmd c) (.ref t) := ⟨a, _, e, l, y, us, rfl, hy, cm_tr c hu⟩
      obtain ⟨k, X1⟩ := app (.cmd c) (.ref t) tc
      exact q _ k X1
    | .st (.fin w1) =>
      obtain ⟨a, ys, e, l, y, us, rfl, hy, y2, us2, rfl, hy2, rfl⟩ := tv
      cases e
      have hy2 : y2 = .int (wayN w1) := hy2
      subst hy2
      refine ⟨_, rfl, rfl, _, rfl, iteN (wne (a := "end") (by decide)) ?_⟩
      refine ⟨_, rfl, rfl, _, rfl, iteN (wne (a := "end") (by decide)) ?_⟩
      refine ⟨_, rfl, rfl, _, rfl, iteN (wne (a := "end") (by decide)) ?_⟩
      refine ⟨_, rfl, rfl, _, rfl, iteN (wne (a := "end") (by decide)) ?_⟩
      refine ⟨_, rfl, rfl, _, rfl, iteN (wne (a := "end") (by decide)) ?_⟩
      refine ⟨_, rfl, rfl, _, rfl, iteP rfl ?_⟩
      rcases unw_or (w := w1) (s := s) with hb | ⟨s', hg⟩
      · rw [show stepE A1.bs A1.bits (.st (.fin w1)) s = .bad from hb] at q
        exact q.elim
      · rw [show stepE A1.bs A1.bits (.st (.fin w1)) s = .go s' from hg] at q
        exact ⟨_, rfl, A1.e, dx, _, rfl, he, exf_unwind, _, rfl, t, _, 1, _, rfl, rfl, SqT.of l, atI_1 _ _ _, A1, s, s', w1, rfl, X, hok, sz, hg, q⟩
    | .st (.keep b) =>
      obtain ⟨many, lv, o1, o2⟩ := ho
      obtain ⟨k1, X1⟩ := app .hold (.ref T.a_HOLD) rfl
      have tv1 := ThV.keep k1 X.mut _ _ tv
      refine ⟨_, rfl, rfl, _, rfl, iteP rfl ?_⟩
      refine ⟨_, rfl, A1.e, T.C_Execution, dx, _, _, rfl, he, T.cl_Execution, T.na_Execution_deeds, exf_deeds, .inl ⟨rfl, _, .inl (.inl hd)⟩, A1.aD, ds, .ref T.a_HOLD, rfl, rfl, hd, Nat.lt_of_le_of_lt zd (by decide), ?_⟩
      generalize upd H A1.aD _ = H1 at *
      obtain ⟨dx1, he1⟩ := X1.ins
      obtain ⟨ls1, hl1, rl1⟩ := X1.lft
      have ll1 := rl1.len
      rw [List.length_reverse] at ll1
      refine ⟨_, rfl, A1.e, T.C_Execution, dx1, _, _, rfl, he1, T.cl_Execution, T.na_Execution_left, exf_left, .inl ⟨rfl, _, .inl (.inl hl1)⟩, A1.aL, ls1, .ref T.a_BACK, rfl, rfl, hl1, Nat.lt_of_le_of_lt (m := 400000) (by rw [ll1]; exact zl) (by decide), ?_⟩
      obtain ⟨k2, X2⟩ := X1.setLeft (ls := ls1 ++ [.ref T.a_BACK]) (xs := .back :: s.left) (by rw [List.reverse_cons]; exact AllR.append rl1 (AllR.one (a := Th.back) rfl))
      have tv2 := ThV.keep k2 X1.mut _ _ tv1
      generalize upd H1 A1.aL _ = H2 at *
      obtain ⟨dx2, he2⟩ := X2.ins
      obtain ⟨a, ys, e, l, y, us, rfl, hy, y2, us2, rfl, hy2, rfl⟩ := tv2
      cases e
      exact ⟨_, rfl, A1.e, dx2, _, rfl, he2, exf_enter, _, rfl, t, _, 1, _, rfl, rfl, SqT.of l, atI_1 _ _ _, A1, _, b, y2, rfl, X2, hy2, o1.2.1, Nat.le_trans (show s.left.length + 1 ≤ 400001 by omega) (by decide), fun H3 k3 X3 => q _ ((k1.trans k2).trans k3) X3⟩
    | .st (.either a b) =>
      obtain ⟨many, lv, o1, o2⟩ := ho
      refine ⟨_, rfl, rfl, _, rfl, iteN (wne (a := "either") (by decide)) ?_⟩
      refine ⟨_, rfl, rfl, _, rfl, iteP rfl ?_⟩
      have tq : ∀ w, A1.bits[s.taken]? = some w → OutR T.C_NoRun T.C_Execution T.a_HOLD T.a_BACK A1 H Q E (.go (enterE (if w then b else a) { s with taken := s.taken + 1 })) := fun w e => by
        have q2 := q
        simp only [stepE, takeE, e] at q2
        exact q2
      refine ⟨_, rfl, A1.e, dx, _, rfl, he, exf_enter, _, rfl, _, rfl, A1.e, dx, _, rfl, he, exf_take, A1, s, rfl, X, fun e => ?_, fun w e H1 k1 X1 => ?_⟩
      · simp only [stepE, takeE, e] at q
        exact q
      · have tv1 := ThV.keep k1 X.mut _ _ tv
        have q2 := tq w e
        clear tv
        obtain ⟨dx1, he1⟩ := X1.ins
        obtain ⟨a', ys, e', l, y, us, rfl, hy, y2, us2, rfl, hy2, y3, us3, rfl, hy3, rfl⟩ := tv1
        cases e'
        have ey : atI [y, y2, y3] (1 + (if w then 1 else 0)) = some (if w then y3 else y2) := by
          cases w
          · exact atI_1 _ _ _
          · exact atI_2 _ _ _ _
        refine ⟨_, _, rfl, rfl, t, _, _, _, rfl, rfl, SqT.of l, ey, A1, _, if w then b else a, if w then y3 else y2, rfl, X1, ?_, ?_, Nat.le_trans (show s.left.length ≤ 400000 from zl) (by decide), fun H3 k3 X3 => q2 _ (k1.trans k3) X3⟩
        · cases w
          · exact hy2
          · exact hy3
        · cases w
          · exact o1.2.1.1
          · exact o1.2.2.1
    | .st (.again b) =>
      obtain ⟨many, lv, o1, o2⟩ := ho
      refine ⟨_, rfl, rfl, _, rfl, iteN (wne (a := "again") (by decide)) ?_⟩
      refine ⟨_, rfl, rfl, _, rfl, iteN (wne (a := "again") (by decide)) ?_⟩
      refine ⟨_, rfl, rfl, _, rfl, iteP rfl ?_⟩
      refine ⟨_, rfl, A1.e, dx, _, rfl, he, exf_take, A1, s, rfl, X, fun e => ?_, fun w e H1 k1 X1 => ?_⟩
      · simp only [stepE, takeE, e] at q
        exact q
      · have tv1 := ThV.keep k1 X.mut _ _ tv
        simp only [stepE, takeE, e] at q
        clear tv
        obtain ⟨dx1, he1⟩ := X1.ins
        cases w with
        | false =>
          refine ⟨rfl, _, rfl, iteN (show ¬ V.int 0 = V.int 1 by decide) ?_⟩
          exact q _ k1 X1
        | true =>
          refine ⟨rfl, _, rfl, iteP rfl ?_⟩
          obtain ⟨ls1, hl1, rl1⟩ := X1.lft
          have ll1 := rl1.len
          rw [List.length_reverse] at ll1
          refine ⟨_, rfl, A1.e, T.C_Execution, dx1, _, _, rfl, he1, T.cl_Execution, T.na_Execution_left, exf_left, .inl ⟨rfl, _, .inl (.inl hl1)⟩, _, rfl, A1.aL, ls1, .ref t, rfl, rfl, hl1, Nat.lt_of_le_of_lt (m := 400000) (by rw [ll1]; exact zl) (by decide), ?_⟩
          obtain ⟨k2, X2⟩ := X1.setLeft (ls := ls1 ++ [.ref t]) (xs := .st (.again b) :: s.left) (by rw [List.reverse_cons]; exact AllR.append rl1 (AllR.one tv1))
          have tv2 := ThV.keep k2 X1.mut _ _ tv1
          generalize upd H1 A1.aL _ = H2 at *
          obtain ⟨dx2, he2⟩ := X2.ins
          obtain ⟨a, ys, e, l, y, us, rfl, hy, y2, us2, rfl, hy2, rfl⟩ := tv2
          cases e
          exact ⟨_, rfl, A1.e, dx2, _, rfl, he2, exf_enter, _, rfl, t, _, 1, _, rfl, rfl, SqT.of l, atI_1 _ _ _, A1, _, b, y2, rfl, X2, hy2, o1.2.1, Nat.le_trans (show s.left.length + 1 ≤ 400001 by omega) (by decide), fun H3 k3 X3 => q _ ((k1.trans k2).trans k3) X3⟩
    | .st (.call p sv a b) =>
      refine ⟨_, rfl, rfl, _, rfl, iteN (wne (a := "call") (by decide)) ?_⟩
      refine ⟨_, rfl, rfl, _, rfl, iteN (wne (a := "call") (by decide)) ?_⟩
      refine ⟨_, rfl, rfl, _, rfl, iteN (wne (a := "call") (by decide)) ?_⟩
      refine ⟨_, rfl, rfl, _, rfl, iteP rfl ?_⟩
      exact ⟨_, rfl, A1.e, dx, _, rfl, he, exf_begin, _, rfl, A1, s, p, sv, a, b, _, rfl, X, tv, hbs, sz, q⟩
    | .beh p sv a b =>
      refine ⟨_, rfl, rfl, _, rfl, iteN (wne (a := "behind") (by decide)) ?_⟩
      refine ⟨_, rfl, rfl, _, rfl, iteN (wne (a := "behind") (by decide)) ?_⟩
      refine ⟨_, rfl, rfl, _, rfl, iteN (wne (a := "behind") (by decide)) ?_⟩
      refine ⟨_, rfl, rfl, _, rfl, iteN (wne (a := "behind") (by decide)) ?_⟩
      refine ⟨_, rfl, rfl, _, rfl, iteP rfl ?_⟩
      rcases leave_or (p := p) (sv := sv) (w := false) (a := a) (b := b) (s := s) with hb | ⟨s', hg⟩
      · rw [show stepE A1.bs A1.bits (.beh p sv a b) s = .bad from hb] at q
        exact q.elim
      · rw [show stepE A1.bs A1.bits (.beh p sv a b) s = .go s' from hg] at q
        exact ⟨_, rfl, A1.e, dx, _, rfl, he, exf_leave, _, rfl, A1, s, s', p, sv, false, a, b, _, rfl, X, tv, ho, sz, hg, q⟩

--SPLIT
def finE (bits : List Bool) : Out → Out
  | .go s => if s.taken < bits.length then .no s.taken else .go s
  | o => o
def startE (p : Nat) (s : ESt) : ESt := { s with left := [.st (.call p false [] [])] }
def sp_Execution_finish (C aH aB CE : Addr) : Sp := fun vs H Q E => ∃ (A : ExA) (s : ESt) (p n : Nat), vs = [.ref A.e, .int p] ∧ ExV C aH aB A s H ∧ s.left = [] ∧ BodiesOk A.bs ∧ Szd 100000 s ∧ n ≤ 20000 ∧ OutR CE C aH aB A H Q E (finE A.bits (runE A.bs A.bits n (startE p s)))
theorem ExV.some {C aH aB : Addr} {A : ExA} {s : ESt} {H : Hp} (X : ExV C aH aB A s H) : ∀ a ∈ (A.e :: A.aP :: A.aT :: A.aL :: A.aG :: A.aD :: A.gs), ∃ o, H a = some o := fun a m => by
  obtain ⟨dx, he⟩ := X.ins
  obtain ⟨ls, hl, _⟩ := X.lft
  obtain ⟨ds, hd, _⟩ := X.dds
  obtain ⟨ps, hp, _⟩ := X.procs
  simp only [List.mem_cons] at m
  rcases m with rfl | rfl | rfl | rfl | rfl | rfl | m
  · exact ⟨_, he⟩
  · exact ⟨_, hp⟩
  · exact ⟨_, X.bts⟩
  · exact ⟨_, hl⟩
  · exact ⟨_, X.beg.1⟩
  · exact ⟨_, hd⟩
  · obtain ⟨i, hi⟩ := List.getElem?_of_mem m
    obtain ⟨hg, lg, hb⟩ := X.beg
    have hlt := (List.getElem?_eq_some_iff.mp hi).1
    exact ⟨_, hb i a _ hi (List.getElem?_eq_getElem (show i < s.begun.length by omega))⟩
theorem ThV.mono {S S' : Addr → Prop} {aB : Addr} {H : Hp} (h : ∀ a, S a → S' a) : ∀ (x : Th) (v : V), ThV S aB H x v → ThV S' aB H x v
  | .st z, v, t => Tr.mono h _ _ t
  | .beh _ _ _ _, v, t => Tr.mono h _ _ t
  | .back, v, t => t
/-- new lists may stand in what is left -/
theorem ExV.grow {C aH aB : Addr} {A : ExA} {s : ESt} {H0 H : Hp} (X : ExV C aH aB A s H) (X0 : ExV C aH aB A s H0) : ExV C aH aB { A with S := fun a => A.S a ∨ H0 a = none } s H := by
  obtain ⟨ps, hp, tp⟩ := X.procs
  obtain ⟨ls, hl, rl⟩ := X.lft
  refine ⟨X.ins, ⟨ps, hp, TrAll.mono (fun a h => .inl h) _ _ tp⟩, X.bts, ⟨ls, hl, AllR.imp (ThV.mono fun a h => .inl h) rl⟩, X.beg, X.dds, ⟨X.sep.1, fun a m h => ?_⟩, X.tk⟩
  rcases h with h | h
  · exact X.sep.2 a m h
  · have m2 : a ∈ A.e :: A.aL :: A.aD :: A.gs := m
    obtain ⟨o, ho⟩ := X0.some a (by
      simp only [List.mem_cons] at m2 ⊢
      rcases m2 with m | m | m | m <;> simp [m])
    rw [ho] at h
    cases h
theorem ExV.shrink {C aH aB : Addr} {A : ExA} {s s0 : ESt} {H0 H : Hp} {S : Addr → Prop} (X : ExV C aH aB { A with S := S } s H) (e : s.left = []) (X0 : ExV C aH aB A s0 H0) (k : KpM A.M H0 H) : ExV C aH aB A s H := by
  obtain ⟨ps, hp, tp⟩ := X0.procs
  obtain ⟨ls, hl, rl⟩ := X.lft
  have kk := Tr.hold (k.tr X0.mut)
  refine ⟨X.ins, ⟨ps, k _ _ X0.out.1 hp, TrAll.hold (k.tr X0.mut) _ _ tp⟩, X.bts, ⟨ls, hl, ?_⟩, X.beg, X.dds, X0.sep, X.tk⟩
  rw [e] at rl ⊢
  exact rl
theorem ok_Execution_finish (T : Top w K mg) : FnOk P w K mg base (L2.CX P w) 5 T.a_Execution_finish T.d_Execution_finish ["self", "procedure"] (sp_Execution_finish T.C_Execution T.a_HOLD T.a_BACK T.C_NoRun) := by
  refine T.F_Execution_finish.okX sc_Execution_finish (fun vs H Q E h => ?_) (fun cdv A outer sh H vs Q E hr h => ?_)
  · obtain ⟨A, s, p, n, rfl, _⟩ := h
    rfl
  · obtain ⟨A1, s, p, n, rfl, X, hl0, hbs, hz, hn, q⟩ := h
    refine ⟨_, (pss_cons (ps_expr (pe_bm PySem.F.plainAttrs_list PySem.F.slot_list_append PySem.F.type_list_append mt_append (pe_fld (pv 0) rfl) (pa_cons (pe_tup (pa_cons pe_str (pa_cons (pv 1) (pa_cons pe_bl (pa_cons (pe_lst (pa_cons (pe_lst pa_nil) (pa_cons (pe_lst pa_nil) pa_nil))) pa_nil))))) pa_nil)))
      (pss_cons (ps_while (passes_of rfl) (pt_truth (pe_fld (pv 0) rfl) (by intro _; rfl)) (pss_one (ps_expr (pe_methR (pv 0) T.cl_Execution T.m_Execution_step (ok_Execution_step T) (hr.mono (by decide)) (b_Execution_step T) (fun σ => passAt (takes_of rfl rfl rfl rfl) σ) (pa_cons (pe_bm0 PySem.F.plainAttrs_list PySem.F.slot_list_pop PySem.F.type_list_pop mt_pop (pe_fld (pv 0) rfl)) pa_nil)))))
      (pss_one (ps_if (pt_cmpR op_lt (pe_fld (pv 0) rfl) (pe_callB (k_len K) (by rfl) T.z_len bt_len (pa_cons (pe_fld (pv 0) rfl) pa_nil)) (nomark _)) (pss_one (ps_raise rfl (takes_of rfl rfl rfl rfl) (pmk_oex T.O_NoRun T.io_NoRun T.to_NoRun (ok_NoRun___init__ T) (hr.mono (by decide)) (b_NoRun___init__ T) .nil pass0 (by rfl) T.g_NoRun (pa_cons (pe_fld (pv 0) rfl) pa_nil)))) pss_nil)))), ?_⟩
    obtain ⟨dx, he⟩ := X.ins
    obtain ⟨hz1, hz2⟩ := hz
    obtain ⟨ls, hl, rl⟩ := X.lft
    rw [hl0] at rl
    have rl : ls = [] := rl
    subst rl
    refine ⟨_, rfl, A1.e, T.C_Execution, dx, _, _, rfl, he, T.cl_Execution, T.na_Execution_left, exf_left, .inl ⟨rfl, _, .inl (.inl hl)⟩, ?_⟩
    refine ⟨_, rfl, small100 (n := 0) (by decide), fun p1 np1 => ⟨small100 (n := 0) (by decide), fun p2 np2 => ⟨small100 (n := 2) (by decide), fun p3 np3 => ⟨small100 (n := 4) (by decide), fun u nu => ?_⟩⟩⟩⟩
    have s1 := same_upd (o := .lst []) np1
    have h1 : upd H p1 (.lst []) p1 = _ := upd_same
    have n1 := np1
    generalize upd H p1 _ = H1 at *
    have s2 := same_upd (o := .lst []) np2
    have h2 : upd H1 p2 (.lst []) p2 = _ := upd_same
    have n2 := s1.free np2
    generalize upd H1 p2 _ = H2 at *
    have s3 := same_upd (o := .lst [.ref p1, .ref p2]) np3
    have h3 : upd H2 p3 (.lst [.ref p1, .ref p2]) p3 = _ := upd_same
    have n3 := (s1.trans s2).free np3
    generalize upd H2 p3 _ = H3 at *
    have s4 := same_upd (o := .tup [.str "call", .int p, .bl false, .ref p3]) nu
    have h4 : upd H3 u (.tup [.str "call", .int p, .bl false, .ref p3]) u = _ := upd_same
    generalize upd H3 u _ = H4 at *
    have sA : Same H H4 := ((s1.trans s2).trans s3).trans s4
    have X4 := (X.same sA).grow X
    have hl4 := sA _ _ hl
    refine ⟨A1.aL, [], .ref u, rfl, rfl, hl4, (show 0 < sizeLine by decide), ?_⟩
    have tc : ThV (fun a => A1.S a ∨ H a = none) T.a_BACK H4 (.st (.call p false [] [])) (.ref u) := by
      refine ⟨u, _, rfl, h4, _, _, rfl, rfl, _, _, rfl, rfl, _, _, rfl, rfl, _, _, rfl, ⟨p3, _, rfl, .inr n3, s4 _ _ h3, _, _, rfl, ?_, _, _, rfl, ?_, rfl⟩, rfl⟩
      · exact ⟨p1, _, rfl, .inr n1, (s2.trans (s3.trans s4)) _ _ h1, rfl⟩
      · exact ⟨p2, _, rfl, .inr n2, (s3.trans s4) _ _ h2, rfl⟩
    obtain ⟨k5, X5⟩ := X4.setLeft (ls := [] ++ [V.ref u]) (xs := [.st (.call p false [] [])]) (by rw [List.reverse_singleton, List.nil_append]; exact AllR.one tc)
    have k5 : KpM A1.M H (upd H4 A1.aL (.lst ([] ++ [.ref u]))) := (KpM.of sA).trans k5
    generalize upd H4 A1.aL _ = H5 at *
    refine ⟨fun m σ H' => ∃ s1, σ = [some (.ref A1.e), some (.int p)] ∧ KpM A1.M H H' ∧ ExV T.C_Execution T.a_HOLD T.a_BACK { A1 with S := fun a => A1.S a ∨ H a = none } s1 H' ∧ (∀ x ∈ s1.left, x.ok) ∧ Szd (399999 - 12 * m) s1 ∧ m ≤ 20000 ∧ OutR T.C_NoRun T.C_Execution T.a_HOLD T.a_BACK A1 H Q E (finE A1.bits (runE A1.bs A1.bits m s1)), ⟨n, startE p s, rfl, k5, X5, fun x hx => ?_, ⟨?_, fun ns h => Nat.le_trans (hz2 ns h) (by omega)⟩, hn, q⟩, ?_⟩
    · have hx : x = .st (.call p false [] []) := by simpa [startE] using hx
      subst hx
      exact ⟨p + 1, 0, ⟨by decide, by omega, ⟨by simp, trivial⟩, by simp, trivial⟩, by decide⟩
    · rw [hl0] at hz1
      show 1 + s.deeds.length ≤ _
      simp at hz1
      omega
    rintro m σ H' ⟨s1, rfl, k6, X6, hok, hz, hm, q⟩
    obtain ⟨dx6, he6⟩ := X6.ins
    obtain ⟨ls6, hl6, rl6⟩ := X6.lft
    refine ⟨_, rfl, A1.e, T.C_Execution, dx6, _, _, rfl, he6, T.cl_Execution, T.na_Execution_left, exf_left, _, .inl ⟨ls6, SqL.of hl6, rfl⟩, ?_⟩
    cases hleft : s1.left with
    | nil =>
      rw [hleft] at rl6
      have rl6 : ls6 = [] := rl6
      subst rl6
      refine iteF ?_
      have er : runE A1.bs A1.bits m s1 = .go s1 := by
        cases m with
        | zero => unfold runE; rw [hleft]; rfl
        | succ m => unfold runE; rw [hleft]
      rw [er] at q
      have h6 : ∀ H', KpM A1.M H H' → ExV T.C_Execution T.a_HOLD T.a_BACK A1 s1 H' → H' = H' := fun _ _ _ => rfl
      refine ⟨_, rfl, A1.e, T.C_Execution, dx6, _, _, rfl, he6, T.cl_Execution, T.na_Execution_taken, exf_taken, ?_⟩
      refine ⟨_, rfl, A1.e, T.C_Execution, dx6, _, _, rfl, he6, T.cl_Execution, T.na_Execution_bits, exf_bits, _, _, rfl, .inl (SqL.of X6.bts), _, _, rfl, rfl, _, rfl, ?_⟩
      rw [List.length_map]
      unfold finE at q
      by_cases e : s1.taken < A1.bits.length
      · dsimp only at q
        rw [if_pos e] at q
        refine iteP (show (s1.taken : Int) < (A1.bits.length : Int) by omega) ?_
        refine ⟨_, rfl, A1.e, T.C_Execution, dx6, _, _, rfl, he6, T.cl_Execution, T.na_Execution_taken, exf_taken, ?_⟩
        exact ⟨by show 1 ≤ 1000; decide, made_NR q k6⟩
      · dsimp only at q
        rw [if_neg e] at q
        refine iteN (show ¬ (s1.taken : Int) < (A1.bits.length : Int) by omega) ?_
        exact q _ k6 (X6.shrink hleft X k6)
    | cons x r =>
      rw [hleft] at rl6 hok
      obtain ⟨us, v, rfl, ru, rv⟩ := pop_left rl6
      have ee : (!(us ++ [v]).isEmpty) = true := by cases us <;> rfl
      rw [ee]
      refine iteT ?_
      obtain ⟨k7, X7⟩ := X6.setLeft ru
      have rv7 := ThV.keep k7 X6.mut _ _ rv
      cases m with
      | zero =>
        have : runE A1.bs A1.bits 0 s1 = .bad := by unfold runE; rw [hleft]; rfl
        rw [this] at q
        exact q.elim
      | succ m =>
        refine ⟨fun σ H' => ∃ s1, σ = [some (.ref A1.e), some (.int p)] ∧ KpM A1.M H H' ∧ ExV T.C_Execution T.a_HOLD T.a_BACK { A1 with S := fun a => A1.S a ∨ H a = none } s1 H' ∧ (∀ x ∈ s1.left, x.ok) ∧ Szd (399999 - 12 * m) s1 ∧ m ≤ 20000 ∧ OutR T.C_NoRun T.C_Execution T.a_HOLD T.a_BACK A1 H Q E (finE A1.bits (runE A1.bs A1.bits m s1)), fun σ' H1 h => ⟨m, by omega, h⟩, ?_⟩
        refine ⟨_, rfl, A1.e, dx6, _, rfl, he6, exf_step, _, rfl, A1.e, T.C_Execution, dx6, _, _, rfl, he6, T.cl_Execution, T.na_Execution_left, exf_left, .inl ⟨rfl, _, .inl (.inl hl6)⟩, A1.aL, _, v, rfl, rfl, hl6, (pop_last us v).1, ?_⟩
        rw [(pop_last us v).2]
        have q2 : OutR T.C_NoRun T.C_Execution T.a_HOLD T.a_BACK A1 H Q E (finE A1.bits (match stepE A1.bs A1.bits x { s1 with left := r } with | .go s' => runE A1.bs A1.bits m s' | o => o)) := by
          have : runE A1.bs A1.bits (m + 1) s1 = match stepE A1.bs A1.bits x { s1 with left := r } with | .go s' => runE A1.bs A1.bits m s' | o => o := by
            conv => lhs; unfold runE
            rw [hleft]
            try rfl
          rw [← this]
          exact q
        have zr : Szd (399999 - 12 * (m + 1)) { s1 with left := r } := by
          obtain ⟨z1, z2⟩ := hz
          rw [hleft, List.length_cons] at z1
          exact ⟨by show r.length + s1.deeds.length ≤ _; omega, z2⟩
        refine ⟨{ A1 with S := fun a => A1.S a ∨ H a = none }, { s1 with left := r }, x, v, rfl, X7, rv7, hok _ List.mem_cons_self, fun y hy => hok _ (List.mem_cons_of_mem _ hy), hbs, ⟨Nat.le_trans zr.1 (by omega), fun ns h => Nat.le_trans (zr.2 ns h) (by omega)⟩, ?_⟩
        cases est : stepE A1.bs A1.bits x { s1 with left := r } with
        | bad => rw [est] at q2; exact q2.elim
        | no i => rw [est] at q2; exact ErrR.kp (k6.trans k7) q2
        | go s' =>
          rw [est] at q2
          obtain ⟨o1, o2⟩ := step_ok hbs est (hok _ List.mem_cons_self) (fun y hy => hok _ (List.mem_cons_of_mem _ hy)) zr
          exact fun H8 k8 X8 => ⟨s', rfl, (k6.trans k7).trans k8, X8, o1, ⟨Nat.le_trans o2.1 (by omega), fun ns h => Nat.le_trans (o2.2 ns h) (by omega)⟩, by omega, q2⟩

--SPLIT
/-! ### the bits, and the execution itself -/
/-- the index of the first value that is no bit, -1 for what is no list -/
def bitsFault : PyData → Option Int
  | .list ds => (List.range ds.length).findSome? fun i => if inD (ds.getD i .none) (0, 1) then none else some (i : Int)
  | _ => some (-1)
def bitD (b : Bool) : PyData := .int (if b then 1 else 0)
theorem bits_of {d : PyData} (h : bitsFault d = none) : ∃ bits : List Bool, d = .list (bits.map bitD) := by
  unfold bitsFault at h
  split at h
  · rename_i ds
    rw [List.findSome?_eq_none_iff] at h
    refine ⟨ds.map fun d => PyData.eqv d (.int 1), ?_⟩
    congr 1
    rw [List.map_map]
    conv => lhs; rw [← List.map_id ds]
    refine List.map_congr_left fun d hd => ?_
    obtain ⟨i, hi⟩ := List.getElem?_of_mem hd
    have hl := (List.getElem?_eq_some_iff.mp hi).1
    have q := h i (List.mem_range.mpr hl)
    rw [List.getD_eq_getElem?_getD, hi] at q
    have q2 : inD d (0, 1) = true := by
      cases e : inD d (0, 1) with
      | true => rfl
      | false => rw [show inD ((some d).getD PyData.none) (0, 1) = false from e] at q; cases q
    have : ∃ z : Int, d = .int z ∧ 0 ≤ z ∧ z ≤ 1 := by
      unfold inD at q2
      cases d with
      | int z =>
        simp [isI, isNum] at q2
        exact ⟨z, rfl, by omega, by omega⟩
      | _ => simp [isI, isNum] at q2
    obtain ⟨z, rfl, h0, h1⟩ := this
    have : z = 0 ∨ z = 1 := by omega
    rcases this with rfl | rfl <;> rfl
  · cases h

theorem bf_lt {ds : List PyData} {i : Nat} {d : PyData} (h : ds[i]? = some d) (hd : inD d (0, 1) = false) (hb : ∀ j, j < i → ∀ e, ds[j]? = some e → inD e (0, 1) = true) : bitsFault (.list ds) = some (i : Int) := by
  have hl := (List.getElem?_eq_some_iff.mp h).1
  unfold bitsFault
  dsimp only
  have e1 : (List.range ds.length).findSome? (fun i => if inD (ds.getD i .none) (0, 1) then none else some (i : Int)) = some (i : Int) := by
    obtain ⟨k, hk⟩ : ∃ k, ds.length = i + 1 + k := ⟨ds.length - i - 1, by omega⟩
    have sp : List.range ds.length = List.range i ++ (i :: (List.range k).map (i + 1 + ·)) := by
      rw [hk, List.range_add, List.range_succ, List.append_assoc]
      rfl
    rw [sp, List.findSome?_append]
    have n1 : (List.range i).findSome? (fun i => if inD (ds.getD i .none) (0, 1) then none else some (i : Int)) = none := by
      rw [List.findSome?_eq_none_iff]
      intro j hj
      have hj := List.mem_range.mp hj
      have ej : ds[j]? = some ds[j] := List.getElem?_eq_getElem (by omega)
      rw [List.getD_eq_getElem?_getD, ej, show inD ((some ds[j]).getD PyData.none) (0, 1) = true from hb j hj _ ej]
      rfl
    rw [n1, List.findSome?_cons, List.getD_eq_getElem?_getD, h, show inD ((some d).getD PyData.none) (0, 1) = false from hd]
    rfl
  exact e1
theorem bf_none {ds : List PyData} (h : ∀ d ∈ ds, inD d (0, 1) = true) : bitsFault (.list ds) = none := by
  unfold bitsFault
  dsimp only
  rw [List.findSome?_eq_none_iff]
  intro j hj
  have hj := List.mem_range.mp hj
  have ej : ds[j]? = some ds[j] := List.getElem?_eq_getElem hj
  rw [List.getD_eq_getElem?_getD, ej, show inD ((some ds[j]).getD PyData.none) (0, 1) = true from h _ (List.getElem_mem hj)]
  rfl
def sp_check_bits (CE : Addr) : Sp := fun vs H Q E => ∃ (S : Addr → Prop) (d : PyData) (v : V), vs = [v] ∧ Tr S H d v ∧ (bitsFault d = none → ∀ H', Same H H' → Q .non H') ∧ ∀ i, bitsFault d = some i → ErrR CE (fun _ => False) H E i
theorem ok_check_bits (T : Top w K mg) : FnOk P w K mg base (L2.CX P w) 4 T.a_check_bits T.d_check_bits ["bits"] (sp_check_bits T.C_NoRun) := by
  refine T.F_check_bits.okX sc_check_bits (fun vs H Q E h => ?_) (fun cdv A outer sh H vs Q E hr h => ?_)
  · obtain ⟨S, d, v, rfl, _⟩ := h
    rfl
  · obtain ⟨S, d, v, rfl, hv, q, qe⟩ := h
    refine ⟨_, (pss_cons (ps_if (pt_not (pt_val (pe_callB (k_isi K) (by rfl) T.z_isinstance bt_isinstance (pa_cons (pv 0) (pa_cons (pe_bltn (v := .ty "list") (by rfl) T.z_list bt_list rfl) pa_nil))))) (pss_one (ps_raise rfl (takes_of rfl rfl rfl rfl) (pmk_oex T.O_NoRun T.io_NoRun T.to_NoRun (ok_NoRun___init__ T) (hr.mono (by decide)) (b_NoRun___init__ T) .nil pass0 (by rfl) T.g_NoRun (pa_cons (pe_un un_neg pe_int) pa_nil)))) pss_nil)
      (pss_one (ps_for (passes_of rfl) rfl (pi_enum (by rfl) T.z_enumerate (pa_cons (pv 0) pa_nil)) (pg_tup rfl (pgs_cons (pg_name (i := 1) sc_check_bits.nd rfl (Or.inl rfl)) (pgs_cons (pg_name (i := 2) sc_check_bits.nd rfl (Or.inl rfl)) pgs_nil))) (pss_one (ps_if (pt_not (pt_val (pe_call (ok_is_bit T) hr (by rfl) T.g_is_bit T.F_is_bit.kp (b_is_bit T) .nil pass0 (pa_cons (pv 2) pa_nil)))) (pss_one (ps_raise rfl (takes_of rfl rfl rfl rfl) (pmk_oex T.O_NoRun T.io_NoRun T.to_NoRun (ok_NoRun___init__ T) (hr.mono (by decide)) (b_NoRun___init__ T) .nil pass0 (by rfl) T.g_NoRun (pa_cons (pv 1) pa_nil)))) pss_nil))))), ?_⟩
    refine ⟨_, rfl, _, _, _, _, _, rfl, .ty _, tr_ty K hv, ki_list K _, _, rfl, ?_⟩
    cases d with
    | list ds =>
      obtain ⟨a, ys, rfl, sa, ha, hs⟩ := hv
      refine iteF ?_
      refine ⟨_, rfl, a, ys, rfl, SqL.of ha, ?_⟩
      refine for_it (walk_enum (xs := ys)) (fun i σ H' => ∃ y1 y2, σ = [some (.ref a), y1, y2] ∧ Same H H' ∧ ∀ j, j < i → ∀ e, ds[j]? = some e → inD e (0, 1) = true) ⟨_, _, rfl, Same.refl _, fun j hj => absurd hj (Nat.not_lt_zero _)⟩ (fun i σ H' _ h => ?_) (fun i x σ H' H2 hi h y => ?_) (fun σ H' h => ?_)
      · obtain ⟨_, _, _, sm, _⟩ := h
        exact SqL.of (sm _ _ ha)
      · obtain ⟨y1, y2, rfl, sm, hbs⟩ := h
        obtain ⟨u, x, y, rfl, nu, rfl, hx, hy⟩ := y
        cases hx
        have hy : ys[i]? = some y := hy
        obtain ⟨d, hd, tx⟩ := hs.get hy
        have s1 := sm.trans (same_upd (o := .tup [V.int (i : Int), y]) nu)
        have hu : (upd H' u (.tup [V.int (i : Int), y])) u = some (.tup [V.int (i : Int), y]) := upd_same
        generalize upd H' u (.tup [V.int (i : Int), y]) = H1 at *
        refine ⟨u, _, rfl, SqT.of hu, rfl, _, _, rfl, _, _, rfl, rfl, ?_⟩
        refine ⟨_, rfl, S, d, y, rfl, tx.same s1, fun H3 s3 => ?_⟩
        cases hin : inD d (0, 1) with
        | true =>
          refine ⟨_, rfl, iteF ⟨_, _, rfl, s1.trans s3, fun j hj e he => ?_⟩⟩
          rcases Nat.lt_succ_iff_lt_or_eq.mp hj with hj | rfl
          · exact hbs j hj e he
          · rw [hd] at he
            cases he
            exact hin
        | false =>
          refine ⟨_, rfl, iteT ⟨_, rfl, ?_⟩⟩
          exact ⟨by show 1 ≤ 1000; decide, made_NR (qe _ (bf_lt hd hin hbs)) (KpM.of (s1.trans s3))⟩
      · obtain ⟨y1, y2, rfl, sm, hbs⟩ := h
        refine q (bf_none fun d hd => ?_) _ sm
        obtain ⟨j, hj⟩ := List.getElem?_of_mem hd
        have := (List.getElem?_eq_some_iff.mp hj).1
        exact hbs j (by rw [hs.len]; exact this) d hj
    | _ =>
      refine iteT ⟨_, rfl, ?_⟩
      exact ⟨by show 1 ≤ 1000; decide, made_NR (qe (-1) rfl) (KpM.of (Same.refl _))⟩

--SPLIT
/-- an object under construction: its fields so far; all else is kept or new -/
structure FS (C : Addr) (e dx : Addr) (fs : List (Str × V)) (H H' : Hp) : Prop where
  at_ : H' e = some (.ins C dx fs)
  kp : ∀ b o, H b = some o → b ≠ e → H' b = some o
  nw : ∀ b, H' b = none → H b = none
theorem FS.put {C e dx : Addr} {fs gs : List (Str × V)} {H H' : Hp} (s : FS C e dx fs H H') : FS C e dx gs H (upd H' e (.ins C dx gs)) :=
  ⟨upd_same, fun b o h n => by rw [upd_ne n]; exact s.kp b o h n, fun b h => by
    by_cases z : b = e
    · rw [z, upd_same] at h; cases h
    · rw [upd_ne z] at h; exact s.nw b h⟩
theorem FS.new {C e dx : Addr} {fs : List (Str × V)} {H H' : Hp} (s : FS C e dx fs H H') {p : Addr} {o : HO} (n : H' p = none) : FS C e dx fs H (upd H' p o) :=
  ⟨by rw [upd_ne (ne_of_none s.at_ n)]; exact s.at_, fun b u h k => by have := s.kp b u h k; rw [upd_ne (ne_of_none this n)]; exact this, fun b h => by
    by_cases z : b = p
    · rw [z]; exact s.nw p n
    · rw [upd_ne z] at h; exact s.nw b h⟩
theorem FS.same {C e dx : Addr} {fs : List (Str × V)} {H H' H2 : Hp} (s : FS C e dx fs H H') (sm : Same H' H2) : FS C e dx fs H H2 :=
  ⟨sm _ _ s.at_, fun b u h k => sm _ _ (s.kp b u h k), fun b h => s.nw b (sm.free h)⟩
def sp_Execution_init (C : Addr) : Sp := fun vs H Q _ => ∃ (e dx aP aT : Addr) (ps : List V), vs = [.ref e, .ref aP, .ref aT] ∧ H e = some (.ins C dx []) ∧ H aP = some (.lst ps) ∧ ps.length ≤ 100 ∧
  ∀ (aL aG aD : Addr) (gs : List Addr) (H' : Hp), (∀ b o, H b = some o → b ≠ e → H' b = some o) → H' e = some (.ins C dx (exFs aP aT aL aG aD 0 0)) → H' aL = some (.lst []) → H' aG = some (.lst (gs.map V.ref)) → gs.length = ps.length → (∀ g ∈ gs, H' g = some (.lst [])) → H' aD = some (.lst []) → (aL :: aG :: aD :: gs).Nodup → (∀ a ∈ (aL :: aG :: aD :: gs), H a = none) → Q .non H'
theorem ok_Execution___init__ (T : Top w K mg) : FnOk P w K mg base CX0 1 T.a_Execution___init__ T.d_Execution___init__ ["self", "procedures", "bits"] (sp_Execution_init T.C_Execution) := by
  refine T.F_Execution___init__.ok sc_Execution___init__ (fun vs H Q E h => ?_) (fun cdv A outer sh H vs Q E hr h => ?_)
  · obtain ⟨e, dx, aP, aT, ps, rfl, _⟩ := h
    rfl
  · obtain ⟨e, dx, aP, aT, ps, rfl, he, hp, hl, q⟩ := h
    refine ⟨_, (pss_cons (ps_fld (pv 0) (pv 1) rfl)
      (pss_cons (ps_fld (pv 0) (pv 2) rfl)
      (pss_cons (ps_fld (pv 0) pe_int rfl)
      (pss_cons (ps_fld (pv 0) (pe_lst pa_nil) rfl)
      (pss_cons (ps_fld (pv 0) (pe_lc (own := [("_", 3)]) (g := (gName 3)) (tt := tYes) rfl sc_Execution___init__.nd (k_piL K (pv 1)) (blkOk_by (N := N_Execution___init__) (sc := defScope s_Execution___init__) (by decide +kernel)) (fun _ _ _ _ _ => (pg_name (i := 3) sc_Execution___init__.nd rfl (Or.inl rfl))) (fun _ _ _ _ _ => pts_nil) (fun _ _ _ _ _ => (pe_lst pa_nil))) rfl)
      (pss_cons (ps_fld (pv 0) (pe_lst pa_nil) rfl)
      (pss_one (ps_fld (pv 0) pe_int rfl)))))))), ?_⟩
    have nP : aP ≠ e := fun z => by
      rw [z, he] at hp
      cases hp
    refine ⟨_, rfl, _, rfl, e, T.C_Execution, dx, [], rfl, he, T.cl_Execution, T.na_Execution_procedures, (show 0 < 1000 by decide), ?_⟩
    have F0 : FS T.C_Execution e dx [] H H := ⟨he, fun b o h _ => h, fun b h => h⟩
    rw [(show putF "procedures" (V.ref aP) ([] : List (Str × V)) = ([("procedures", V.ref aP)] : List (Str × V)) from rfl)]
    have F1 := F0.put (gs := [("procedures", V.ref aP)])
    refine ⟨_, rfl, _, rfl, e, T.C_Execution, dx, _, rfl, F1.at_, T.cl_Execution, T.na_Execution_bits, (show 1 < 1000 by decide), ?_⟩
    rw [(show putF "bits" (V.ref aT) ([("procedures", V.ref aP)] : List (Str × V)) = ([("procedures", V.ref aP), ("bits", .ref aT)] : List (Str × V)) from rfl)]
    have F2 := F1.put (gs := [("procedures", V.ref aP), ("bits", .ref aT)])
    refine ⟨_, rfl, e, T.C_Execution, dx, _, rfl, F2.at_, T.cl_Execution, T.na_Execution_taken, (show 2 < 1000 by decide), ?_⟩
    rw [(show putF "taken" (V.int 0) ([("procedures", V.ref aP), ("bits", .ref aT)] : List (Str × V)) = ([("procedures", V.ref aP), ("bits", .ref aT), ("taken", natV 0)] : List (Str × V)) from rfl)]
    have F3 := F2.put (gs := [("procedures", V.ref aP), ("bits", .ref aT), ("taken", natV 0)])
    refine ⟨small100 (n := 0) (by decide), fun aL nL => ?_⟩
    have F4 := F3.new (o := .lst []) nL
    refine ⟨_, rfl, e, T.C_Execution, dx, _, rfl, F4.at_, T.cl_Execution, T.na_Execution_left, (show 3 < 1000 by decide), ?_⟩
    rw [(show putF "left" (V.ref aL) ([("procedures", V.ref aP), ("bits", .ref aT), ("taken", natV 0)] : List (Str × V)) = ([("procedures", V.ref aP), ("bits", .ref aT), ("taken", natV 0), ("left", .ref aL)] : List (Str × V)) from rfl)]
    have F5 := F4.put (gs := [("procedures", V.ref aP), ("bits", .ref aT), ("taken", natV 0), ("left", .ref aL)])
    have hL5 : upd (upd (upd (upd (upd H e (.ins T.C_Execution dx [("procedures", V.ref aP)])) e (.ins T.C_Execution dx [("procedures", V.ref aP), ("bits", .ref aT)])) e (.ins T.C_Execution dx [("procedures", V.ref aP), ("bits", .ref aT), ("taken", natV 0)])) aL (.lst [])) e (.ins T.C_Execution dx [("procedures", V.ref aP), ("bits", .ref aT), ("taken", natV 0), ("left", .ref aL)]) aL = some (.lst []) := by
      rw [upd_ne (Ne.symm (ne_of_none F3.at_ nL)), upd_same]
    have nL0 := F3.nw _ nL
    clear F0 F1 F2 F3 F4 nL
    generalize hH5 : upd (upd (upd (upd (upd H e (.ins T.C_Execution dx [("procedures", V.ref aP)])) e (.ins T.C_Execution dx [("procedures", V.ref aP), ("bits", .ref aT)])) e (.ins T.C_Execution dx [("procedures", V.ref aP), ("bits", .ref aT), ("taken", natV 0)])) aL (.lst [])) e (.ins T.C_Execution dx [("procedures", V.ref aP), ("bits", .ref aT), ("taken", natV 0), ("left", .ref aL)]) = H5 at *
    have hP5 := F5.kp _ _ hp nP
    refine ⟨_, rfl, aP, rfl, ⟨_, SqL.of hP5⟩, fun aG nG => ?_⟩
    refine lc_list (xs := ps) (fun i H' => ∃ gs : List Addr, gs.length = i ∧ H' aG = some (.lst (gs.map V.ref)) ∧ (∀ g ∈ gs, H' g = some (.lst [])) ∧ (aG :: gs).Nodup ∧ Same H5 H' ∧ ∀ g ∈ gs, H5 g = none) ⟨[], rfl, upd_same, (by intro g hg; cases hg), (by simp), same_upd nG, (by intro g hg; cases hg)⟩ (fun i H' _ h => ?_) (fun i x H' hx h => ?_) (fun H' h => ?_)
    · obtain ⟨gs, _, _, _, _, sm, _⟩ := h
      exact SqL.of (sm _ _ hP5)
    · obtain ⟨gs, hgl, hG, hgs, nd, sm, nn⟩ := h
      have hi := (List.getElem?_eq_some_iff.mp hx).1
      refine ⟨rfl, small100 (n := 0) (by decide), fun g ng => ⟨gs.map V.ref, ?_, ?_, gs ++ [g], ?_, ?_, ?_, ?_, ?_, ?_⟩⟩
      · rw [upd_ne (ne_of_none hG ng)]; exact hG
      · rw [List.length_map, hgl]
        exact small1000 (by omega)
      · rw [List.length_append, hgl]; rfl
      · rw [upd_same, List.map_append]; rfl
      · intro g' hg'
        rcases List.mem_append.mp hg' with h | h
        · have e1 := hgs g' h
          have n2 : g' ≠ aG := fun z => (List.nodup_cons.mp nd).1 (z ▸ h)
          rw [upd_ne n2, upd_ne (ne_of_none e1 ng)]
          exact e1
        · rw [List.mem_singleton.mp h, upd_ne (Ne.symm (ne_of_none hG ng)), upd_same]
      · rw [← List.cons_append, List.nodup_append]
        refine ⟨nd, by simp, fun a ha b hb => ?_⟩
        rw [List.mem_singleton.mp hb]
        rcases List.mem_cons.mp ha with h | h
        · rw [h]; exact ne_of_none hG ng
        · exact ne_of_none (hgs a h) ng
      · exact same_new (sm.trans (same_upd ng)) nG
      · intro g' hg'
        rcases List.mem_append.mp hg' with h | h
        · exact nn g' h
        · rw [List.mem_singleton.mp h]; exact sm.free ng
    · obtain ⟨gs, hgl, hG, hgs, nd, sm, nn⟩ := h
      have F6 := F5.same sm
      refine ⟨_, rfl, e, T.C_Execution, dx, _, rfl, F6.at_, T.cl_Execution, T.na_Execution_begun, (show 4 < 1000 by decide), ?_⟩
      rw [(show putF "begun" (V.ref aG) ([("procedures", V.ref aP), ("bits", .ref aT), ("taken", natV 0), ("left", .ref aL)] : List (Str × V)) = ([("procedures", V.ref aP), ("bits", .ref aT), ("taken", natV 0), ("left", .ref aL), ("begun", .ref aG)] : List (Str × V)) from rfl)]
      have F7 := F6.put (gs := [("procedures", V.ref aP), ("bits", .ref aT), ("taken", natV 0), ("left", .ref aL), ("begun", .ref aG)])
      refine ⟨small100 (n := 0) (by decide), fun aD nD => ?_⟩
      have F8 := F7.new (o := .lst []) nD
      refine ⟨_, rfl, e, T.C_Execution, dx, _, rfl, F8.at_, T.cl_Execution, T.na_Execution_deeds, (show 5 < 1000 by decide), ?_⟩
      rw [(show putF "deeds" (V.ref aD) ([("procedures", V.ref aP), ("bits", .ref aT), ("taken", natV 0), ("left", .ref aL), ("begun", .ref aG)] : List (Str × V)) = ([("procedures", V.ref aP), ("bits", .ref aT), ("taken", natV 0), ("left", .ref aL), ("begun", .ref aG), ("deeds", .ref aD)] : List (Str × V)) from rfl)]
      have F9 := F8.put (gs := [("procedures", V.ref aP), ("bits", .ref aT), ("taken", natV 0), ("left", .ref aL), ("begun", .ref aG), ("deeds", .ref aD)])
      refine ⟨_, rfl, e, T.C_Execution, dx, _, rfl, F9.at_, T.cl_Execution, T.na_Execution_way, (show 6 < 1000 by decide), ?_⟩
      rw [show putF "way" (V.int 0) ([("procedures", V.ref aP), ("bits", .ref aT), ("taken", natV 0), ("left", .ref aL), ("begun", .ref aG), ("deeds", .ref aD)] : List (Str × V)) = exFs aP aT aL aG aD 0 0 from rfl]
      have FX := F9.put (gs := exFs aP aT aL aG aD 0 0)
      have nDe : aD ≠ e := Ne.symm (ne_of_none F7.at_ nD)
      have nD1 : H' aD = none := by
        rw [upd_ne nDe] at nD
        exact nD
      have nLe : aL ≠ e := fun z => by rw [z, F5.at_] at hL5; cases hL5
      have hL6 := sm _ _ hL5
      have nGe : aG ≠ e := fun z => by rw [z, F6.at_] at hG; cases hG
      have other : ∀ b o, H' b = some o → b ≠ e → (upd (upd (upd (upd H' e (.ins T.C_Execution dx [("procedures", V.ref aP), ("bits", .ref aT), ("taken", natV 0), ("left", .ref aL), ("begun", .ref aG)])) aD (.lst [])) e (.ins T.C_Execution dx [("procedures", V.ref aP), ("bits", .ref aT), ("taken", natV 0), ("left", .ref aL), ("begun", .ref aG), ("deeds", .ref aD)])) e (.ins T.C_Execution dx (exFs aP aT aL aG aD 0 0))) b = some o := fun b o h n => by
        rw [upd_ne n, upd_ne n, upd_ne (ne_of_none h nD1), upd_ne n]
        exact h
      refine q aL aG aD gs _ FX.kp FX.at_ (other _ _ hL6 nLe) (other _ _ hG nGe) hgl (fun g hg => other _ _ (hgs g hg) fun z => ?_) ?_ ?_ ?_
      · have := nn g hg
        rw [z, F5.at_] at this
        cases this
      · rw [upd_ne nDe, upd_ne nDe, upd_same]
      · have hLG : aL ≠ aG := ne_of_none hL5 nG
        have hLD : aL ≠ aD := ne_of_none hL6 nD1
        have hGD : aG ≠ aD := ne_of_none hG nD1
        have hLg : aL ∉ gs := fun h => by have := nn _ h; rw [hL5] at this; cases this
        have hDg : aD ∉ gs := fun h => by have := hgs _ h; rw [nD1] at this; cases this
        obtain ⟨hGg, ndg⟩ := List.nodup_cons.mp nd
        simp only [List.nodup_cons, List.mem_cons, not_or]
        exact ⟨⟨hLG, hLD, hLg⟩, ⟨hGD, hGg⟩, hDg, ndg⟩
      · intro a ha
        simp only [List.mem_cons] at ha
        rcases ha with rfl | rfl | rfl | ha
        · exact nL0
        · exact F5.nw _ nG
        · exact F6.nw _ nD1
        · exact F5.nw _ (nn a ha)

--SPLIT
/-! ### executed -/
def initE (bs : List (List Stm)) : ESt := ⟨0, [], bs.map fun _ => [], [], 0⟩
theorem tr_tracked_all {S : Addr → Prop} {H : Hp} {ds : List PyData} {xs : List V} (t : TrAll S H ds xs) : TrAll (fun a => S a ∧ H a ≠ none) H ds xs := TrAll.tracked _ _ t
theorem made_ex {C aH aB : Addr} {S : Addr → Prop} {H : Hp} {p dx aP aT : Addr} {ps : List V} {bits : List Bool} {bs : List (List Stm)} {R : Hp → Prop} {E : XK} (hp : H aP = some (.lst ps)) (tp : TrAll S H (bs.map bD) ps) (ht : H aT = some (.lst (bits.map bitV))) (hne : aP ≠ aT) (hl : bs.length ≤ 100) (np : H p = none) (nd : H dx = none) (ne : dx ≠ p)
    (q : ∀ (A : ExA) (H' : Hp), A.e = p → Same H H' → A.bits = bits → A.bs = bs → ExV C aH aB A (initE bs) H' → (∀ a, A.M a → H a = none) → R H') :
    sp_Execution_init C [.ref p, .ref aP, .ref aT] (upd (upd H dx (.own p)) p (.ins C dx [])) (fun z H2 => z = .non ∧ R H2) E := by
  have s1 : Same H (upd (upd H dx (.own p)) p (.ins C dx [])) := fun b o e => by
    rw [upd_ne (ne_of_none e np), upd_ne (ne_of_none e nd)]
    exact e
  have ll := tp.len
  rw [List.length_map] at ll
  refine ⟨p, dx, aP, aT, ps, rfl, upd_same, s1 _ _ hp, by omega, fun aL aG aD gs H' k he hL hG hgl hgs hD nod nn => ⟨rfl, ?_⟩⟩
  have n0 : ∀ a ∈ (aL :: aG :: aD :: gs), H a = none ∧ a ≠ p := fun a ha => by
    have := nn a ha
    refine ⟨s1.free this, fun z => ?_⟩
    rw [z, upd_same] at this
    cases this
  have sm : Same H H' := fun b o e => k b o (s1 _ _ e) (ne_of_none e np)
  have nP : p ≠ aP := Ne.symm (ne_of_none hp np)
  have nT : p ≠ aT := Ne.symm (ne_of_none ht np)
  have nq : ∀ b o, H b = some o → ∀ a ∈ (aL :: aG :: aD :: gs), b ≠ a := fun b o e a ha => ne_of_none e (n0 a ha).1
  have nodX := nod
  simp only [List.nodup_cons, List.mem_cons, not_or] at nodX
  obtain ⟨⟨x1, x2, x3⟩, ⟨x4, x5⟩, x6, x7⟩ := nodX
  refine q ⟨p, aP, aT, aL, aG, aD, gs, fun a => S a ∧ H a ≠ none, bs, bits⟩ H' rfl sm rfl rfl ?_ ?_
  · refine ⟨⟨dx, he⟩, ⟨ps, sm _ _ hp, (tr_tracked_all tp).same sm⟩, sm _ _ ht, ⟨[], hL, rfl⟩, ⟨hG, ?_, fun i g ns hi hn => ?_⟩, ⟨[], hD, rfl⟩, ⟨?_, ?_⟩, Nat.zero_le _⟩
    · show gs.length = (bs.map _).length
      rw [List.length_map, hgl, ll]
    · have hn : (bs.map fun _ => ([] : List Nat))[i]? = some ns := hn
      rw [List.getElem?_map] at hn
      cases hb : bs[i]? with
      | none => rw [hb] at hn; cases hn
      | some b =>
        rw [hb] at hn
        cases hn
        exact hgs g (List.mem_of_getElem? hi)
    · simp only [List.nodup_cons, List.mem_cons, not_or]
      refine ⟨⟨nP, nT, fun z => (n0 aL (by simp)).2 z.symm, fun z => (n0 aG (by simp)).2 z.symm, fun z => (n0 aD (by simp)).2 z.symm, fun z => (n0 p (by simp [z])).2 rfl⟩, ⟨hne, nq _ _ hp _ (by simp), nq _ _ hp _ (by simp), nq _ _ hp _ (by simp), fun z => nq _ _ hp aP (by simp [z]) rfl⟩, ⟨nq _ _ ht _ (by simp), nq _ _ ht _ (by simp), nq _ _ ht _ (by simp), fun z => nq _ _ ht aT (by simp [z]) rfl⟩, ⟨x1, x2, x3⟩, ⟨x4, x5⟩, x6, x7⟩
    · intro a ha hs
      have : H a = none := by
        simp only [List.mem_cons] at ha
        rcases ha with rfl | rfl | rfl | ha
        · exact np
        · exact (n0 _ (by simp)).1
        · exact (n0 _ (by simp)).1
        · exact (n0 a (by simp [ha])).1
      exact hs.2 this
  · rintro a (rfl | rfl | rfl | ha)
    · exact np
    · exact (n0 _ (by simp)).1
    · exact (n0 _ (by simp)).1
    · exact (n0 a (by simp [show a ∈ gs from ha])).1
def runO (bs : List (List Stm)) (bits : List Bool) (n p : Nat) : Out := finE bits (runE bs bits n (startE p (initE bs)))
def ExR (CE C aH aB : Addr) (bs : List (List Stm)) (bits : List Bool) (H : Hp) (Q : VK) (E : XK) : Out → Prop
  | .go s => ∀ (A : ExA) (H' : Hp), Same H H' → A.bits = bits → A.bs = bs → ExV C aH aB A s H' → Q (.ref A.e) H'
  | .no i => ErrR CE (fun _ => False) H E i
  | .bad => False
theorem ErrR.of {CE : Addr} {M : Addr → Prop} {H H1 : Hp} {E : XK} {i : Int} (h : ErrR CE (fun _ => False) H E i) (s : Same H H1) (n : ∀ a, M a → H a = none) : ErrR CE M H1 E i := fun x H' k hx => h x H' (fun b o _ e => k b o (fun m => by rw [n b m] at e; cases e) (s _ _ e)) hx
def sp_executed (CB C aH aB CE NPr : Addr) : Sp := fun vs H Q E => ∃ (S S1 S2 : Addr → Prop) (a : Addr) (bs : List (List Stm)) (dp db : PyData) (vp vb : V) (n : Nat), vs = [.ref a, vp, vb] ∧ BookV S CB H a bs ∧ OkBook bs ∧ Tr S1 H dp vp ∧ Tr S2 H db vb ∧ n ≤ 20000 ∧
  (inD dp (0, (bs.length : Int) - 1) = false → ∀ H', Same H H' → E (.ref NPr) none H') ∧
  (∀ p : Nat, p < bs.length → dp = .int p → (∀ i, bitsFault db = some i → ErrR CE (fun _ => False) H E i) ∧ ∀ bits, db = .list (bits.map bitD) → ExR CE C aH aB bs bits H Q E (runO bs bits n p))
theorem inD_nat {d : PyData} {n : Nat} (h : inD d (0, (n : Int) - 1) = true) : ∃ p : Nat, p < n ∧ d = .int p := by
  unfold inD at h
  cases d with
  | int z =>
    simp [isI, isNum] at h
    exact ⟨z.toNat, by omega, by rw [show ((z.toNat : Nat) : Int) = z by omega]⟩
  | _ => simp [isI, isNum] at h
theorem bits_tr {S : Addr → Prop} {H : Hp} : ∀ {bits : List Bool} {xs : List V}, TrAll S H (bits.map bitD) xs → xs = bits.map bitV
  | [], _, e => e
  | b :: r, _, ⟨v, us, e, t, q⟩ => by
    have t : v = .int (if b then 1 else 0) := t
    subst e t
    rw [bits_tr q]
    rfl
theorem bodies_ok {bs : List (List Stm)} (h : OkBook bs) : BodiesOk bs := fun b m => ⟨(h.each b m).1, bs.length, (h.each b m).2.2⟩
theorem ok_executed (T : Top w K mg) : FnOk P w K mg base (L2.CX P w) 12 T.a_executed T.d_executed ["book", "procedure", "bits"] (sp_executed T.C_Book T.C_Execution T.a_HOLD T.a_BACK T.C_NoRun T.a_NoProcedure) := by
  refine T.F_executed.okX sc_executed (fun vs H Q E h => ?_) (fun cdv A outer sh H vs Q E hr h => ?_)
  · obtain ⟨S, S1, S2, a, bs, dp, db, vp, vb, n, rfl, _⟩ := h
    rfl
  · obtain ⟨S, S1, S2, a, bs, dp, db, vp, vb, n, rfl, hb, ho, hp, hv, hn, qn, q⟩ := h
    refine ⟨_, (pss_cons (ps_if (pt_not (pt_val (pe_call (ok_is_index T) (hr.mono (by decide)) (by rfl) T.g_is_index T.F_is_index.kp (b_is_index T) .nil pass0 (pa_cons (pv 1) (pa_cons (pe_callB (call_lenO (ok_Book___len__ T) T.m_Book___len__ (hr.mono (by decide)) (b_Book___len__ T) pass0) (by rfl) T.z_len bt_len (pa_cons (pv 0) pa_nil)) pa_nil))))) (pss_one (ps_own0 rfl (takes_of rfl rfl rfl rfl) T.X_NPr (by rfl))) pss_nil)
      (pss_cons (ps_expr (pe_callS (ok_check_bits T) (hr.mono (by decide)) (by rfl) T.g_check_bits T.F_check_bits.kp (b_check_bits T) (fun σ => passAt (takes_of rfl rfl rfl rfl) σ) (pa_cons (pv 2) pa_nil)))
      (pss_cons (ps_set (i := 3) sc_executed.nd rfl (Or.inl rfl) (pe_make T.mk_Execution (ok_Execution___init__ T) (hr.mono (by decide)) (by rfl) T.g_Execution (b_Execution___init__ T) .nil pass0 (pa_cons (pe_meth0 (pv 0) T.cl_Book T.m_Book_bodies (ok_Book_bodies T) (hr.mono (by decide)) (b_Book_bodies T) .nil pass0) (pa_cons (pv 2) pa_nil))))
      (pss_cons (ps_expr (pe_methR (pv 3) T.cl_Execution T.m_Execution_finish (ok_Execution_finish T) (hr.mono (by decide)) (b_Execution_finish T) (fun σ => passAt (takes_of rfl rfl rfl rfl) σ) (pa_cons (pv 1) pa_nil)))
      (pss_one (ps_ret (pv 3))))))), ?_⟩
    have hbl : bs.length ≤ 3 := ho.hi
    obtain ⟨dx, qa, hoa, hqa⟩ := id hb
    refine ⟨_, rfl, _, rfl, a, dx, _, rfl, hoa, S, a, bs, rfl, hb, _, rfl, ⟨by omega, by omega⟩, S1, dp, vp, bs.length, rfl, hp, fun H1 s1 => ?_⟩
    cases hin : inD dp (0, (bs.length : Int) - 1) with
    | false =>
      refine ⟨_, rfl, iteT ?_⟩
      exact qn hin _ s1
    | true =>
      refine ⟨_, rfl, iteF ?_⟩
      obtain ⟨p, hpl, rfl⟩ := inD_nat hin
      obtain ⟨qb, qg⟩ := q p hpl rfl
      have evp : vp = .int p := hp
      subst evp
      refine ⟨_, rfl, S2, db, vb, rfl, hv.same s1, fun hf H2 s2 => ?_, fun i hi => ErrR.kp (KpM.of s1) (qb i hi)⟩
      obtain ⟨bits, rfl⟩ := bits_of hf
      obtain ⟨aT, xs, rfl, sT, hT, ht⟩ := (hv.same s1).same s2
      rw [bits_tr ht] at hT
      have s02 := s1.trans s2
      refine ⟨_, rfl, a, dx, _, rfl, s02 _ _ hoa, bf_no _ (by decide), S, a, bs, rfl, hb.same s02, ho, fun r H3 s3 tr => ?_⟩
      obtain ⟨aP, ps, rfl, sP, hP, tP⟩ := tr
      have h3T := s3 _ _ hT
      have hne : aP ≠ aT := Ne.symm (ne_of_none hT sP)
      have s03 := s02.trans s3
      refine ⟨_, rfl, fun e dxe ne nd nn => made_ex (aH := T.a_HOLD) (aB := T.a_BACK) (bits := bits) hP tP h3T hne (by omega) ne nd nn fun A H4 hAe s4 hAbits hAbs X hM => ?_⟩
      subst hAe
      have qg := qg bits rfl
      have s04 := s03.trans s4
      have hM0 : ∀ x, A.M x → H x = none := fun x hx => s03.free (hM x hx)
      obtain ⟨dx4, he4⟩ := X.ins
      refine ⟨_, rfl, A.e, dx4, _, rfl, he4, exf_finish, _, rfl, A, initE bs, p, n, rfl, X, rfl, by rw [hAbs]; exact bodies_ok ho, ⟨Nat.zero_le _, fun ns hm => ?_⟩, hn, ?_⟩
      · obtain ⟨b, _, rfl⟩ := List.mem_map.mp hm
        exact Nat.zero_le _
      · rw [hAbs, hAbits]
        show OutR _ _ _ _ _ _ _ _ (runO bs bits n p)
        cases eo : runO bs bits n p with
        | bad => rw [eo] at qg; exact qg.elim
        | no i =>
          rw [eo] at qg
          exact ErrR.of qg s04 hM0
        | go s' =>
          rw [eo] at qg
          intro H5 k5 X5
          refine ⟨_, rfl, ?_⟩
          exact qg A H5 (fun b o e => k5 b o (fun m => by rw [hM0 b m] at e; cases e) (s04 _ _ e)) hAbits hAbs X5

--SPLIT
/-! ### a pen, of the heap or of the module; any other value -/
theorem sqT_ty {K : PySem.W.Frag} {H : Hp} {a : Addr} {xs : List V} (h : SqT K H a xs) : TyX K H (.ref a) (.type "tuple") := by
  rcases h with (h | ⟨o, h⟩) | ⟨o, its, n, e, c, _⟩
  · exact .base (.tup h)
  · exact .fTuple h
  · exact .kTuple e c
theorem sqL_ty {K : PySem.W.Frag} {H : Hp} {a : Addr} {xs : List V} (h : SqL K H a xs) : TyX K H (.ref a) (.type "list") := by
  rcases h with (h | ⟨o, h⟩) | ⟨o, its, n, e, c, _⟩
  · exact .base (.lst h)
  · exact .base (.frz h)
  · exact .kList e c
theorem sqT_same {K : PySem.W.Frag} {H H' : Hp} {a : Addr} {xs : List V} (h : SqT K H a xs) (s : Same H H') : SqT K H' a xs := by
  rcases h with (h | ⟨o, h⟩) | h
  · exact .inl (.inl (s _ _ h))
  · exact .inl (.inr ⟨o, s _ _ h⟩)
  · exact .inr h
/-- the value d at v; a pen may be an object of the module -/
def PV (K : PySem.W.Frag) (H : Hp) (d : PyData) (v : V) : Prop := (∃ S, Tr S H d v) ∨ ∃ (ps : List Int) (a : Addr), d = .tuple (ps.map .int) ∧ v = .ref a ∧ SqT K H a (ps.map V.int) ∧ ps.length ≤ 100
def penD (ps : List Int) : PyData := .tuple (ps.map .int)
def penOk : PyData → Bool
  | .tuple ds => decide (ds.length = 6) && ds.all isI
  | _ => false
theorem PV.same {K : PySem.W.Frag} {H H' : Hp} {d : PyData} {v : V} (h : PV K H d v) (s : Same H H') : PV K H' d v := by
  rcases h with ⟨S, h⟩ | ⟨ps, a, e, e2, h, l⟩
  · exact .inl ⟨S, h.same s⟩
  · exact .inr ⟨ps, a, e, e2, sqT_same h s, l⟩
theorem pv_tup {K : PySem.W.Frag} {H : Hp} {ds : List PyData} {v : V} (h : PV K H (.tuple ds) v) : ∃ (S : Addr → Prop) (a : Addr) (xs : List V), v = .ref a ∧ SqT K H a xs ∧ TrAll S H ds xs := by
  rcases h with ⟨S, a, xs, rfl, ha, hs⟩ | ⟨ps, a, e, e2, h, l⟩
  · exact ⟨S, a, xs, rfl, SqT.of ha, hs⟩
  · cases e
    exact ⟨fun _ => False, a, _, e2, h, TrAll.ofInts ps⟩
theorem pv_ty {K : PySem.W.Frag} {H : Hp} {d : PyData} {v : V} (h : PV K H d v) : TyX K H v (.type (clsN d)) := by
  rcases h with ⟨S, h⟩ | ⟨ps, a, rfl, rfl, h, l⟩
  · exact tr_ty K h
  · exact sqT_ty h
theorem penOk_ints {ps : List Int} (h : ps.length = 6) : penOk (penD ps) = true := by
  unfold penD penOk
  dsimp only
  rw [List.length_map, h, List.all_map]
  simp [Function.comp_def, isI, isNum]
theorem ints_pen {d : PyData} (h : penOk d = true) : ∃ ps : List Int, d = penD ps ∧ ps.length = 6 := by
  unfold penOk at h
  split at h
  · rename_i ds
    rw [Bool.and_eq_true, decide_eq_true_eq, List.all_eq_true] at h
    obtain ⟨hl, ha⟩ := h
    have : ∀ l : List PyData, (∀ d ∈ l, isI d = true) → ∃ ps : List Int, l = ps.map .int := by
      intro l
      induction l with
      | nil => intro _; exact ⟨[], rfl⟩
      | cons d r ih =>
        intro hh
        obtain ⟨ps, rfl⟩ := ih fun x hx => hh x (List.mem_cons_of_mem _ hx)
        have hd := hh d List.mem_cons_self
        cases d with
        | int z => exact ⟨z :: ps, rfl⟩
        | _ => simp [isI, isNum, isBl] at hd
    obtain ⟨ps, rfl⟩ := this ds ha
    rw [List.length_map] at hl
    exact ⟨ps, rfl, hl⟩
  · cases h
theorem pv_ints {K : PySem.W.Frag} {H : Hp} {ps : List Int} {v : V} (h : PV K H (penD ps) v) : ∃ a, v = .ref a ∧ SqT K H a (ps.map V.int) := by
  obtain ⟨S, a, xs, rfl, ha, hs⟩ := pv_tup h
  rw [TrAll.ints hs] at ha
  exact ⟨a, rfl, ha⟩
theorem pv_of {K : PySem.W.Frag} {H : Hp} {a : Addr} {ps : List Int} (h : SqT K H a (ps.map V.int)) (l : ps.length = 6) : PV K H (penD ps) (.ref a) := .inr ⟨ps, a, rfl, rfl, h, by omega⟩
def sp_is_pen (K : PySem.W.Frag) : Sp := fun vs H Q _ => ∃ (d : PyData) (v : V), vs = [v] ∧ PV K H d v ∧ ∀ H', Same H H' → Q (.bl (penOk d)) H'
theorem ok_is_pen (T : Top w K mg) : FnOk P w K mg base CX0 2 T.a_is_pen T.d_is_pen ["thing"] (sp_is_pen K) := by
  refine T.F_is_pen.ok sc_is_pen (fun vs H Q E h => ?_) (fun cdv A outer s H vs Q E hr h => ?_)
  · obtain ⟨d, v, rfl, _⟩ := h
    rfl
  · obtain ⟨d, v, rfl, hv, q⟩ := h
    refine ⟨_, (pss_one (ps_ret (pe_and (pe_callB (k_isi K) (by rfl) T.z_isinstance bt_isinstance (pa_cons (pv 0) (pa_cons (pe_bltn (v := .ty "tuple") (by rfl) T.z_tuple bt_tuple rfl) pa_nil))) (pe_and (pe_cmpR op_eq (pe_callB (k_len K) (by rfl) T.z_len bt_len (pa_cons (pv 0) pa_nil)) pe_int (nomark _)) (pe_one (pe_callB (k_all K) (by rfl) T.z_all bt_all (pa_cons (pe_lc (own := [("number", 1)]) (g := (gName 1)) (tt := tYes) rfl sc_is_pen.nd (k_piT K (pv 0)) (blkOk_by (N := N_is_pen) (sc := defScope s_is_pen) (by decide +kernel)) (fun _ _ _ _ _ => (pg_name (i := 1) sc_is_pen.nd rfl (Or.inl rfl))) (fun _ _ _ _ _ => pts_nil) (fun _ _ _ _ _ => (pe_call (ok_is_integer T) hr (by rfl) T.g_is_integer T.F_is_integer.kp (b_is_integer T) .nil pass0 (pa_cons (pv 1) pa_nil)))) pa_nil))))))), ?_⟩
    refine ⟨_, rfl, _, _, _, _, _, rfl, .ty _, pv_ty hv, ki_tuple K _, _, rfl, ?_⟩
    cases d with
    | tuple ds =>
      obtain ⟨S, a, xs, rfl, ha, hs⟩ := pv_tup hv
      have lx := hs.len
      refine ⟨_, rfl, a, _, rfl, .inr ha, rfl, _, rfl, ?_⟩
      by_cases l6 : ds.length = 6
      · refine iteP (by rw [lx, l6]; rfl) ?_
        refine ⟨_, rfl, a, rfl, ⟨_, ha⟩, fun D nD => lc_tup (xs := xs) (fun i H' => Same H H' ∧ H' D = some (.lst (((ds.map isI).take i).map V.bl))) ⟨same_upd nD, upd_same⟩ (fun i H' _ h => sqT_same ha h.1) (fun i x H' hx h => ?_) (fun H' h => ?_)⟩
        · obtain ⟨d, hd, tx⟩ := hs.get hx
          have hi := (List.getElem?_eq_some_iff.mp hx).1
          refine ⟨rfl, _, rfl, S, d, x, rfl, tx.same h.1, _, h.2, ?_, same_new h.1 nD, ?_⟩
          · rw [List.length_map, List.length_take]
            exact small1000 (by omega)
          · rw [upd_same, List.take_add_one, List.getElem?_map, hd, List.map_append]
            rfl
        · obtain ⟨h1, h2⟩ := h
          rw [show xs.length = (ds.map isI).length by rw [lx, List.length_map], List.take_length] at h2
          refine ⟨D, _, rfl, SqL.of h2, ?_⟩
          have e : penOk (.tuple ds) = (ds.map isI).all id := by
            unfold penOk
            dsimp only
            rw [decide_eq_true l6, Bool.true_and, List.all_map]
            rfl
          rw [← e]
          exact q _ h1
      · refine iteN (fun e => l6 (by have := V.int.inj e; omega)) ?_
        have e : penOk (.tuple ds) = false := by
          unfold penOk
          dsimp only
          rw [decide_eq_false l6, Bool.false_and]
        rw [← e]
        exact q H (Same.refl _)
    | _ => exact q H (Same.refl _)

/-! ### is_command of a deed: the two of the module are none -/
theorem fnOk_or {P : Program} {w : World} {K : PySem.W.Frag} {mg : Str → Option Value} {base : Heap} {CX : CXT} {k : Nat} {f : Addr} {fd : FuncData} {ps : List Str} {sp sp' : Sp} (F : FnOk P w K mg base CX k f fd ps sp) (F' : FnOk P w K mg base CX k f fd ps sp') :
    FnOk P w K mg base CX k f fd ps (fun vs H Q E => sp vs H Q E ∨ sp' vs H Q E) :=
  ⟨fun vs H Q E q => q.elim (F.len vs H Q E) (F'.len vs H Q E), fun A outer s H args us vs Q E hr he hb hv hs => hs.elim (F.run A outer s H args us vs Q E hr he hb hv) (F'.run A outer s H args us vs Q E hr he hb hv)⟩
theorem cmd_tr {S : Addr → Prop} {H : Hp} {b : Addr} {c : Cm} (h : H b = some (.tup c.vals)) : Tr S H c.d (.ref b) := ⟨b, _, rfl, h, .cons rfl (TrAll.ofInts _)⟩
theorem tr_cm {S : Addr → Prop} {H : Hp} {v : V} {c : Cm} (h : Tr S H c.d v) : ∃ b, v = .ref b ∧ H b = some (.tup c.vals) := by
  obtain ⟨b, xs, rfl, hb, x, us, rfl, hx, hu⟩ := h
  cases hx
  rw [TrAll.ints hu] at hb
  exact ⟨b, rfl, hb⟩
theorem WordOk.cm (c : Cm) : WordOk c.d := wordOk_d (.cmd c)
def sp_is_cmdW (K : PySem.W.Frag) (aB : Addr) : Sp := fun vs H Q _ => ∃ (a : Addr) (s : Str), vs = [.ref a] ∧ SqT K H a [.str s] ∧ PySem.W.nsIn K aB s = some none ∧ ∀ H', Same H H' → Q (.bl false) H'
theorem okw_is_command (T : Top w K mg) : FnOk P w K mg base CX0 3 T.a_is_command T.d_is_command ["thing"] (sp_is_cmdW K T.a_BOUNDS) := by
  refine T.F_is_command.ok sc_is_command (fun vs H Q E h => ?_) (fun cdv A outer s H vs Q E hr h => ?_)
  · obtain ⟨a, s, rfl, _⟩ := h
    rfl
  · obtain ⟨a, s, rfl, ha, hw, q⟩ := h
    refine ⟨_, (pss_cons (ps_if (PW.pt (pw_or (pt_not (pt_val (pe_callB (k_isi K) (by rfl) T.z_isinstance bt_isinstance (pa_cons (pv 0) (pa_cons (pe_bltn (v := .ty "tuple") (by rfl) T.z_tuple bt_tuple rfl) pa_nil))))) (pw_or1 (pt_cmpR op_eq (pe_callB (k_len K) (by rfl) T.z_len bt_len (pa_cons (pv 0) pa_nil)) pe_int (nomark _))))) (pss_one (ps_ret pe_bl)) pss_nil)
      (pss_cons (ps_asg (pv 0) (pg_star K rfl (pg_name (i := 1) sc_is_command.nd rfl (Or.inl rfl)) (pg_name (i := 2) sc_is_command.nd rfl (Or.inl rfl))))
      (pss_cons (ps_if (PW.pt (pw_or (pt_not (pt_val (pe_callB (k_isi K) (by rfl) T.z_isinstance bt_isinstance (pa_cons (pv 1) (pa_cons (pe_bltn (v := .ty "str") (by rfl) T.z_str bt_str rfl) pa_nil))))) (pw_or1 (pt_cmpR (op_notIn_kd T.D_B) (pv 1) (C8.pe_gc rfl T.c_BOUNDS) rfl)))) (pss_one (ps_ret pe_bl)) pss_nil)
      (pss_cons (ps_set (i := 3) sc_is_command.nd rfl (Or.inl rfl) (pe_ix ix_kdict (C8.pe_gc rfl T.c_BOUNDS) (pv 1) (fun _ _ => rfl)))
      (pss_cons (ps_if (pt_cmpR op_ne (pe_callB (k_len K) (by rfl) T.z_len bt_len (pa_cons (pv 2) pa_nil)) (pe_callB (k_len K) (by rfl) T.z_len bt_len (pa_cons (pv 3) pa_nil)) (nomark _)) (pss_one (ps_ret pe_bl)) pss_nil)
      (pss_one (ps_ret (pe_callB (k_all K) (by rfl) T.z_all bt_all (pa_cons (pe_lc (own := [("number", 4), ("pair", 5)]) (g := (gTup K 2 (gCons (gName 4) (gCons (gName 5) gNil)))) (tt := tYes) rfl sc_is_command.nd (pi_zipLT K (by rfl) T.z_zip (pa_cons (pv 2) (pa_cons (pv 3) pa_nil))) (blkOk_by (N := N_is_command) (sc := defScope s_is_command) (by decide +kernel)) (fun _ _ _ _ _ => (pg_tup rfl (pgs_cons (pg_name (i := 4) sc_is_command.nd rfl (Or.inl rfl)) (pgs_cons (pg_name (i := 5) sc_is_command.nd rfl (Or.inl rfl)) pgs_nil)))) (fun _ _ _ _ _ => pts_nil) (fun _ _ _ _ _ => (pe_call (ok_is_within T) hr (by rfl) T.g_is_within T.F_is_within.kp (b_is_within T) .nil pass0 (pa_cons (pv 4) (pa_cons (pv 5) pa_nil))))) pa_nil))))))))), ?_⟩
    refine ⟨_, rfl, _, _, _, _, _, rfl, .ty _, sqT_ty ha, ki_tuple K (.tuple []), _, rfl, ?_⟩
    refine ⟨_, rfl, a, _, rfl, .inr ha, rfl, _, rfl, iteN (fun e => by cases e) ?_⟩
    refine ⟨_, rfl, a, _, _, rfl, ha, fun b nb => ?_⟩
    have s1 := same_upd (o := .lst []) nb
    generalize upd H b (.lst []) = H1 at *
    refine ⟨_, rfl, _, _, _, _, _, rfl, .ty _, .base (.str s), ki_str K (.str s), _, rfl, ?_⟩
    refine ⟨_, rfl, _, none, rfl, rfl, hw, _, rfl, ?_⟩
    exact q _ s1
/-- is_command of a deed -/
def Dd.isC : Dd → Bool
  | .cmd _ => true
  | _ => false
def sp_is_cmdD (K : PySem.W.Frag) (aH aB : Addr) : Sp := fun vs H Q _ => ∃ (d : Dd) (v : V), vs = [v] ∧ DdV aH aB H d v ∧ d.ok ∧ ∀ H', Same H H' → Q (.bl d.isC) H'
theorem okg_is_command (T : Top w K mg) : FnOk P w K mg base CX0 3 T.a_is_command T.d_is_command ["thing"] (sp_is_cmdD K T.a_HOLD T.a_BACK) := by
  refine (fnOk_or (ok_is_command T) (okw_is_command T)).imp fun vs H Q E h => ?_
  obtain ⟨d, v, rfl, hv, ho, q⟩ := h
  cases d with
  | cmd c => exact .inl ⟨fun _ => False, c.d, v, rfl, hv, WordOk.cm c, by rw [cmdOk_ok ho]; exact q⟩
  | hold => cases hv; exact .inr ⟨T.a_HOLD, "hold", rfl, T.h_HOLD _, T.W_D0, q⟩
  | back => cases hv; exact .inr ⟨T.a_BACK, "back", rfl, T.h_BACK _, T.W_D1, q⟩

def sp_turned (K : PySem.W.Frag) : Sp := fun vs H Q _ => ∃ (u v n : Int), vs = [.int u, .int v, .int n] ∧ 0 ≤ n ∧ n ≤ 3 ∧
  ∀ (q : Addr) (H' : Hp), Same H H' → H q = none → H' q = some (.tup [.int (rot n.toNat (u, v)).1, .int (rot n.toNat (u, v)).2]) → Q (.ref q) H'
theorem ok_turned (T : Top w K mg) : FnOk P w K mg base CX0 1 T.a_turned T.d_turned ["u", "v", "times"] (sp_turned K) := by
  refine T.F_turned.ok sc_turned (fun vs H Q E h => ?_) (fun cdv A outer s H vs Q E hr h => ?_)
  · obtain ⟨u, v, n, rfl, _⟩ := h
    rfl
  · obtain ⟨u, v, n, rfl, h0, h3, q⟩ := h
    refine ⟨_, (pss_cons (ps_for PassesOwn.never rfl (pi_range1 (by rfl) T.z_range (pa_cons (pv 2) pa_nil)) (pg_name (i := 3) sc_turned.nd rfl (Or.inl rfl)) (pss_one (ps_par (i := 0) (j := 1) rfl sc_turned.nd rfl rfl (by decide) rfl rfl (pa_cons (pe_un un_neg (pv 1)) (pa_cons (pv 0) pa_nil)) (by rfl))))
      (pss_one (ps_ret (pe_tup (pa_cons (pv 0) (pa_cons (pv 1) pa_nil)))))), ?_⟩
    refine ⟨_, rfl, n, rfl, by omega, by omega, for_range (n := n.toNat) (fun i σ H' => ∃ y, σ = [some (.int (rot i (u, v)).1), some (.int (rot i (u, v)).2), some (.int n), y] ∧ H' = H) ⟨none, rfl, rfl⟩ (fun i σ H' hi h => ?_) (fun σ H' h => ?_)⟩
    · obtain ⟨y, rfl, rfl⟩ := h
      exact ⟨_, rfl, _, rfl, _, rfl, _, _, rfl, _, rfl, rfl⟩
    · obtain ⟨y, rfl, rfl⟩ := h
      exact ⟨_, rfl, _, rfl, small100 (n := 2) (by decide), fun p np => q p _ (same_upd np) np upd_same⟩

--SPLIT
theorem list6' {ps : List Int} (h : ps.length = 6) : ∃ x y u v p q, ps = [x, y, u, v, p, q] := by
  match ps, h with
  | [a, b, c, d, e, f], _ => exact ⟨a, b, c, d, e, f, rfl⟩
def sp_moved (K : PySem.W.Frag) : Sp := fun vs H Q _ => ∃ (a b : Addr) (ps : List Int) (c : Cm), vs = [.ref a, .ref b] ∧ SqT K H a (ps.map V.int) ∧ ps.length = 6 ∧ H b = some (.tup c.vals) ∧ c.ok ∧
  ∀ (q : Addr) (H' : Hp), Same H H' → H q = none → H' q = some (.tup ((c.mv ps).map V.int)) → Q (.ref q) H'
set_option maxHeartbeats 4000000 in
theorem ok_moved (T : Top w K mg) : FnOk P w K mg base CX0 4 T.a_moved T.d_moved ["pen", "command"] (sp_moved K) := by
  refine T.F_moved.ok sc_moved (fun vs H Q E h => ?_) (fun cdv A outer s H vs Q E hr h => ?_)
  · obtain ⟨a, b, ps, c, rfl, _⟩ := h
    rfl
  · obtain ⟨a, b, ps, c, rfl, ha, hl, hb, hok, q⟩ := h
    refine ⟨_, (pss_cons (ps_if (pt_not (pt_val (pe_call (ok_is_pen T) (hr.mono (by decide)) (by rfl) T.g_is_pen T.F_is_pen.kp (b_is_pen T) .nil pass0 (pa_cons (pv 0) pa_nil)))) (pss_one ps_never) pss_nil)
      (pss_cons (ps_if (pt_not (pt_val (pe_call (ok_is_command T) hr (by rfl) T.g_is_command T.F_is_command.kp (b_is_command T) .nil pass0 (pa_cons (pv 1) pa_nil)))) (pss_one ps_never) pss_nil)
      (pss_cons (ps_asg (pv 0) (pg_tup rfl (pgs_cons (pg_name (i := 2) sc_moved.nd rfl (Or.inl rfl)) (pgs_cons (pg_name (i := 3) sc_moved.nd rfl (Or.inl rfl)) (pgs_cons (pg_name (i := 4) sc_moved.nd rfl (Or.inl rfl)) (pgs_cons (pg_name (i := 5) sc_moved.nd rfl (Or.inl rfl)) (pgs_cons (pg_name (i := 6) sc_moved.nd rfl (Or.inl rfl)) (pgs_cons (pg_name (i := 7) sc_moved.nd rfl (Or.inl rfl)) pgs_nil))))))))
      (pss_cons (ps_set (i := 8) sc_moved.nd rfl (Or.inl rfl) (pe_ix (k_ixT K) (pv 1) pe_int (fun _ _ => rfl)))
      (pss_cons (ps_if (pt_cmpR op_eq (pv 8) pe_str (nomark _)) (pss_one (ps_ret (pe_tup (pa_cons (pe_op op_add (pv 2) (pe_op op_mul (pe_ix (k_ixT K) (pv 1) pe_int (fun _ _ => rfl)) (pv 4))) (pa_cons (pe_op op_add (pv 3) (pe_op op_mul (pe_ix (k_ixT K) (pv 1) pe_int (fun _ _ => rfl)) (pv 5))) (pa_cons (pv 4) (pa_cons (pv 5) (pa_cons (pv 6) (pa_cons (pv 7) pa_nil))))))))) pss_nil)
      (pss_cons (ps_if (pt_cmpR op_eq (pv 8) pe_str (nomark _)) (pss_one (ps_ret (pe_tup (pa_cons (pv 2) (pa_cons (pv 3) (k_star K (pe_call (ok_turned T) (hr.mono (by decide)) (by rfl) T.g_turned T.F_turned.kp (b_turned T) .nil pass0 (pa_cons (pv 4) (pa_cons (pv 5) (pa_cons (pe_ix (k_ixT K) (pv 1) pe_int (fun _ _ => rfl)) pa_nil)))) (pa_cons (pv 6) (pa_cons (pv 7) pa_nil)))))))) pss_nil)
      (pss_cons (ps_if (pt_cmpR op_eq (pv 8) pe_str (nomark _)) (pss_one (ps_ret (pe_tup (pa_cons (pv 2) (pa_cons (pv 3) (pa_cons (pv 4) (pa_cons (pe_un un_neg (pv 5)) (pa_cons (pv 6) (pa_cons (pv 7) pa_nil))))))))) pss_nil)
      (pss_cons (ps_if (pt_cmpR op_eq (pv 8) pe_str (nomark _)) (pss_one (ps_ret (pe_tup (pa_cons (pv 2) (pa_cons (pv 3) (pa_cons (pe_op op_mul (pe_ix (k_ixT K) (pv 1) pe_int (fun _ _ => rfl)) (pv 4)) (pa_cons (pe_op op_mul (pe_ix (k_ixT K) (pv 1) pe_int (fun _ _ => rfl)) (pv 5)) (pa_cons (pv 6) (pa_cons (pv 7) pa_nil))))))))) pss_nil)
      (pss_cons (ps_if (pt_cmpR op_eq (pv 8) pe_str (nomark _)) (pss_one (ps_ret (pe_tup (pa_cons (pv 2) (pa_cons (pv 3) (pa_cons (pe_ix (k_ixT K) (pv 1) pe_int (fun _ _ => rfl)) (pa_cons (pe_ix (k_ixT K) (pv 1) pe_int (fun _ _ => rfl)) (pa_cons (pv 6) (pa_cons (pv 7) pa_nil))))))))) pss_nil)
      (pss_cons (ps_if (pt_cmpR op_eq (pv 8) pe_str (nomark _)) (pss_one (ps_ret (pe_tup (pa_cons (pe_ix (k_ixT K) (pv 1) pe_int (fun _ _ => rfl)) (pa_cons (pe_ix (k_ixT K) (pv 1) pe_int (fun _ _ => rfl)) (pa_cons (pv 4) (pa_cons (pv 5) (pa_cons (pv 6) (pa_cons (pv 7) pa_nil))))))))) pss_nil)
      (pss_cons (ps_if (pt_cmpR op_eq (pv 8) pe_str (nomark _)) (pss_one (ps_ret (pe_tup (pa_cons (pv 2) (pa_cons (pv 3) (pa_cons (pv 4) (pa_cons (pv 5) (pa_cons (pv 2) (pa_cons (pv 3) pa_nil))))))))) pss_nil)
      (pss_cons (ps_if (pt_cmpR op_eq (pv 8) pe_str (nomark _)) (pss_one (ps_ret (pe_tup (pa_cons (pv 6) (pa_cons (pv 7) (pa_cons (pv 4) (pa_cons (pv 5) (pa_cons (pv 6) (pa_cons (pv 7) pa_nil))))))))) pss_nil)
      (pss_one (ps_ret (pe_tup (pa_cons (pv 6) (pa_cons (pv 7) (pa_cons (pv 4) (pa_cons (pv 5) (pa_cons (pv 2) (pa_cons (pv 3) pa_nil))))))))))))))))))))), ?_⟩
    obtain ⟨x, y, u, v, p, r, rfl⟩ := list6' hl
    refine ⟨_, rfl, penD [x, y, u, v, p, r], .ref a, rfl, pv_of ha hl, fun H1 s1 => ⟨true, congrArg V.bl (penOk_ints hl), ?_⟩⟩
    refine ⟨_, rfl, fun _ => False, c.d, .ref b, rfl, cmd_tr (s1 _ _ hb), WordOk.cm c, fun H2 s2 => ⟨true, congrArg V.bl (cmdOk_ok hok), ?_⟩⟩
    have s02 := s1.trans s2
    have hb2 := s02 _ _ hb
    refine ⟨_, rfl, a, _, rfl, sqT_same ha s02, rfl, _, _, rfl, _, _, rfl, _, _, rfl, _, _, rfl, _, _, rfl, _, _, rfl, rfl, ?_⟩
    refine ⟨_, rfl, b, _, 0, _, rfl, rfl, SqT.of hb2, atI_nat (j := 0) rfl, ?_⟩
    have lim : ∀ {i : Nat} {z : Int} {l : Int × Int}, c.nums[i]? = some z → c.lims[i]? = some l → l.1 ≤ z ∧ z ≤ l.2 := fun g1 g2 => hok _ _ _ g1 g2
    have done : ∀ {q : Addr} {J : Hp} {l : List Int}, Same H J → J q = none → l = c.mv [x, y, u, v, p, r] → Same H (upd J q (.tup (l.map V.int))) ∧ H q = none ∧ (upd J q (.tup (l.map V.int))) q = some (.tup ((c.mv [x, y, u, v, p, r]).map V.int)) := fun s n e => ⟨same_new s (s.free n), s.free n, by rw [upd_same, e]⟩
    cases c with
    | go k =>
      have h1 := lim (i := 0) rfl rfl
      dsimp only at h1
      refine ⟨_, rfl, rfl, _, rfl, iteP rfl ?_⟩
      refine ⟨_, rfl, _, rfl, b, _, 1, _, rfl, rfl, SqT.of hb2, atI_nat (j := 1) rfl, _, rfl, _, _, rfl, rfl, .inl ⟨by omega, by omega⟩, _, _, rfl, rfl, _, rfl, _, rfl, b, _, 1, _, rfl, rfl, SqT.of hb2, atI_nat (j := 1) rfl, _, rfl, _, _, rfl, rfl, .inl ⟨by omega, by omega⟩, _, _, rfl, rfl, _, rfl, _, rfl, _, rfl, _, rfl, small100 (n := 6) (by decide), fun t nt => ?_⟩
      exact q t _ (done (l := Cm.mv (.go k) [x, y, u, v, p, r]) s02 nt rfl).1 (done (l := Cm.mv (.go k) [x, y, u, v, p, r]) s02 nt rfl).2.1 (done (l := Cm.mv (.go k) [x, y, u, v, p, r]) s02 nt rfl).2.2
    | turn n =>
      have h1 := lim (i := 0) rfl rfl
      dsimp only at h1
      refine ⟨_, rfl, rfl, _, rfl, iteN (show ¬ V.str ("turn" : Str) = V.str ("go" : Str) by decide) ?_⟩
      refine ⟨_, rfl, rfl, _, rfl, iteP rfl ?_⟩
      refine ⟨_, rfl, _, rfl, _, rfl, _, rfl, _, rfl, b, _, 1, _, rfl, rfl, SqT.of hb2, atI_nat (j := 1) rfl, _, _, _, rfl, by omega, by omega, fun z H3 s3 nz hz => ⟨z, _, rfl, .inl (SqT.of hz), _, rfl, _, rfl, small100 (n := 6) (by decide), fun t nt => ?_⟩⟩
      exact q t _ (done (l := Cm.mv (.turn n) [x, y, u, v, p, r]) (s02.trans s3) nt rfl).1 (done (l := Cm.mv (.turn n) [x, y, u, v, p, r]) (s02.trans s3) nt rfl).2.1 (done (l := Cm.mv (.turn n) [x, y, u, v, p, r]) (s02.trans s3) nt rfl).2.2
    | mirror =>
      refine ⟨_, rfl, rfl, _, rfl, iteN (show ¬ V.str ("mirror" : Str) = V.str ("go" : Str) by decide) ?_⟩
      refine ⟨_, rfl, rfl, _, rfl, iteN (show ¬ V.str ("mirror" : Str) = V.str ("turn" : Str) by decide) ?_⟩
      refine ⟨_, rfl, rfl, _, rfl, iteP rfl ?_⟩
      refine ⟨_, rfl, _, rfl, _, rfl, _, rfl, _, rfl, _, rfl, _, rfl, small100 (n := 6) (by decide), fun t nt => ?_⟩
      exact q t _ (done (l := Cm.mv (.mirror) [x, y, u, v, p, r]) s02 nt rfl).1 (done (l := Cm.mv (.mirror) [x, y, u, v, p, r]) s02 nt rfl).2.1 (done (l := Cm.mv (.mirror) [x, y, u, v, p, r]) s02 nt rfl).2.2
    | scale k =>
      have h1 := lim (i := 0) rfl rfl
      dsimp only at h1
      refine ⟨_, rfl, rfl, _, rfl, iteN (show ¬ V.str ("scale" : Str) = V.str ("go" : Str) by decide) ?_⟩
      refine ⟨_, rfl, rfl, _, rfl, iteN (show ¬ V.str ("scale" : Str) = V.str ("turn" : Str) by decide) ?_⟩
      refine ⟨_, rfl, rfl, _, rfl, iteN (show ¬ V.str ("scale" : Str) = V.str ("mirror" : Str) by decide) ?_⟩
      refine ⟨_, rfl, rfl, _, rfl, iteP rfl ?_⟩
      refine ⟨_, rfl, _, rfl, _, rfl, b, _, 1, _, rfl, rfl, SqT.of hb2, atI_nat (j := 1) rfl, _, rfl, _, _, rfl, rfl, .inl ⟨by omega, by omega⟩, _, rfl, b, _, 1, _, rfl, rfl, SqT.of hb2, atI_nat (j := 1) rfl, _, rfl, _, _, rfl, rfl, .inl ⟨by omega, by omega⟩, _, rfl, _, rfl, small100 (n := 6) (by decide), fun t nt => ?_⟩
      exact q t _ (done (l := Cm.mv (.scale k) [x, y, u, v, p, r]) s02 nt rfl).1 (done (l := Cm.mv (.scale k) [x, y, u, v, p, r]) s02 nt rfl).2.1 (done (l := Cm.mv (.scale k) [x, y, u, v, p, r]) s02 nt rfl).2.2
    | aim a1 a2 =>
      refine ⟨_, rfl, rfl, _, rfl, iteN (show ¬ V.str ("aim" : Str) = V.str ("go" : Str) by decide) ?_⟩
      refine ⟨_, rfl, rfl, _, rfl, iteN (show ¬ V.str ("aim" : Str) = V.str ("turn" : Str) by decide) ?_⟩
      refine ⟨_, rfl, rfl, _, rfl, iteN (show ¬ V.str ("aim" : Str) = V.str ("mirror" : Str) by decide) ?_⟩
      refine ⟨_, rfl, rfl, _, rfl, iteN (show ¬ V.str ("aim" : Str) = V.str ("scale" : Str) by decide) ?_⟩
      refine ⟨_, rfl, rfl, _, rfl, iteP rfl ?_⟩
      refine ⟨_, rfl, _, rfl, _, rfl, b, _, 1, _, rfl, rfl, SqT.of hb2, atI_nat (j := 1) rfl, _, rfl, b, _, 2, _, rfl, rfl, SqT.of hb2, atI_nat (j := 2) rfl, _, rfl, _, rfl, small100 (n := 6) (by decide), fun t nt => ?_⟩
      exact q t _ (done (l := Cm.mv (.aim a1 a2) [x, y, u, v, p, r]) s02 nt rfl).1 (done (l := Cm.mv (.aim a1 a2) [x, y, u, v, p, r]) s02 nt rfl).2.1 (done (l := Cm.mv (.aim a1 a2) [x, y, u, v, p, r]) s02 nt rfl).2.2
    | place a1 a2 =>
      refine ⟨_, rfl, rfl, _, rfl, iteN (show ¬ V.str ("place" : Str) = V.str ("go" : Str) by decide) ?_⟩
      refine ⟨_, rfl, rfl, _, rfl, iteN (show ¬ V.str ("place" : Str) = V.str ("turn" : Str) by decide) ?_⟩
      refine ⟨_, rfl, rfl, _, rfl, iteN (show ¬ V.str ("place" : Str) = V.str ("mirror" : Str) by decide) ?_⟩
      refine ⟨_, rfl, rfl, _, rfl, iteN (show ¬ V.str ("place" : Str) = V.str ("scale" : Str) by decide) ?_⟩
      refine ⟨_, rfl, rfl, _, rfl, iteN (show ¬ V.str ("place" : Str) = V.str ("aim" : Str) by decide) ?_⟩
      refine ⟨_, rfl, rfl, _, rfl, iteP rfl ?_⟩
      refine ⟨_, rfl, b, _, 1, _, rfl, rfl, SqT.of hb2, atI_nat (j := 1) rfl, _, rfl, b, _, 2, _, rfl, rfl, SqT.of hb2, atI_nat (j := 2) rfl, _, rfl, _, rfl, _, rfl, _, rfl, small100 (n := 6) (by decide), fun t nt => ?_⟩
      exact q t _ (done (l := Cm.mv (.place a1 a2) [x, y, u, v, p, r]) s02 nt rfl).1 (done (l := Cm.mv (.place a1 a2) [x, y, u, v, p, r]) s02 nt rfl).2.1 (done (l := Cm.mv (.place a1 a2) [x, y, u, v, p, r]) s02 nt rfl).2.2
    | mark =>
      refine ⟨_, rfl, rfl, _, rfl, iteN (show ¬ V.str ("mark" : Str) = V.str ("go" : Str) by decide) ?_⟩
      refine ⟨_, rfl, rfl, _, rfl, iteN (show ¬ V.str ("mark" : Str) = V.str ("turn" : Str) by decide) ?_⟩
      refine ⟨_, rfl, rfl, _, rfl, iteN (show ¬ V.str ("mark" : Str) = V.str ("mirror" : Str) by decide) ?_⟩
      refine ⟨_, rfl, rfl, _, rfl, iteN (show ¬ V.str ("mark" : Str) = V.str ("scale" : Str) by decide) ?_⟩
      refine ⟨_, rfl, rfl, _, rfl, iteN (show ¬ V.str ("mark" : Str) = V.str ("aim" : Str) by decide) ?_⟩
      refine ⟨_, rfl, rfl, _, rfl, iteN (show ¬ V.str ("mark" : Str) = V.str ("place" : Str) by decide) ?_⟩
      refine ⟨_, rfl, rfl, _, rfl, iteP rfl ?_⟩
      refine ⟨_, rfl, _, rfl, _, rfl, _, rfl, _, rfl, _, rfl, small100 (n := 6) (by decide), fun t nt => ?_⟩
      exact q t _ (done (l := Cm.mv (.mark) [x, y, u, v, p, r]) s02 nt rfl).1 (done (l := Cm.mv (.mark) [x, y, u, v, p, r]) s02 nt rfl).2.1 (done (l := Cm.mv (.mark) [x, y, u, v, p, r]) s02 nt rfl).2.2
    | ret =>
      refine ⟨_, rfl, rfl, _, rfl, iteN (show ¬ V.str ("return" : Str) = V.str ("go" : Str) by decide) ?_⟩
      refine ⟨_, rfl, rfl, _, rfl, iteN (show ¬ V.str ("return" : Str) = V.str ("turn" : Str) by decide) ?_⟩
      refine ⟨_, rfl, rfl, _, rfl, iteN (show ¬ V.str ("return" : Str) = V.str ("mirror" : Str) by decide) ?_⟩
      refine ⟨_, rfl, rfl, _, rfl, iteN (show ¬ V.str ("return" : Str) = V.str ("scale" : Str) by decide) ?_⟩
      refine ⟨_, rfl, rfl, _, rfl, iteN (show ¬ V.str ("return" : Str) = V.str ("aim" : Str) by decide) ?_⟩
      refine ⟨_, rfl, rfl, _, rfl, iteN (show ¬ V.str ("return" : Str) = V.str ("place" : Str) by decide) ?_⟩
      refine ⟨_, rfl, rfl, _, rfl, iteN (show ¬ V.str ("return" : Str) = V.str ("mark" : Str) by decide) ?_⟩
      refine ⟨_, rfl, rfl, _, rfl, iteP rfl ?_⟩
      refine ⟨_, rfl, _, rfl, _, rfl, _, rfl, _, rfl, _, rfl, small100 (n := 6) (by decide), fun t nt => ?_⟩
      exact q t _ (done (l := Cm.mv (.ret) [x, y, u, v, p, r]) s02 nt rfl).1 (done (l := Cm.mv (.ret) [x, y, u, v, p, r]) s02 nt rfl).2.1 (done (l := Cm.mv (.ret) [x, y, u, v, p, r]) s02 nt rfl).2.2
    | exch =>
      refine ⟨_, rfl, rfl, _, rfl, iteN (show ¬ V.str ("exchange" : Str) = V.str ("go" : Str) by decide) ?_⟩
      refine ⟨_, rfl, rfl, _, rfl, iteN (show ¬ V.str ("exchange" : Str) = V.str ("turn" : Str) by decide) ?_⟩
      refine ⟨_, rfl, rfl, _, rfl, iteN (show ¬ V.str ("exchange" : Str) = V.str ("mirror" : Str) by decide) ?_⟩
      refine ⟨_, rfl, rfl, _, rfl, iteN (show ¬ V.str ("exchange" : Str) = V.str ("scale" : Str) by decide) ?_⟩
      refine ⟨_, rfl, rfl, _, rfl, iteN (show ¬ V.str ("exchange" : Str) = V.str ("aim" : Str) by decide) ?_⟩
      refine ⟨_, rfl, rfl, _, rfl, iteN (show ¬ V.str ("exchange" : Str) = V.str ("place" : Str) by decide) ?_⟩
      refine ⟨_, rfl, rfl, _, rfl, iteN (show ¬ V.str ("exchange" : Str) = V.str ("mark" : Str) by decide) ?_⟩
      refine ⟨_, rfl, rfl, _, rfl, iteN (show ¬ V.str ("exchange" : Str) = V.str ("return" : Str) by decide) ?_⟩
      refine ⟨_, rfl, _, rfl, _, rfl, _, rfl, _, rfl, _, rfl, small100 (n := 6) (by decide), fun t nt => ?_⟩
      exact q t _ (done (l := Cm.mv (.exch) [x, y, u, v, p, r]) s02 nt rfl).1 (done (l := Cm.mv (.exch) [x, y, u, v, p, r]) s02 nt rfl).2.1 (done (l := Cm.mv (.exch) [x, y, u, v, p, r]) s02 nt rfl).2.2

--SPLIT

/-! ### the pens behind the deeds -/
theorem big {n : Nat} (h : n ≤ 200000) : n < sizeLine := Nat.lt_of_le_of_lt h (by decide)
def holdD : PyData := .tuple [.str "hold"]
def Dd.d : Dd → PyData
  | .cmd c => c.d
  | .hold => holdD
  | .back => backD
def Dd.isH : Dd → Bool
  | .hold => true
  | _ => false
def Dd.isB : Dd → Bool
  | .back => true
  | _ => false
/-- a for over a list, within a generator def -/
theorem g3_walkL {K : PySem.W.Frag} {a : Addr} {zs : List V} {g : TG} {tb : TGn} {D : GEnds} {ys : List V} {σ : L2.St} {H : Hp} (I : Nat → List V → L2.St → Hp → Prop) (start : I 0 ys σ H) (list : ∀ i ys σ H, i ≤ zs.length → I i ys σ H → SqL K H a zs)
    (turn : ∀ i x ys σ H, zs[i]? = some x → I i ys σ H → g x σ H fun σ2 H2 => tb { D with nx := I (i + 1), ct := I (i + 1), bk := D.nx } ys σ2 H2) (done : ∀ ys σ H, I zs.length ys σ H → D.nx ys σ H) :
    ∃ W : Nat → Nat → List V → L2.St → Hp → Prop, (∃ m, W 0 m ys σ H) ∧ ∀ i m ys σ H, W i m ys σ H →
      ((Itl K a).stop i H ∧ D.nx ys σ H) ∨ ((Itl K a).go i H ∧ ∃ N : List V → L2.St → Hp → Prop, (∀ ys' σ' H', N ys' σ' H' → ∃ m', m' < m ∧ W (i + 1) m' ys' σ' H') ∧ ∀ x H', (Itl K a).yld i H x H' → g x σ H' fun σ2 H2 => tb { D with nx := N, ct := N, bk := D.nx } ys σ2 H2) := by
  have all : ∀ i m ys σ H, (m + i = zs.length ∧ I i ys σ H) → ((Itl K a).stop i H ∧ D.nx ys σ H) ∨ ((Itl K a).go i H ∧ ∃ N : List V → L2.St → Hp → Prop, (∀ ys' σ' H', N ys' σ' H' → ∃ m', m' < m ∧ (m' + (i + 1) = zs.length ∧ I (i + 1) ys' σ' H')) ∧ ∀ x H', (Itl K a).yld i H x H' → g x σ H' fun σ2 H2 => tb { D with nx := N, ct := N, bk := D.nx } ys σ2 H2) := by
    rintro i m ys σ H ⟨e, h⟩
    have sq := list i ys σ H (by omega) h
    cases m with
    | zero =>
      have e : i = zs.length := by omega
      subst e
      exact .inl ⟨⟨zs, sq, Nat.le_refl _⟩, done ys σ H h⟩
    | succ m =>
      have hi : i < zs.length := by omega
      refine .inr ⟨⟨zs, zs[i], sq, List.getElem?_eq_getElem hi⟩, I (i + 1), fun ys' σ' H' h' => ⟨m, Nat.lt_succ_self _, by omega, h'⟩, ?_⟩
      rintro x H' ⟨rfl, hx⟩
      exact turn i x ys σ _ (hx zs sq) h
  exact ⟨fun i m ys σ H => m + i = zs.length ∧ I i ys σ H, ⟨zs.length, rfl, start⟩, all⟩
def penR (K : PySem.W.Frag) (H : Hp) (q : List Int) (v : V) : Prop := ∃ c : Addr, v = .ref c ∧ SqT K H c (q.map V.int)
theorem sqT_put {K : PySem.W.Frag} {H : Hp} {a c : Addr} {xs ys zs : List V} (hc : SqT K H c xs) (ha : H a = some (.lst ys)) : SqT K (upd H a (.lst zs)) c xs := by
  rcases hc with (h | ⟨o, h⟩) | h
  · refine .inl (.inl ?_)
    rw [upd_ne (fun e => by rw [e, ha] at h; cases h)]
    exact h
  · refine .inl (.inr ⟨o, ?_⟩)
    rw [upd_ne (fun e => by rw [e, ha] at h; cases h)]
    exact h
  · exact .inr h
theorem penR.put {K : PySem.W.Frag} {H : Hp} {a : Addr} {ys zs : List V} (ha : H a = some (.lst ys)) (q : List Int) (v : V) : penR K H q v → penR K (upd H a (.lst zs)) q v := fun ⟨c, e, h⟩ => ⟨c, e, sqT_put h ha⟩
theorem penR.same {K : PySem.W.Frag} {H H' : Hp} (s : Same H H') (q : List Int) (v : V) : penR K H q v → penR K H' q v := fun ⟨c, e, h⟩ => ⟨c, e, sqT_same h s⟩
theorem hold_sh : SeqAt.shaped holdD = true := by decide +kernel
theorem ne_hold (c : Cm) : PyData.eqv c.d holdD = false := by
  show PyData.eqv (.tuple (.str c.word :: c.nums.map .int)) (.tuple [.str "hold"]) = false
  rw [PyData.eqv, PyData.eqvAll, cm_neB c "hold" (cm_neS (by decide))]
  rfl
theorem dd_dp {K : PySem.W.Frag} {aH aB : Addr} {H : Hp} (hH : ∀ H, SqT K H aH [V.str "hold"]) (hB : ∀ H, SqT K H aB [V.str "back"]) {d : Dd} {v : V} (t : DdV aH aB H d v) (o : d.ok) : Dp K H v d.d ∧ SeqAt.shaped d.d = true ∧ PyData.eqv d.d holdD = d.isH ∧ PyData.eqv d.d backD = d.isB := by
  cases d with
  | cmd c =>
    have sh := (fit_stm (.cmd c) 0 12 (show (Stm.cmd c).ok 0 0 from o) (by omega)).shaped (by decide)
    exact ⟨Tr.dp _ _ (canOf sh) t, sh, ne_hold c, ne_back (.cmd c)⟩
  | hold => cases t; exact ⟨.tup (hH H) (.cons (.str _) .nil), hold_sh, rfl, rfl⟩
  | back => cases t; exact ⟨.tup (hB H) (.cons (.str _) .nil), back_sh, rfl, rfl⟩
theorem DdV.same {aH aB : Addr} {H H' : Hp} (s : Same H H') (d : Dd) (v : V) : DdV aH aB H d v → DdV aH aB H' d v := DdV.keep (S := fun _ => False) (M := fun _ => False) (KpM.of s) (fun _ h => h.elim) d v
theorem AllR.get {α : Type} {R : α → V → Prop} : ∀ {as : List α} {vs : List V} {i : Nat} {v : V}, AllR R as vs → vs[i]? = some v → ∃ a, as[i]? = some a ∧ R a v
  | [], _, i, v, e, h => by have e : _ = [] := e; subst e; cases h
  | a :: r, _, 0, v, ⟨x, us, e, hx, q⟩, h => by subst e; cases h; exact ⟨a, rfl, hx⟩
  | a :: r, _, i + 1, v, ⟨x, us, e, hx, q⟩, h => by subst e; exact AllR.get (as := r) q h
theorem fold_le : ∀ (xs : List Dd) (z : List (List Int) × List Int), (penFold xs z).1.length ≤ z.1.length + xs.length
  | [], z => Nat.le_add_right _ _
  | .cmd c :: r, (h, p) => Nat.le_trans (fold_le r (h, c.mv p)) (by simp only [List.length_cons]; omega)
  | .hold :: r, (h, p) => Nat.le_trans (fold_le r (p :: h, p)) (by simp only [List.length_cons]; omega)
  | .back :: r, (q :: h, p) => Nat.le_trans (fold_le r (h, q.take 4 ++ p.drop 4)) (by simp only [List.length_cons]; omega)
  | .back :: r, ([], p) => Nat.le_trans (fold_le r ([], p)) (by simp only [List.length_cons]; omega)
theorem pop_pen {R : List Int → V → Prop} {x : List Int} {r : List (List Int)} {ls : List V} (h : AllR R (x :: r).reverse ls) : ∃ us v, ls = us ++ [v] ∧ AllR R r.reverse us ∧ R x v := by
  rw [List.reverse_cons] at h
  exact AllR.split h
theorem slice4 : ¬ (HT.sIx 6 0 none = 0 ∧ HT.sIx 6 6 (some 4) = 6) := by decide
theorem slice46 : ¬ (HT.sIx 6 0 (some 4) = 0 ∧ HT.sIx 6 6 none = 6) := by decide
/-- where the generator stands behind i deeds -/
def PensI (K : PySem.W.Frag) (H : Hp) (a l : Addr) (ds : List Dd) (ps : List Int) (i : Nat) (ys : List V) (σ : L2.St) (H' : Hp) : Prop := ∃ (c : Addr) (z : List (List Int) × List Int) (hvs : List V) (y : Option V), σ = [some (.ref a), some (.ref c), some (.ref l), y] ∧ Same H H' ∧ H' l = some (.lst hvs) ∧
  penFold (ds.take i) ([], ps) = z ∧ SqT K H' c (z.2.map V.int) ∧ AllR (penR K H') z.1.reverse hvs ∧ AllR (penR K H') (pensB (ds.take i) ps) ys
abbrev Sp_pens (K : PySem.W.Frag) (aH aB : Addr) : Sp3 := fun vs H cont => ∃ (a b : Addr) (vds : List V) (ds : List Dd) (ps : List Int), vs = [.ref a, .ref b] ∧ H a = some (.lst vds) ∧ AllR (DdV aH aB H) ds vds ∧ ds.length ≤ 100000 ∧ (∀ d ∈ ds, d.ok) ∧ (∃ k, depD ds 0 = some k) ∧ SqT K H b (ps.map V.int) ∧ ps.length = 6 ∧
  ∀ (H' : Hp) (ys : List V), Same H H' → AllR (penR K H') (pensB ds ps) ys → cont ys H'
theorem ok_pens_behind (T : Top w K mg) : GFn3 P w K mg base 5 T.a_pens_behind T.d_pens_behind ["deeds", "pen"] (Sp_pens K T.a_HOLD T.a_BACK) := by
  refine fun_gen3 T.F_pens_behind sc_pens_behind (fun vs H Q h => ?_) (fun cdv A outer sh H vs Q pn hr h => ?_)
  · obtain ⟨a, b, vds, ds, ps, rfl, _⟩ := h
    rfl
  · obtain ⟨a, b, vds, ds, ps, rfl, ha, hds, hlen, hok, ⟨kd, hdep⟩, hb, hl, q⟩ := h
    refine ⟨_, (g3_cons (g3_ps fun _ => (ps_set (i := 2) sc_pens_behind.nd rfl (Or.inl rfl) (pe_lst pa_nil))) 
      (g3_cons (g3_for (fun _ => (k_piL K (pv 0))) (fun _ => (pg_name (i := 3) sc_pens_behind.nd rfl (Or.inl rfl))) (g3_cons (g3_ps fun _ => (ps_if (pt_cmpR (op_eqD (hu64 hr)) (pv 3) (C8.pe_gc rfl T.c_HOLD) (nomark _)) (pss_one (ps_expr (pe_bm PySem.F.plainAttrs_list PySem.F.slot_list_append PySem.F.type_list_append mt_append (pv 2) (pa_cons (pv 1) pa_nil)))) (pss_one (ps_if (pt_cmpR (op_eqD (hu64 hr)) (pv 3) (C8.pe_gc rfl T.c_BACK) (nomark _)) (pss_one (ps_set (i := 1) sc_pens_behind.nd rfl (Or.inl rfl) (pe_tup (k_star K (pe_slice (k_slT K) (pe_bm0 PySem.F.plainAttrs_list PySem.F.slot_list_pop PySem.F.type_list_pop mt_pop (pv 2)) po_none (po_some pe_int)) (k_star K (pe_slice (k_slT K) (pv 1) (po_some pe_int) po_none) pa_nil))))) (pss_one (ps_set (i := 1) sc_pens_behind.nd rfl (Or.inl rfl) (pe_call (ok_moved T) hr (by rfl) T.g_moved T.F_moved.kp (b_moved T) .nil pass0 (pa_cons (pv 1) (pa_cons (pv 3) pa_nil))))))))) 
        (g3_cons (g3_yield fun _ => (pv 1)) 
        g3_nil (by intros; rfl)) (by intros; rfl)) (by intros; rfl) (by intros; rfl)) 
      g3_nil (by intros; rfl)) (by intros; rfl)), ?_⟩
    have lv := hds.len
    refine ⟨small100 (n := 0) (by decide), fun l nl => ?_⟩
    refine ⟨_, rfl, a, rfl, ⟨vds, SqL.of (same_upd nl _ _ ha)⟩, ?_⟩
    refine g3_walkL (zs := vds) (PensI K H a l ds ps) ⟨b, ([], ps), [], none, rfl, same_upd nl, upd_same, rfl, sqT_same hb (same_upd nl), rfl, rfl⟩ (fun i ys σ H' _ h => ?_) (fun i x ys σ H' hx h => ?_) (fun ys σ H' h => ?_)
    · obtain ⟨_, _, _, _, _, sm, _⟩ := h
      exact SqL.of (sm _ _ ha)
    · obtain ⟨c, ⟨hs, cur⟩, hvs, y, rfl, sm, hL, hf, hc, hh, hy⟩ := h
      have fin : ∀ (D : GEnds) (c' : Addr) (z' : List (List Int) × List Int) (hvs' : List V) (H2 : Hp), D.nx = PensI K H a l ds ps (i + 1) → Same H H2 → H2 l = some (.lst hvs') → penFold (ds.take (i + 1)) ([], ps) = z' → SqT K H2 c' (z'.2.map V.int) → AllR (penR K H2) z'.1.reverse hvs' → AllR (penR K H2) (pensB (ds.take i) ps) ys →
          tGThen (tGYield (tVar 1)) tG0 D ys [some (.ref a), some (.ref c'), some (.ref l), some x] H2 := by
        intro D c' z' hvs' H2 eD s2 h2 ef hc' hh' hy'
        have ly := hy'.len
        have lb : (pensB (ds.take i) ps).length ≤ 100000 := by
          unfold pensB
          rw [List.length_map, List.length_range, List.length_take]
          omega
        have hi := (List.getElem?_eq_some_iff.mp hx).1
        refine ⟨big (by omega), _, rfl, ?_⟩
        show D.nx (ys ++ [.ref c']) _ H2
        rw [eD]
        refine ⟨c', z', hvs', some x, rfl, s2, h2, ef, hc', hh', ?_⟩
        rw [pensB_snoc ds i ps (by omega), ef]
        exact AllR.append hy' (AllR.one ⟨c', rfl, hc'⟩)
      obtain ⟨d, hd, tx⟩ := AllR.get hds hx
      have od := hok d (List.mem_of_getElem? hd)
      obtain ⟨p1, p2, p3, p4⟩ := dd_dp (K := K) T.h_HOLD T.h_BACK (DdV.same sm _ _ tx) od
      have es := penFold_snoc hd ([], ps)
      rw [hf] at es
      obtain ⟨k1, hk1⟩ := depD_take hdep (i + 1)
      refine ⟨_, rfl, d.d, holdD, p1, .tup (T.h_HOLD _) (.cons (.str _) .nil), p2, hold_sh, _, rfl, ?_⟩
      rw [p3]
      cases d with
      | hold =>
        refine iteT ?_
        have lh := hh.len
        rw [List.length_reverse] at lh
        have le := fold_le (ds.take i) ([], ps)
        rw [hf, List.length_take] at le
        have le : hs.length ≤ 0 + min i ds.length := le
        refine ⟨_, rfl, .inl ⟨rfl, _, SqL.of hL⟩, _, rfl, l, hvs, _, rfl, rfl, hL, big (by rw [lh]; show hs.length ≤ 200000; omega), ?_⟩
        have pu := fun q v => penR.put (K := K) (zs := hvs ++ [.ref c]) hL q v
        refine fin _ c (cur :: hs, cur) (hvs ++ [.ref c]) _ rfl (same_new sm nl) upd_same es (sqT_put hc hL) ?_ (AllR.imp pu hy)
        show AllR _ (cur :: hs).reverse _
        rw [List.reverse_cons]
        exact AllR.append (AllR.imp pu hh) (AllR.one ⟨c, rfl, sqT_put hc hL⟩)
      | back =>
        refine iteF ?_
        refine ⟨_, rfl, Dd.back.d, backD, p1, .tup (T.h_BACK _) (.cons (.str _) .nil), p2, back_sh, _, rfl, ?_⟩
        rw [p4]
        refine iteT ?_
        rw [List.take_add_one, hd] at hk1
        rw [show (some Dd.back).toList = [Dd.back] from rfl, depD_append] at hk1
        obtain ⟨m, hm⟩ := depD_take hdep i
        rw [hm] at hk1
        have hl2 := dep_len (xs := ds.take i) (z := ([], ps)) hm
        rw [hf] at hl2
        have six := six_fold (xs := ds.take i) (z := ([], ps)) (fun _ h => by cases h) hl
        rw [hf] at six
        cases m with
        | zero => cases hk1
        | succ m =>
          cases hs with
          | nil => cases hl2
          | cons q0 hs =>
            obtain ⟨us, v, rfl, ru, c0, rfl, h0⟩ := pop_pen hh
            have l0 : q0.length = 6 := six.1 q0 List.mem_cons_self
            have lc : cur.length = 6 := six.2
            obtain ⟨x0, x1, x2, x3, x4, x5, rfl⟩ := list6' l0
            obtain ⟨y0, y1, y2, y3, y4, y5, rfl⟩ := list6' lc
            refine ⟨_, rfl, .inl ⟨rfl, _, SqL.of hL⟩, l, _, _, rfl, rfl, hL, (pop_last us _).1, ?_⟩
            rw [(pop_last us _).2]
            have pu := fun q v => penR.put (K := K) (zs := us) hL q v
            have sm1 := same_new (o := .lst us) sm nl
            have hc1 := sqT_put (zs := us) hc hL
            have h01 := sqT_put (zs := us) h0 hL
            have hL1 : (upd H' l (.lst us)) l = some (.lst us) := upd_same
            have ru1 := AllR.imp pu ru
            have hy1 := AllR.imp pu hy
            generalize upd H' l (.lst us) = H1 at *
            refine ⟨4, rfl, c0, _, rfl, h01, slice4, fun p np => ?_⟩
            rw [show cutV ([x0, x1, x2, x3, x4, x5].map V.int) none (some 4) = [V.int x0, .int x1, .int x2, .int x3] from rfl]
            have s2 := same_upd (o := .tup [V.int x0, .int x1, .int x2, .int x3]) np
            have hp2 : (upd H1 p (.tup [V.int x0, .int x1, .int x2, .int x3])) p = some (.tup [V.int x0, .int x1, .int x2, .int x3]) := upd_same
            generalize upd H1 p _ = H2 at *
            refine ⟨p, _, rfl, .inl (SqT.of hp2), _, rfl, 4, rfl, c, _, rfl, sqT_same hc1 s2, slice46, fun p2 np2 => ?_⟩
            rw [show cutV ([y0, y1, y2, y3, y4, y5].map V.int) (some 4) none = [V.int y4, .int y5] from rfl]
            have s3 := same_upd (o := .tup [V.int y4, .int y5]) np2
            have hp3 : (upd H2 p2 (.tup [V.int y4, .int y5])) p2 = some (.tup [V.int y4, .int y5]) := upd_same
            generalize upd H2 p2 _ = H3 at *
            refine ⟨p2, _, rfl, .inl (SqT.of hp3), small100 (n := 6) (by decide), fun t nt => ?_⟩
            have s4 := same_upd (o := .tup ([V.int x0, .int x1, .int x2, .int x3] ++ ([V.int y4, .int y5] ++ []))) nt
            have ht : (upd H3 t (.tup ([V.int x0, .int x1, .int x2, .int x3] ++ ([V.int y4, .int y5] ++ [])))) t = some (.tup ([x0, x1, x2, x3, y4, y5].map V.int)) := upd_same
            generalize upd H3 t _ = H4 at *
            have s14 := (s2.trans s3).trans s4
            exact fin _ t (hs, [x0, x1, x2, x3, y4, y5]) us H4 rfl (sm1.trans s14) (s14 _ _ hL1) es (SqT.of ht) (AllR.imp (penR.same s14) ru1) (AllR.imp (penR.same s14) hy1)
      | cmd cm =>
        refine iteF ?_
        refine ⟨_, rfl, _, backD, p1, .tup (T.h_BACK _) (.cons (.str _) .nil), p2, back_sh, _, rfl, ?_⟩
        rw [p4]
        refine iteF ?_
        have six := six_fold (xs := ds.take i) (z := ([], ps)) (fun _ h => by cases h) hl
        rw [hf] at six
        obtain ⟨b2, rfl, hb2⟩ := tr_cm (DdV.same sm _ _ tx)
        refine ⟨_, rfl, _, rfl, c, b2, cur, cm, rfl, hc, six.2, hb2, od, fun t H2 s2 nt ht => ?_⟩
        exact fin _ t (hs, cm.mv cur) hvs H2 rfl (sm.trans s2) (s2 _ _ hL) es (SqT.of ht) (AllR.imp (penR.same s2) hh) (AllR.imp (penR.same s2) hy)
    · obtain ⟨c, z, hvs, y, rfl, sm, hL, hf, hc, hh, hy⟩ := h
      rw [lv, List.take_length] at hy
      exact q H' ys sm hy

--SPLIT
/-! ### the pen behind all deeds -/
def sp_end_of (K : PySem.W.Frag) (aH aB : Addr) : Sp := fun vs H Q _ => ∃ (a b : Addr) (vds : List V) (ds : List Dd) (ps : List Int), vs = [.ref a, .ref b] ∧ H a = some (.lst vds) ∧ AllR (DdV aH aB H) ds vds ∧ ds.length ≤ 100000 ∧ (∀ d ∈ ds, d.ok) ∧ (∃ k, depD ds 0 = some k) ∧ SqT K H b (ps.map V.int) ∧ ps.length = 6 ∧
  ∀ (H' : Hp) (c : Addr), Same H H' → SqT K H' c ((penEnd ds ps).map V.int) → Q (.ref c) H'
theorem ok_end_of (T : Top w K mg) : FnOk P w K mg base CX0 8 T.a_end_of T.d_end_of ["deeds", "pen"] (sp_end_of K T.a_HOLD T.a_BACK) := by
  refine T.F_end_of.ok sc_end_of (fun vs H Q E h => ?_) (fun cdv A outer sh H vs Q E hr h => ?_)
  · obtain ⟨a, b, vds, ds, ps, rfl, _⟩ := h
    rfl
  · obtain ⟨a, b, vds, ds, ps, rfl, ha, hds, hlen, hok, hdep, hb, hl, q⟩ := h
    refine ⟨_, (pss_cons (ps_set (i := 2) sc_end_of.nd rfl (Or.inl rfl) (pv 1))
      (pss_cons (ps_for3 (i := 3) (j := 2) (pgen3_call (ok_pens_behind T) (hr.mono (by decide)) (by rfl) T.g_pens_behind T.F_pens_behind.kp (b_pens_behind T) (pa_cons (pv 0) (pa_cons (pv 1) pa_nil))) (hr.mono (by decide)) sc_end_of.nd rfl rfl rfl rfl (fun _ => rfl) rfl rfl rfl PassesOwn.never)
      (pss_one (ps_ret (pv 2))))), ?_⟩
    refine ⟨_, rfl, _, rfl, _, rfl, a, b, vds, ds, ps, rfl, ha, hds, hlen, hok, hdep, hb, hl, fun H' ys sm hy => ?_⟩
    by_cases e : ds = []
    · subst e
      have hy : ys = [] := hy
      subst hy
      exact ⟨_, rfl, q H' b sm (sqT_same hb sm)⟩
    · have el := pensB_last ds ps
      rw [if_neg e] at el
      obtain ⟨ini, ei⟩ := List.getLast?_eq_some_iff.mp el
      rw [ei] at hy
      obtain ⟨us, v, rfl, _, c, rfl, hc⟩ := AllR.split hy
      have last : ∀ σ : L2.St, lastS 3 2 σ (us ++ [.ref c]) = lastS 3 2 σ [.ref c] := fun σ => by
        unfold lastS
        rw [List.getLast?_concat]
        rfl
      dsimp only
      rw [last]
      exact ⟨_, rfl, q H' c sm hc⟩
/-! ### the number of commands -/
def sp_length_of (aH aB : Addr) : Sp := fun vs H Q _ => ∃ (a : Addr) (vds : List V) (ds : List Dd), vs = [.ref a] ∧ H a = some (.lst vds) ∧ AllR (DdV aH aB H) ds vds ∧ ds.length ≤ 100000 ∧ (∀ d ∈ ds, d.ok) ∧ ∀ H', Same H H' → Q (.int (ds.filter Dd.isC).length) H'
theorem ok_length_of (T : Top w K mg) : FnOk P w K mg base CX0 4 T.a_length_of T.d_length_of ["deeds"] (sp_length_of T.a_HOLD T.a_BACK) := by
  refine T.F_length_of.ok sc_length_of (fun vs H Q E h => ?_) (fun cdv A outer sh H vs Q E hr h => ?_)
  · obtain ⟨a, vds, ds, rfl, _⟩ := h
    rfl
  · obtain ⟨a, vds, ds, rfl, ha, hds, hlen, hok, q⟩ := h
    refine ⟨_, (pss_one (ps_ret (pe_callB (k_len K) (by rfl) T.z_len bt_len (pa_cons (pe_lc (own := [("deed", 1)]) (g := (gName 1)) rfl sc_length_of.nd (k_piL K (pv 0)) (blkOk_by (N := N_length_of) (sc := defScope s_length_of) (by decide +kernel)) (fun _ _ _ _ _ => (pg_name (i := 1) sc_length_of.nd rfl (Or.inl rfl))) (fun _ _ _ _ _ => (pts_one (pt_val (pe_call (okg_is_command T) hr (by rfl) T.g_is_command T.F_is_command.kp (b_is_command T) .nil pass0 (pa_cons (pv 1) pa_nil))))) (fun _ _ _ _ _ => (pv 1))) pa_nil)))), ?_⟩
    have lv := hds.len
    refine ⟨_, rfl, a, rfl, ⟨_, SqL.of ha⟩, fun D nD => ?_⟩
    refine lc_list (xs := vds) (fun i H' => Same H H' ∧ ∃ zs : List V, H' D = some (.lst zs) ∧ zs.length = ((ds.take i).filter Dd.isC).length) ⟨same_upd nD, [], upd_same, rfl⟩ (fun i H' _ h => SqL.of (h.1 _ _ ha)) (fun i x H' hx h => ?_) (fun H' h => ?_)
    · obtain ⟨sm, zs, hD, lz⟩ := h
      obtain ⟨d, hd, tx⟩ := AllR.get hds hx
      have hi := (List.getElem?_eq_some_iff.mp hx).1
      have et : ((ds.take (i + 1)).filter Dd.isC).length = ((ds.take i).filter Dd.isC).length + if d.isC then 1 else 0 := by
        rw [List.take_add_one, hd, List.filter_append, List.length_append]
        congr 1
        cases e : d.isC <;> simp [e]
      refine ⟨rfl, _, rfl, d, x, rfl, DdV.same sm _ _ tx, hok d (List.mem_of_getElem? hd), fun H2 s2 => ⟨_, rfl, ?_⟩⟩
      have hD2 := s2 _ _ hD
      have sm2 := sm.trans s2
      cases e : d.isC with
      | false =>
        rw [e] at et
        exact ⟨sm2, zs, hD2, lz.trans et.symm⟩
      | true =>
        rw [e] at et
        refine ⟨_, rfl, zs, hD2, big ?_, same_new sm2 nD, zs ++ [x], upd_same, ?_⟩
        · have : ((ds.take i).filter Dd.isC).length ≤ (ds.take i).length := List.length_filter_le _ _
          rw [List.length_take] at this
          omega
        · rw [List.length_append, lz, et]
          rfl
    · obtain ⟨sm, zs, hD, lz⟩ := h
      rw [lv, List.take_length] at lz
      refine ⟨D, zs, rfl, .inl (SqL.of hD), ?_⟩
      rw [lz]
      exact q _ sm

--SPLIT
/-! ### ran -/
/-- what a run may end with, and what is asked of its deeds -/
structure GoodE (s : ESt) : Prop where
  len : s.deeds.length ≤ 100000
  ok : ∀ d ∈ s.deeds, d.ok
  dep : ∃ k, depD s.deeds 0 = some k
def cmdsN (s : ESt) : Nat := (s.deeds.filter Dd.isC).length
def RanR (K : PySem.W.Frag) (CE NP : Addr) (dp : PyData) (H : Hp) (Q : VK) (E : XK) : Out → Prop
  | .go s => GoodE s ∧ (penOk dp = false → ∀ H', Same H H' → E (.ref NP) none H') ∧ ∀ ps, dp = penD ps → ps.length = 6 → ∀ (t c : Addr) (H' : Hp), Same H H' → H t = none → H' t = some (.tup [.int s.way, .ref c, natV (cmdsN s)]) → SqT K H' c ((penEnd s.deeds ps).map V.int) → Q (.ref t) H'
  | .no i => ErrR CE (fun _ => False) H E i
  | .bad => False
def sp_ran (K : PySem.W.Frag) (CB CE NPr NP : Addr) : Sp := fun vs H Q E => ∃ (S S1 S2 : Addr → Prop) (a : Addr) (bs : List (List Stm)) (dp db de : PyData) (vp vb ve : V) (n : Nat), vs = [.ref a, vp, vb, ve] ∧ BookV S CB H a bs ∧ OkBook bs ∧ Tr S1 H dp vp ∧ Tr S2 H db vb ∧ PV K H de ve ∧ n ≤ 20000 ∧
  (inD dp (0, (bs.length : Int) - 1) = false → ∀ H', Same H H' → E (.ref NPr) none H') ∧
  (∀ p : Nat, p < bs.length → dp = .int p → (∀ i, bitsFault db = some i → ErrR CE (fun _ => False) H E i) ∧ ∀ bits, db = .list (bits.map bitD) → RanR K CE NP de H Q E (runO bs bits n p))
theorem ok_ran (T : Top w K mg) : FnOk P w K mg base (L2.CX P w) 13 T.a_ran T.d_ran ["book", "procedure", "bits", "pen"] (sp_ran K T.C_Book T.C_NoRun T.a_NoProcedure T.a_NoPen) := by
  refine T.F_ran.okX sc_ran (fun vs H Q E h => ?_) (fun cdv A outer sh H vs Q E hr h => ?_)
  · obtain ⟨S, S1, S2, a, bs, dp, db, de, vp, vb, ve, n, rfl, _⟩ := h
    rfl
  · obtain ⟨S, S1, S2, a, bs, dp, db, de, vp, vb, ve, n, rfl, hb, ho, hp, hv, he, hn, qn, q⟩ := h
    refine ⟨_, (pss_cons (ps_set (i := 4) sc_ran.nd rfl (Or.inl rfl) (pe_callS (ok_executed T) hr (by rfl) T.g_executed T.F_executed.kp (b_executed T) (fun σ => passAt (takes_of rfl rfl rfl rfl) σ) (pa_cons (pv 0) (pa_cons (pv 1) (pa_cons (pv 2) pa_nil)))))
      (pss_cons (ps_if (pt_not (pt_val (pe_call (ok_is_pen T) (hr.mono (by decide)) (by rfl) T.g_is_pen T.F_is_pen.kp (b_is_pen T) .nil pass0 (pa_cons (pv 3) pa_nil)))) (pss_one (ps_own0 rfl (takes_of rfl rfl rfl rfl) T.X_NP (by rfl))) pss_nil)
      (pss_one (ps_ret (pe_tup (pa_cons (pe_fld (pv 4) rfl) (pa_cons (pe_call (ok_end_of T) (hr.mono (by decide)) (by rfl) T.g_end_of T.F_end_of.kp (b_end_of T) .nil pass0 (pa_cons (pe_fld (pv 4) rfl) (pa_cons (pv 3) pa_nil))) (pa_cons (pe_call (ok_length_of T) (hr.mono (by decide)) (by rfl) T.g_length_of T.F_length_of.kp (b_length_of T) .nil pass0 (pa_cons (pe_fld (pv 4) rfl) pa_nil)) pa_nil)))))))), ?_⟩
    refine ⟨_, rfl, _, rfl, _, rfl, S, S1, S2, a, bs, dp, db, vp, vb, n, rfl, hb, ho, hp, hv, hn, fun h H' s => qn h H' s, fun p hpl e => ⟨fun i hi => (q p hpl e).1 i hi, fun bits eb => ?_⟩⟩
    have q := (q p hpl e).2 bits eb
    cases eo : runO bs bits n p with
    | bad => rw [eo] at q; exact q.elim
    | no i => rw [eo] at q; exact q
    | go s =>
      rw [eo] at q
      intro A H1 s1 _ _ X
      obtain ⟨gd, qp, q⟩ := q
      have he2 := he.same (s1.trans (Same.refl _))
      refine ⟨_, rfl, de, ve, rfl, he2, fun H2 s2 => ⟨_, rfl, ?_⟩⟩
      have s02 := s1.trans s2
      cases hpo : penOk de with
      | false => exact iteT (qp hpo H2 s02)
      | true =>
        refine iteF ?_
        obtain ⟨ps, rfl, hl⟩ := ints_pen hpo
        obtain ⟨c0, rfl, hc⟩ := pv_ints (he.same s02)
        have X2 := X.same s2
        obtain ⟨dx2, hi2⟩ := X2.ins
        obtain ⟨dsv, hd2, rd2⟩ := X2.dds
        refine ⟨_, rfl, A.e, T.C_Execution, dx2, _, _, rfl, hi2, T.cl_Execution, T.na_Execution_way, exf_way, ?_⟩
        refine ⟨_, rfl, A.e, T.C_Execution, dx2, _, _, rfl, hi2, T.cl_Execution, T.na_Execution_deeds, exf_deeds, _, rfl, A.aD, c0, dsv, s.deeds, ps, rfl, hd2, rd2, gd.len, gd.ok, gd.dep, hc, hl, fun H3 c s3 hc3 => ?_⟩
        have X3 := X2.same s3
        obtain ⟨dx3, hi3⟩ := X3.ins
        obtain ⟨dsv3, hd3, rd3⟩ := X3.dds
        refine ⟨_, rfl, A.e, T.C_Execution, dx3, _, _, rfl, hi3, T.cl_Execution, T.na_Execution_deeds, exf_deeds, A.aD, dsv3, s.deeds, rfl, hd3, rd3, gd.len, gd.ok, fun H4 s4 => ⟨small100 (n := 3) (by decide), fun t nt => ?_⟩⟩
        have s5 := same_upd (o := .tup [V.int s.way, .ref c, natV (cmdsN s)]) nt
        exact q ps rfl hl t c _ (((s02.trans s3).trans s4).trans s5) (((s02.trans s3).trans s4).free nt) upd_same (sqT_same hc3 (s4.trans s5))

--SPLIT
def sp__law_pool (K : PySem.W.Frag) : Sp := fun vs H Q _ => ∃ (a : Addr) (ns : List Int), vs = [.ref a] ∧ SqL K H a (ns.map V.int) ∧ ns.length ≤ 63 ∧
  ∀ (H' : Hp) (p : Addr) (L : Nat), Same H H' → H p = none → Pool H' p L → 2 ≤ L → L ≤ 64 → Q (.ref p) H'
theorem cut63 {ns : List Int} (h : ns.length ≤ 63) : cutV (ns.map V.int) none (some 63) = ns.map V.int := by
  unfold cutV
  rw [HT.sIx_none, show HT.sIx (ns.map V.int).length (ns.map V.int).length (some 63) = min 63 (ns.map V.int).length from HT.sIx_nat _ _ 63, List.drop_zero, Nat.sub_zero]
  refine List.take_of_length_le ?_
  rw [List.length_map]
  omega
theorem ok__law_pool (T : Top w K mg) : FnOk P w K mg base CX0 1 T.a__law_pool T.d__law_pool ["_law_script"] (sp__law_pool K) := by
  refine T.F__law_pool.ok sc__law_pool (fun vs H Q E h => ?_) (fun cdv A outer s H vs Q E hr h => ?_)
  · obtain ⟨a, ns, rfl, _⟩ := h
    rfl
  · obtain ⟨a, ns, rfl, hS, hlen, q⟩ := h
    refine ⟨_, (pss_one (ps_ret (pe_op op_cat (pe_lst (pa_cons pe_int pa_nil)) (pe_orT (pe_lc (own := [("_law_cell", 1)]) (g := (gName 1)) (tt := tYes) rfl sc__law_pool.nd (k_piL K (pe_slice (k_slL K) (pv 0) po_none (po_some pe_int))) (blkOk_by (N := N__law_pool) (sc := defScope s__law_pool) (by decide +kernel)) (fun _ _ _ _ _ => (pg_name (i := 1) sc__law_pool.nd rfl (Or.inl rfl))) (fun _ _ _ _ _ => pts_nil) (fun _ _ _ _ _ => (pe_callTy call_intI (by rfl) T.z_int bt_int (pa_cons (pv 1) pa_nil)))) (pe_one (pe_lst (pa_cons pe_int pa_nil))))))), ?_⟩
    refine ⟨small100 (n := 1) (by decide), fun l0 n0 => ?_⟩
    have s1 : Same H (upd H l0 (.lst [.int 0])) := same_upd n0
    refine ⟨_, rfl, 63, rfl, a, _, rfl, s1.seq hS, fun c nc => ?_⟩
    rw [cut63 hlen]
    have s2 := s1.trans (same_upd (o := .lst (ns.map V.int)) nc)
    have hl0 : (upd (upd H l0 (.lst [.int 0])) c (.lst (ns.map V.int))) l0 = some (.lst [.int 0]) := by
      rw [upd_ne (ne_of_none upd_same nc), upd_same]
    refine ⟨c, rfl, ⟨_, SqL.of upd_same⟩, fun D nD => ?_⟩
    refine lc_list (xs := ns.map V.int) (fun i H' => Same (upd (upd H l0 (.lst [.int 0])) c (.lst (ns.map V.int))) H' ∧ H' D = some (.lst ((ns.take i).map V.int))) ⟨same_upd nD, ?_⟩ (fun i H' _ h => h.1.seq (SqL.of upd_same)) (fun i x H' hx h => ?_) (fun H' h => ?_)
    · rw [upd_same]
      rfl
    · obtain ⟨hs, hD⟩ := h
      rw [List.getElem?_map] at hx
      cases e : ns[i]? with
      | none =>
        rw [e] at hx
        cases hx
      | some n =>
        rw [e] at hx
        cases hx
        refine ⟨rfl, _, rfl, n, rfl, _, hD, ?_, same_new hs nD, ?_⟩
        · rw [List.length_map, List.length_take]
          exact small1000 (by omega)
        · rw [upd_same, List.take_add_one, e, List.map_append]
          rfl
    · obtain ⟨hs, hD⟩ := h
      rw [len_map, List.take_length] at hD
      have hl0' := hs _ _ hl0
      have hD0 : H D = none := s2.free nD
      refine ⟨!(ns.map V.int).isEmpty, .inl ⟨_, SqL.of hD, rfl⟩, ?_⟩
      have hne : D ≠ l0 := (ne_of_none hl0 nD).symm
      cases ns with
      | nil =>
        refine ⟨small100 (n := 1) (by decide), fun l2 n2 => ?_⟩
        have hl2 : (upd H' l2 (.lst [.int 0])) l0 = some (.lst [.int 0]) := by
          rw [upd_ne (ne_of_none hl0' n2)]
          exact hl0'
        refine ⟨l0, l2, _, _, rfl, rfl, hl2, upd_same, small100 (n := 2) (by decide), fun p np => ?_⟩
        have s3 := same_new (s2.trans hs) (o := .lst [.int 0]) ((s2.trans hs).free n2)
        exact q _ p 2 (same_new s3 (s3.free np)) (s3.free np) ⟨[0, 0], upd_same, rfl⟩ (by decide) (by decide)
      | cons n r =>
        refine ⟨l0, D, _, _, rfl, rfl, hl0', hD, ?_, fun p np => ?_⟩
        · show 1 + ((n :: r).map V.int).length ≤ sizeLine
          rw [len_map]
          exact small100 (by omega)
        · have s3 := s2.trans hs
          refine q _ p (1 + (n :: r).length) (same_new s3 (s3.free np)) (s3.free np) ⟨0 :: n :: r, upd_same, ?_⟩ ?_ ?_
          · rw [List.length_cons]
            omega
          · rw [List.length_cons]
            omega
          · omega
def sp__law_draw (K : PySem.W.Frag) : Sp := fun vs H Q _ => ∃ (p : Addr) (L : Nat) (m : Int), vs = [.ref p, .int m] ∧ Pool H p L ∧ 2 ≤ L ∧ L ≤ 64 ∧ 0 < m ∧ m ≤ 1000 ∧
  ∀ (r : Int) (H' : Hp), 0 ≤ r → r < m → Kp p H H' → Pool H' p L → Q (.int r) H'
theorem ok__law_draw (T : Top w K mg) : FnOk P w K mg base CX0 1 T.a__law_draw T.d__law_draw ["_law_pool_here", "_law_many"] (sp__law_draw K) := by
  refine T.F__law_draw.ok sc__law_draw (fun vs H Q E h => ?_) (fun cdv A outer s H vs Q E hr h => ?_)
  · obtain ⟨p, L, m, rfl, _⟩ := h
    rfl
  · obtain ⟨p, L, m, rfl, ⟨ns, hp, hL⟩, h2, h64, hm0, hm1, q⟩ := h
    refine ⟨_, (pss_cons (ps_augS (pv 0) pe_int (k_getL K) pe_int ip_add set_list)
      (pss_cons (ps_set (i := 2) sc__law_draw.nd rfl (Or.inl rfl) (pe_op op_add pe_int (pe_op op_mod (pe_callTy call_intI (by rfl) T.z_int bt_int (pa_cons (pe_ix (k_ixL K) (pv 0) pe_int (fun _ _ => rfl)) pa_nil)) (pe_op op_sub (pe_callB (k_len K) (by rfl) T.z_len bt_len (pa_cons (pv 0) pa_nil)) pe_int))))
      (pss_cons (ps_set (i := 3) sc__law_draw.nd rfl (Or.inl rfl) (pe_callTy call_intI (by rfl) T.z_int bt_int (pa_cons (pe_ix (k_ixL K) (pv 0) (pv 2) (fun _ _ => rfl)) pa_nil)))
      (pss_cons (ps_if (pt_cmpR op_ge (pv 3) (pe_op op_pow pe_int pe_int) (nomark _)) (pss_cons (ps_asg (pe_op op_fdiv (pv 3) (pv 1)) (pg_sub (pv 0) (pv 2) set_list))
        (pss_one (ps_ret (pe_op op_mod (pv 3) (pv 1))))) pss_nil)
      (pss_cons (ps_set (i := 4) sc__law_draw.nd rfl (Or.inl rfl) (pe_op op_mod (pe_op op_mul (pe_callTy call_intI (by rfl) T.z_int bt_int (pa_cons (pe_op op_add (pe_op op_add (pv 3) (pe_op op_mul pe_int (pe_ix (k_ixL K) (pv 0) pe_int (fun _ _ => rfl)))) pe_int) pa_nil)) pe_int) pe_int))
      (pss_cons (ps_set (i := 4) sc__law_draw.nd rfl (Or.inl rfl) (pe_op op_mod (pe_op op_mul (pv 4) (pe_op op_add (pe_op op_fdiv (pv 4) pe_int) pe_int)) pe_int))
      (pss_cons (ps_set (i := 4) sc__law_draw.nd rfl (Or.inl rfl) (pe_op op_mod (pe_op op_mul (pv 4) (pe_op op_add (pe_op op_fdiv (pv 4) pe_int) pe_int)) pe_int))
      (pss_one (ps_ret (pe_op op_mod (pe_op op_fdiv (pv 4) pe_int) (pv 1))))))))))), ?_⟩
    obtain ⟨c0, g0, _⟩ := at_map (ns := ns) (i := 0) (by decide) (by omega)
    refine ⟨_, rfl, p, ns.map V.int, 0, .int c0, rfl, rfl, by decide, SqL.of hp, get_map g0, c0, 1, rfl, rfl, p, _, 0, 0, rfl, rfl, hp, ixN_in (by decide) (by rw [len_map]; omega), ?_⟩
    rw [set_map]
    generalize e1 : ns.set 0 (c0 + 1) = ms
    have hms : ms.length = L := by
      rw [← e1, List.length_set]
      exact hL
    clear e1
    have k1 : Kp p H (upd H p (.lst (ms.map V.int))) := Kp.upd
    have hp1 : (upd H p (.lst (ms.map V.int))) p = some (.lst (ms.map V.int)) := upd_same
    generalize upd H p (.lst (ms.map V.int)) = H1 at *
    obtain ⟨c1, _, g1⟩ := at_map (ns := ms) (i := 0) (by decide) (by omega)
    have hL1 : (0 : Int) < ((ms.map V.int).length : Int) - 1 := by
      rw [len_map]
      omega
    refine ⟨_, rfl, p, _, 0, _, rfl, rfl, SqL.of hp1, g1, c1, rfl, _, rfl, p, _, rfl, .inl (SqL.of hp1), _, _, rfl, rfl, _, _, rfl, rfl, hL1, _, _, rfl, rfl, ?_⟩
    have b0 : 0 ≤ 1 + c1 % (((ms.map V.int).length : Int) - 1) := by
      have := Int.emod_nonneg c1 (Int.ne_of_gt hL1)
      omega
    have b1 : 1 + c1 % (((ms.map V.int).length : Int) - 1) < ms.length := by
      have := Int.emod_lt_of_pos c1 hL1
      rw [len_map] at this ⊢
      omega
    dsimp only
    generalize 1 + c1 % (((ms.map V.int).length : Int) - 1) = j at *
    obtain ⟨c2, _, g2⟩ := at_map (ns := ms) (i := j) b0 b1
    refine ⟨_, rfl, _, rfl, p, _, j, _, rfl, rfl, SqL.of hp1, g2, c2, rfl, ?_⟩
    refine ⟨_, rfl, 10, 18, rfl, rfl, ⟨by decide, by decide, by decide⟩, _, _, rfl, rfl, _, rfl, ite2 (fun _ => ?_) (fun _ => ?_)⟩
    · refine ⟨_, rfl, _, rfl, _, _, rfl, rfl, ⟨hm0, by omega⟩, _, rfl, _, rfl, p, _, j, j.toNat, rfl, rfl, hp1, ixN_in b0 (by rw [len_map]; exact b1), ?_⟩
      rw [set_map]
      refine ⟨_, rfl, _, rfl, _, _, rfl, rfl, hm0, ?_⟩
      exact q _ _ (Int.emod_nonneg _ (Int.ne_of_gt hm0)) (Int.emod_lt_of_pos _ hm0) (k1.trans Kp.upd) ⟨_, upd_same, by rw [List.length_set]; exact hms⟩
    · obtain ⟨c3, _, g3⟩ := at_map (ns := ms) (i := 0) (by decide) (by omega)
      refine ⟨_, rfl, _, rfl, p, _, 0, _, rfl, rfl, SqL.of hp1, g3, _, c3, rfl, rfl, .inl ⟨by decide, by decide⟩, _, _, rfl, rfl, _, _, rfl, rfl, _, rfl, _, _, rfl, rfl, .inr ⟨by decide, by decide⟩, _, _, rfl, rfl, (show (0 : Int) < 2147483647 by decide), ?_⟩
      dsimp only
      generalize ez : (c2 + 7919 * c3 + 1) * 48271 % 2147483647 = z
      have z0 : 0 ≤ z := by rw [← ez]; exact Int.emod_nonneg _ (by decide)
      have z1 : z < 2147483647 := by rw [← ez]; exact Int.emod_lt_of_pos _ (by decide)
      refine ⟨_, rfl, _, rfl, _, _, rfl, rfl, ⟨by decide, by decide⟩, _, _, rfl, rfl, _, _, rfl, rfl, .inl ⟨by omega, by omega⟩, _, _, rfl, rfl, (show (0 : Int) < 2147483647 by decide), ?_⟩
      dsimp only
      generalize ey : z * (z / 1009 + 69621) % 2147483647 = y
      have y0 : 0 ≤ y := by rw [← ey]; exact Int.emod_nonneg _ (by decide)
      have y1 : y < 2147483647 := by rw [← ey]; exact Int.emod_lt_of_pos _ (by decide)
      refine ⟨_, rfl, _, rfl, _, _, rfl, rfl, ⟨by decide, by decide⟩, _, _, rfl, rfl, _, _, rfl, rfl, .inl ⟨by omega, by omega⟩, _, _, rfl, rfl, (show (0 : Int) < 2147483399 by decide), ?_⟩
      refine ⟨_, rfl, _, _, rfl, rfl, ⟨by decide, by decide⟩, _, rfl, _, _, rfl, rfl, hm0, ?_⟩
      exact q _ _ (Int.emod_nonneg _ (Int.ne_of_gt hm0)) (Int.emod_lt_of_pos _ hm0) k1 ⟨_, hp1, hms⟩

def Bd (n : Int) : Prop := -(2 ^ 133) < n ∧ n < 2 ^ 133

def sp__law_number (K : PySem.W.Frag) : Sp := fun vs H Q _ => ∃ (p : Addr) (L : Nat), vs = [.ref p] ∧ Pool H p L ∧ 2 ≤ L ∧ L ≤ 64 ∧
  ∀ (r : Int) (H' : Hp), Bd r → Kp p H H' → Pool H' p L → Q (.int r) H'
theorem ok__law_number (T : Top w K mg) : FnOk P w K mg base CX0 2 T.a__law_number T.d__law_number ["_law_pool_here"] (sp__law_number K) := by
  refine T.F__law_number.ok sc__law_number (fun vs H Q E h => ?_) (fun cdv A outer s H vs Q E hr h => ?_)
  · obtain ⟨p, L, rfl, _⟩ := h
    rfl
  · obtain ⟨p, L, rfl, pl, h2, h64, q⟩ := h
    refine ⟨_, (pss_cons (ps_set (i := 1) sc__law_number.nd rfl (Or.inl rfl) (pe_call (ok__law_draw T) hr (by rfl) T.g__law_draw T.F__law_draw.kp (b__law_draw T) .nil pass0 (pa_cons (pv 0) (pa_cons pe_int pa_nil))))
      (pss_cons (ps_if (pt_cmpR op_eq (pv 1) pe_int (nomark _)) (pss_one (ps_ret (pe_op op_sub (pe_call (ok__law_draw T) hr (by rfl) T.g__law_draw T.F__law_draw.kp (b__law_draw T) .nil pass0 (pa_cons (pv 0) (pa_cons pe_int pa_nil))) pe_int))) pss_nil)
      (pss_cons (ps_augS (pv 0) pe_int (k_getL K) pe_int ip_add set_list)
      (pss_cons (ps_set (i := 2) sc__law_number.nd rfl (Or.inl rfl) (pe_op op_add pe_int (pe_op op_mod (pe_callTy call_intI (by rfl) T.z_int bt_int (pa_cons (pe_ix (k_ixL K) (pv 0) pe_int (fun _ _ => rfl)) pa_nil)) (pe_op op_sub (pe_callB (k_len K) (by rfl) T.z_len bt_len (pa_cons (pv 0) pa_nil)) pe_int))))
      (pss_cons (ps_set (i := 3) sc__law_number.nd rfl (Or.inl rfl) (pe_op op_mod (pe_callTy call_intI (by rfl) T.z_int bt_int (pa_cons (pe_op op_add (pe_op op_mul (pe_ix (k_ixL K) (pv 0) (pv 2) (fun _ _ => rfl)) pe_int) (pe_op op_mul (pe_ix (k_ixL K) (pv 0) pe_int (fun _ _ => rfl)) pe_int)) pa_nil)) (pe_op op_pow pe_int pe_int)))
      (pss_cons (ps_if (pt_cmpR op_eq (pe_call (ok__law_draw T) hr (by rfl) T.g__law_draw T.F__law_draw.kp (b__law_draw T) .nil pass0 (pa_cons (pv 0) (pa_cons pe_int pa_nil))) pe_int (nomark _)) (pss_one (ps_ret (pv 3))) pss_nil)
      (pss_one (ps_ret (pe_op op_sub pe_int (pv 3)))))))))), ?_⟩
    refine ⟨_, rfl, p, L, 3, rfl, pl, h2, h64, by decide, by decide, fun r1 H1 _ _ k1 pl1 => ?_⟩
    refine ⟨_, rfl, rfl, _, rfl, ite2 (fun _ => ?_) (fun _ => ?_)⟩
    · refine ⟨_, rfl, p, L, 9, rfl, pl1, h2, h64, by decide, by decide, fun r2 H2 a1 a2 k2 pl2 => ?_⟩
      refine ⟨_, _, rfl, rfl, ?_⟩
      exact q _ _ ⟨by omega, by omega⟩ (k1.trans k2) pl2
    · obtain ⟨ns, hp, hL⟩ := pl1
      obtain ⟨c0, g0, _⟩ := at_map (ns := ns) (i := 0) (by decide) (by omega)
      refine ⟨_, rfl, p, ns.map V.int, 0, .int c0, rfl, rfl, by decide, SqL.of hp, get_map g0, c0, 1, rfl, rfl, p, _, 0, 0, rfl, rfl, hp, ixN_in (by decide) (by rw [len_map]; omega), ?_⟩
      rw [set_map]
      generalize e1 : ns.set 0 (c0 + 1) = ms
      have hms : ms.length = L := by
        rw [← e1, List.length_set]
        exact hL
      clear e1
      have k2 : Kp p H (upd H1 p (.lst (ms.map V.int))) := k1.trans Kp.upd
      have hp1 : (upd H1 p (.lst (ms.map V.int))) p = some (.lst (ms.map V.int)) := upd_same
      generalize upd H1 p (.lst (ms.map V.int)) = H2 at *
      obtain ⟨c1, _, g1⟩ := at_map (ns := ms) (i := 0) (by decide) (by omega)
      have hL1 : (0 : Int) < ((ms.map V.int).length : Int) - 1 := by
        rw [len_map]
        omega
      refine ⟨_, rfl, p, _, 0, _, rfl, rfl, SqL.of hp1, g1, c1, rfl, _, rfl, p, _, rfl, .inl (SqL.of hp1), _, _, rfl, rfl, _, _, rfl, rfl, hL1, _, _, rfl, rfl, ?_⟩
      have b0 : 0 ≤ 1 + c1 % (((ms.map V.int).length : Int) - 1) := by
        have := Int.emod_nonneg c1 (Int.ne_of_gt hL1)
        omega
      have b1 : 1 + c1 % (((ms.map V.int).length : Int) - 1) < ms.length := by
        have := Int.emod_lt_of_pos c1 hL1
        rw [len_map] at this ⊢
        omega
      dsimp only
      generalize 1 + c1 % (((ms.map V.int).length : Int) - 1) = j at *
      obtain ⟨c2, _, g2⟩ := at_map (ns := ms) (i := j) b0 b1
      obtain ⟨c3, _, g3⟩ := at_map (ns := ms) (i := 0) (by decide) (by omega)
      refine ⟨_, rfl, _, rfl, p, _, j, _, rfl, rfl, SqL.of hp1, g2, _, _, rfl, rfl, .inr ⟨by decide, by decide⟩, _, rfl, p, _, 0, _, rfl, rfl, SqL.of hp1, g3, _, _, rfl, rfl, .inr ⟨by decide, by decide⟩, _, _, rfl, rfl, _, rfl, 10, 40, rfl, rfl, ⟨by decide, by decide, by decide⟩, _, _, rfl, rfl, (show (0 : Int) < 10 ^ 40 by decide), ?_⟩
      dsimp only
      generalize ez : (c2 * 48271 + c3 * 69621) % 10 ^ (40 : Int).toNat = z
      have z0 : 0 ≤ z := by rw [← ez]; exact Int.emod_nonneg _ (by decide)
      have z1 : z < 10 ^ 40 := by rw [← ez]; exact Int.emod_lt_of_pos _ (by decide)
      refine ⟨_, rfl, p, L, 2, rfl, ⟨_, hp1, hms⟩, h2, h64, by decide, by decide, fun r3 H3 _ _ k3 pl3 => ?_⟩
      refine ⟨rfl, _, rfl, ite2 (fun _ => ?_) (fun _ => ?_)⟩
      · exact ⟨_, rfl, q _ _ ⟨by omega, by omega⟩ (k2.trans k3) pl3⟩
      · exact ⟨_, rfl, _, _, rfl, rfl, q _ _ ⟨by omega, by omega⟩ (k2.trans k3) pl3⟩

theorem getD_get {ns : List Int} {t : Nat} (h : t < ns.length) : ns[t]? = some (ns.getD t 0) := by
  rw [List.getD_eq_getElem?_getD, List.getElem?_eq_getElem h]
  rfl
theorem at_nat {ns : List Int} {i : Int} {t : Nat} (e : i = (t : Int)) (h : t < ns.length) : atI (ns.map V.int) i = some (.int (ns.getD t 0)) := by
  rw [e]
  exact atI_nat (get_map (getD_get h))
theorem range_snoc (f : Nat → Int) (n : Nat) : ((List.range n).map f).map V.int ++ [.int (f n)] = ((List.range (n + 1)).map f).map V.int := by
  rw [List.range_succ, List.map_append, List.map_append]
  rfl
theorem list49 {ns : List Int} (h : ns.length = 49) : ns = (List.range 49).map fun t => ns.getD t 0 := by
  refine List.ext_getElem? fun t => ?_
  rw [List.getElem?_map]
  by_cases ht : t < 49
  · rw [List.getElem?_range ht, getD_get (by omega)]
    rfl
  · rw [List.getElem?_eq_none (by omega), List.getElem?_eq_none (by rw [List.length_range]; omega)]
    rfl

def S (n : Nat) (f : Nat → Int) : Int := ((List.range n).map f).sum
theorem S_zero (f : Nat → Int) : S 0 f = 0 := rfl
theorem sum_snoc (l : List Int) (z : Int) : (l ++ [z]).sum = l.sum + z := by
  rw [List.sum_append, List.sum_cons, List.sum_nil, Int.add_zero]
theorem S_succ (n : Nat) (f : Nat → Int) : S (n + 1) f = S n f + f n := by
  unfold S
  rw [List.range_succ, List.map_append, List.map_cons, List.map_nil, sum_snoc]
theorem S_congr {n : Nat} {f g : Nat → Int} (h : ∀ k, k < n → f k = g k) : S n f = S n g := by
  unfold S
  rw [List.map_congr_left fun k hk => h k (List.mem_range.mp hk)]
theorem S_left (n : Nat) (c : Int) (f : Nat → Int) : c * S n f = S n fun k => c * f k := by
  induction n with
  | zero => rw [S_zero, S_zero, Int.mul_zero]
  | succ n ih => rw [S_succ, S_succ, Int.mul_add, ih]
theorem S_right (n : Nat) (c : Int) (f : Nat → Int) : S n f * c = S n fun k => f k * c := by
  induction n with
  | zero => rw [S_zero, S_zero, Int.zero_mul]
  | succ n ih => rw [S_succ, S_succ, Int.add_mul, ih]
theorem S_add (n : Nat) (f g : Nat → Int) : (S n fun k => f k + g k) = S n f + S n g := by
  induction n with
  | zero => rfl
  | succ n ih =>
    rw [S_succ, S_succ, S_succ, ih]
    omega
theorem S_const0 (n : Nat) : (S n fun _ => 0) = 0 := by
  induction n with
  | zero => rfl
  | succ n ih => rw [S_succ, ih, Int.add_zero]
theorem S_comm (n m : Nat) (f : Nat → Nat → Int) : (S n fun i => S m fun j => f i j) = S m fun j => S n fun i => f i j := by
  induction n with
  | zero => rw [S_zero]; exact (S_const0 m).symm
  | succ n ih =>
    rw [S_succ, ih, ← S_add]
    refine S_congr fun j _ => ?_
    rw [S_succ]
theorem S_single {n i : Nat} {f : Nat → Int} (hi : i < n) (h : ∀ k, k < n → k ≠ i → f k = 0) : S n f = f i := by
  induction n with
  | zero => omega
  | succ n ih =>
    rw [S_succ]
    by_cases e : i = n
    · subst e
      rw [show S i f = 0 from (S_congr fun k hk => h k (by omega) (by omega)).trans (S_const0 i), Int.zero_add]
    · rw [ih (by omega) (fun k hk hne => h k (by omega) hne), h n (by omega) (by omega), Int.add_zero]
theorem S_bound {n b : Nat} {f : Nat → Int} (h : ∀ k, k < n → (f k).natAbs < 2 ^ b) : (S n f).natAbs ≤ n * 2 ^ b := by
  induction n with
  | zero => rw [S_zero]; simp
  | succ n ih =>
    rw [S_succ, Nat.succ_mul]
    have h1 := ih fun k hk => h k (by omega)
    have h2 := h n (by omega)
    have h3 := Int.natAbs_add_le (S n f) (f n)
    omega
/-- all numbers below 2 ^ b -/
def Bw (b : Nat) (ns : List Int) : Prop := ∀ t, (ns.getD t 0).natAbs < 2 ^ b
theorem Bw.mono {a b : Nat} {ns : List Int} (h : Bw a ns) (hab : a ≤ b) : Bw b ns := fun t => Nat.lt_of_lt_of_le (h t) (Nat.pow_le_pow_right (by decide) hab)
theorem getD_mem {ns : List Int} {P : Int → Prop} (h : ∀ n ∈ ns, P n) (h0 : P 0) (t : Nat) : P (ns.getD t 0) := by
  rw [List.getD_eq_getElem?_getD]
  cases e : ns[t]? with
  | none => exact h0
  | some n => exact h n (List.mem_of_getElem? e)
theorem Bd.bw {ns : List Int} (h : ∀ n ∈ ns, Bd n) : Bw 133 ns := fun t => by
  have := getD_mem h ⟨by decide, by decide⟩ t
  have h1 : -(2 ^ 133) < ns.getD t 0 := this.1
  have h2 : ns.getD t 0 < 2 ^ 133 := this.2
  generalize ns.getD t 0 = z at *
  omega
theorem bw_mul {a b : Nat} {x y : Int} (hx : x.natAbs < 2 ^ a) (hy : y.natAbs < 2 ^ b) (ha : 0 < a) (hb : 0 < b) (h : a + b ≤ 1000000) : CMulW x y := wide_mul hx hy ha hb h
def row (ns : List Int) (i : Nat) : List Int := (List.range 7).map fun t => ns.getD (7 * i + t) 0
def col (ns : List Int) (j : Nat) : List Int := (List.range 7).map fun t => ns.getD (7 * t + j) 0
theorem row_len (ns : List Int) (i : Nat) : (row ns i).length = 7 := by unfold row; rw [List.length_map, List.length_range]
theorem col_len (ns : List Int) (i : Nat) : (col ns i).length = 7 := by unfold col; rw [List.length_map, List.length_range]
theorem getD7 {g : Nat → Int} {t : Nat} : ((List.range 7).map g).getD t 0 = if t < 7 then g t else 0 := by
  rw [List.getD_eq_getElem?_getD, List.getElem?_map]
  by_cases ht : t < 7
  · rw [List.getElem?_range ht, if_pos ht]
    rfl
  · rw [List.getElem?_eq_none (by rw [List.length_range]; omega), if_neg ht]
    rfl
theorem row_bw {b : Nat} {ns : List Int} (h : Bw b ns) (i : Nat) : Bw b (row ns i) := fun t => by
  unfold row
  rw [getD7]
  split
  · exact h _
  · exact Nat.two_pow_pos b
theorem col_bw {b : Nat} {ns : List Int} (h : Bw b ns) (i : Nat) : Bw b (col ns i) := fun t => by
  unfold col
  rw [getD7]
  split
  · exact h _
  · exact Nat.two_pow_pos b
theorem cut_row {ns : List Int} {i : Nat} (hl : ns.length = 49) (hi : i < 7) : cutV (ns.map V.int) (some (7 * (i : Int))) (some (7 * (i : Int) + 7)) = (row ns i).map V.int := by
  have e1 : (7 * (i : Int)) = ((7 * i : Nat) : Int) := by omega
  have e2 : (7 * (i : Int) + 7) = ((7 * i + 7 : Nat) : Int) := by omega
  rw [e1, show (((7 * i : Nat) : Int) + 7) = ((7 * i + 7 : Nat) : Int) by omega]
  have h : cutV (ns.map V.int) (some ((7 * i : Nat) : Int)) (some ((7 * i + 7 : Nat) : Int)) = ((ns.map V.int).drop (7 * i)).take (7 * i + 7 - 7 * i) := by
    unfold cutV
    rw [HT.sIx_nat, HT.sIx_nat, Nat.min_eq_left (by rw [len_map]; omega), Nat.min_eq_left (by rw [len_map]; omega)]
  rw [h, ← List.map_drop, ← List.map_take]
  refine congrArg (List.map V.int) (List.ext_getElem? fun t => ?_)
  unfold row
  rw [List.getElem?_take, List.getElem?_drop, List.getElem?_map]
  by_cases ht : t < 7
  · rw [if_pos (by omega), List.getElem?_range ht, getD_get (by omega)]
    rfl
  · rw [if_neg (by omega), List.getElem?_eq_none (by rw [List.length_range]; omega)]
    rfl

/-! ### a list of lists -/
def Rows (H : Hp) (D : Addr) (ps : List Addr) (F : Nat → List Int) : Prop := H D = some (.lst (ps.map V.ref)) ∧ ∀ (j : Nat) (a : Addr), ps[j]? = some a → a ≠ D ∧ H a = some (.lst ((F j).map V.int))
theorem Rows.push {H' J : Hp} {D q : Addr} {ps : List Addr} {F : Nat → List Int} (h : Rows H' D ps F) (sm : Same H' J) (nq : H' q = none) (hq : J q = some (.lst ((F ps.length).map V.int))) : Rows (upd J D (.lst (ps.map V.ref ++ [.ref q]))) D (ps ++ [q]) F := by
  have nqD : q ≠ D := (ne_of_none h.1 nq).symm
  refine ⟨by rw [upd_same, List.map_append]; rfl, fun j a e => ?_⟩
  rw [List.getElem?_append] at e
  split at e
  · obtain ⟨n, h2⟩ := h.2 j a e
    exact ⟨n, by rw [upd_ne n]; exact sm _ _ h2⟩
  · rename_i hj
    have hj2 := (List.getElem?_eq_some_iff.mp e).1
    have ej : j = ps.length := by
      rw [List.length_cons, List.length_nil] at hj2
      omega
    subst ej
    rw [Nat.sub_self] at e
    cases e
    exact ⟨nqD, by rw [upd_ne nqD]; exact hq⟩
theorem Rows.same {H' J : Hp} {D : Addr} {ps : List Addr} {F : Nat → List Int} (h : Rows H' D ps F) (sm : Same H' J) : Rows J D ps F := ⟨sm _ _ h.1, fun j a e => ⟨(h.2 j a e).1, sm _ _ (h.2 j a e).2⟩⟩
theorem Rows.nil {H : Hp} {D : Addr} {F : Nat → List Int} : Rows (upd H D (.lst [])) D [] F := ⟨upd_same, fun j a e => by simp at e⟩
theorem getRef {ps : List Addr} {i : Nat} (h : i < ps.length) : ∃ a, ps[i]? = some a ∧ (ps.map V.ref)[i]? = some (.ref a) := ⟨ps[i], List.getElem?_eq_getElem h, by rw [List.getElem?_map, List.getElem?_eq_getElem h]; rfl⟩


--SPLIT
def sp_vector (K : PySem.W.Frag) : Sp := fun vs H Q _ => ∃ (a : Addr) (ps : List Int), vs = [.ref a] ∧ SqT K H a (ps.map V.int) ∧ ps.length = 6 ∧
  ∀ (q : Addr) (H' : Hp), Same H H' → H q = none → H' q = some (.lst ((1 :: ps).map V.int)) → Q (.ref q) H'
theorem ok_vector (T : Top w K mg) : FnOk P w K mg base CX0 3 T.a_vector T.d_vector ["pen"] (sp_vector K) := by
  refine T.F_vector.ok sc_vector (fun vs H Q E h => ?_) (fun cdv A outer s H vs Q E hr h => ?_)
  · obtain ⟨a, ps, rfl, _⟩ := h
    rfl
  · obtain ⟨a, ps, rfl, ha, hl, q⟩ := h
    refine ⟨_, (pss_cons (ps_if (pt_not (pt_val (pe_call (ok_is_pen T) hr (by rfl) T.g_is_pen T.F_is_pen.kp (b_is_pen T) .nil pass0 (pa_cons (pv 0) pa_nil)))) (pss_one ps_never) pss_nil)
      (pss_one (ps_ret (pe_lst (pa_cons pe_int (k_star K (pv 0) pa_nil)))))), ?_⟩
    refine ⟨_, rfl, penD ps, .ref a, rfl, pv_of ha hl, fun H1 s1 => ⟨true, congrArg V.bl (penOk_ints hl), ?_⟩⟩
    refine ⟨_, rfl, a, _, rfl, .inl (sqT_same ha s1), ?_, fun p np => ?_⟩
    · simp only [List.length_cons, List.length_append, List.length_map, List.length_nil]
      exact small100 (by omega)
    · refine q p _ (same_new s1 (s1.free np)) (s1.free np) ?_
      rw [upd_same, List.append_nil]
      rfl

def Z6 : List Int := [0, 0, 0, 0, 0, 0]
def E6 (j : Nat) : List Int := (List.range 6).map fun i => if i = j then 1 else 0
def mcell (f : List Int → List Int) (i j : Nat) : Int := if j = 0 then (1 :: f Z6).getD i 0 else (1 :: f (E6 (j - 1))).getD i 0 - (1 :: f Z6).getD i 0
def matL (f : List Int → List Int) : List Int := (List.range 49).map fun t => mcell f (t / 7) (t % 7)
def colF (f : List Int → List Int) (j : Nat) : List Int := (List.range 7).map fun i => mcell f i j
theorem E6_len (j : Nat) : (E6 j).length = 6 := by unfold E6; rw [List.length_map, List.length_range]
theorem colF_len (f : List Int → List Int) (j : Nat) : (colF f j).length = 7 := by unfold colF; rw [List.length_map, List.length_range]
theorem list7 {ns : List Int} (h : ns.length = 7) : (List.range 7).map (fun t => ns.getD t 0) = ns := by
  match ns, h with
  | [a, b, c, d, e, f, g], _ => rfl
def sp_unit_pen (K : PySem.W.Frag) : Sp := fun vs H Q _ => ∃ (z : Int) (j : Nat), vs = [.int z] ∧ z = (j : Int) ∧
  ∀ (q : Addr) (H' : Hp), Same H H' → H q = none → H' q = some (.tup ((E6 j).map V.int)) → Q (.ref q) H'
theorem eqI_if (i j : Nat) (a b : Int) (ha : a = (i : Int)) (hb : b = (j : Int)) : (if decide (V.int a = V.int b) = true then (1 : Int) else 0) = if i = j then 1 else 0 := by
  subst ha hb
  by_cases e : i = j
  · subst e
    rw [decide_eq_true rfl, if_pos rfl, if_pos rfl]
  · rw [decide_eq_false (fun h => e (by have := V.int.inj h; omega)), if_neg Bool.false_ne_true, if_neg e]
theorem ok_unit_pen (T : Top w K mg) : FnOk P w K mg base CX0 1 T.a_unit_pen T.d_unit_pen ["at"] (sp_unit_pen K) := by
  refine T.F_unit_pen.ok sc_unit_pen (fun vs H Q E h => ?_) (fun cdv A outer s H vs Q E hr h => ?_)
  · obtain ⟨z, j, rfl, _⟩ := h
    rfl
  · obtain ⟨z, j, rfl, hz, q⟩ := h
    refine ⟨_, (pss_one (ps_ret (pe_callTy (k_tuple K) (by rfl) T.z_tuple bt_tuple (pa_cons (pe_lc (own := [("i", 1)]) (g := (gName 1)) (tt := tYes) rfl sc_unit_pen.nd (pi_range1 (by rfl) T.z_range (pa_cons pe_int pa_nil)) (blkOk_by (N := N_unit_pen) (sc := defScope s_unit_pen) (by decide +kernel)) (fun _ _ _ _ _ => (pg_name (i := 1) sc_unit_pen.nd rfl (Or.inl rfl))) (fun _ _ _ _ _ => pts_nil) (fun _ _ _ _ _ => (pe_callTy call_intB (by rfl) T.z_int bt_int (pa_cons (pe_cmpR op_eq (pv 1) (pv 0) (nomark _)) pa_nil)))) pa_nil)))), ?_⟩
    refine ⟨6, rfl, by decide, by decide, fun D nD => lc_range (n := 6) (fun i H' => Same H H' ∧ H' D = some (.lst (((List.range i).map fun i => if i = j then (1 : Int) else 0).map V.int))) ⟨same_upd nD, upd_same⟩ (fun i H' hi h => ?_) (fun H1 h => ?_)⟩
    · obtain ⟨sm, hD⟩ := h
      refine ⟨rfl, _, rfl, _, rfl, rfl, _, rfl, _, hD, ?_, same_new sm nD, ?_⟩
      · rw [List.length_map, List.length_map, List.length_range]
        exact small1000 (by omega)
      · rw [upd_same, eqI_if i j _ _ (by omega) hz]
        exact congrArg (fun z => some (HO.lst z)) (range_snoc (fun i => if i = j then (1 : Int) else 0) i)
    · obtain ⟨s1, hD⟩ := h
      exact ⟨D, _, rfl, SqL.of hD, fun t nt => q t _ (same_new s1 (s1.free nt)) (s1.free nt) upd_same⟩
theorem mv_len {c : Cm} {ps : List Int} (h : ps.length = 6) : (c.mv ps).length = 6 := by
  obtain ⟨x, y, u, v, p, q, rfl⟩ := list6' h
  cases c <;> rfl
/-! ### the matrix from the ends of the probes -/
def probeF (j : Nat) : List Int := if j = 0 then Z6 else E6 (j - 1)
def gcell (F : Nat → List Int) (i j : Nat) : Int := if j = 0 then (1 :: F 0).getD i 0 else (1 :: F j).getD i 0 - (1 :: F 0).getD i 0
def matG (F : Nat → List Int) : List Int := (List.range 49).map fun t => gcell F (t / 7) (t % 7)
def colG (F : Nat → List Int) (j : Nat) : List Int := (List.range 7).map fun i => gcell F i j
theorem colG_len (F : Nat → List Int) (j : Nat) : (colG F j).length = 7 := by unfold colG; rw [List.length_map, List.length_range]
theorem probeF_len (j : Nat) : (probeF j).length = 6 := by
  unfold probeF
  split
  · rfl
  · exact E6_len _
theorem matL_G (f : List Int → List Int) : matL f = matG fun j => f (probeF j) := by
  unfold matL matG
  refine List.map_congr_left fun t _ => ?_
  unfold mcell gcell probeF
  by_cases h : t % 7 = 0
  · rw [if_pos h, if_pos h]
    rfl
  · rw [if_neg h, if_neg h]
    dsimp only
    rw [if_neg h, if_pos rfl]
/-- a list of tuples -/
def TRows (H : Hp) (D : Addr) (ps : List Addr) (F : Nat → List Int) : Prop := H D = some (.lst (ps.map V.ref)) ∧ ∀ (j : Nat) (a : Addr), ps[j]? = some a → H a = some (.tup ((F j).map V.int))
theorem TRows.push {H' J : Hp} {D q : Addr} {ps : List Addr} {F : Nat → List Int} (h : TRows H' D ps F) (sm : Same H' J) (hq : J q = some (.tup ((F ps.length).map V.int))) : TRows (upd J D (.lst (ps.map V.ref ++ [.ref q]))) D (ps ++ [q]) F := by
  have hD := sm _ _ h.1
  have ne : ∀ {a : Addr} {xs : List V}, J a = some (.tup xs) → a ≠ D := fun h e => by
    rw [e, hD] at h
    cases h
  refine ⟨by rw [upd_same, List.map_append]; rfl, fun j a e => ?_⟩
  rw [List.getElem?_append] at e
  split at e
  · have h2 := sm _ _ (h.2 j a e)
    rw [upd_ne (ne h2)]
    exact h2
  · rename_i hj
    have hj2 := (List.getElem?_eq_some_iff.mp e).1
    have ej : j = ps.length := by
      rw [List.length_cons, List.length_nil] at hj2
      omega
    subst ej
    rw [Nat.sub_self] at e
    cases e
    rw [upd_ne (ne hq)]
    exact hq
theorem TRows.same {H' J : Hp} {D : Addr} {ps : List Addr} {F : Nat → List Int} (h : TRows H' D ps F) (sm : Same H' J) : TRows J D ps F := ⟨sm _ _ h.1, fun j a e => sm _ _ (h.2 j a e)⟩
theorem TRows.nil {H : Hp} {D : Addr} {F : Nat → List Int} : TRows (upd H D (.lst [])) D [] F := ⟨upd_same, fun j a e => by simp at e⟩
/-- one more in front, in a new list -/
theorem TRows.cons {H : Hp} {D q z : Addr} {ps : List Addr} {F G : Nat → List Int} (h : TRows H D ps F) (hz : H z = some (.tup ((G 0).map V.int))) (e : ∀ j, G (j + 1) = F j) (nq : H q = none) : TRows (upd H q (.lst ((z :: ps).map V.ref))) q (z :: ps) G := by
  refine ⟨upd_same, fun j a ea => ?_⟩
  cases j with
  | zero =>
    cases ea
    rw [upd_ne (ne_of_none hz nq)]
    exact hz
  | succ j =>
    have := h.2 j a ea
    rw [upd_ne (ne_of_none this nq), e]
    exact this
theorem Rows.cons {H : Hp} {D q z : Addr} {ps : List Addr} {F G : Nat → List Int} (h : Rows H D ps F) (hz : H z = some (.lst ((G 0).map V.int))) (e : ∀ j, G (j + 1) = F j) (nq : H q = none) : Rows (upd H q (.lst ((z :: ps).map V.ref))) q (z :: ps) G := by
  refine ⟨upd_same, fun j a ea => ?_⟩
  cases j with
  | zero =>
    cases ea
    have n := ne_of_none hz nq
    rw [upd_ne n]
    exact ⟨n, hz⟩
  | succ j =>
    have := (h.2 j a ea).2
    have n := ne_of_none this nq
    rw [upd_ne n, e]
    exact ⟨n, this⟩
def sp_probes : Sp := fun vs H Q _ => vs = [] ∧ ∀ (q : Addr) (ps : List Addr) (H' : Hp), Same H H' → H q = none → ps.length = 7 → TRows H' q ps probeF → Q (.ref q) H'
theorem ok_probes (T : Top w K mg) : FnOk P w K mg base CX0 2 T.a_probes T.d_probes [] sp_probes := by
  refine T.F_probes.ok sc_probes (fun vs H Q E h => ?_) (fun cdv A outer s H vs Q E hr h => ?_)
  · obtain ⟨rfl, _⟩ := h
    rfl
  · obtain ⟨rfl, q⟩ := h
    refine ⟨_, (pss_one (ps_ret (pe_lst (pa_cons (pe_tup (pa_cons pe_int (pa_cons pe_int (pa_cons pe_int (pa_cons pe_int (pa_cons pe_int (pa_cons pe_int pa_nil))))))) (k_star K (pe_lc (own := [("at", 0)]) (g := (gName 0)) (tt := tYes) rfl sc_probes.nd (pi_range1 (by rfl) T.z_range (pa_cons pe_int pa_nil)) (blkOk_by (N := N_probes) (sc := defScope s_probes) (by decide +kernel)) (fun _ _ _ _ _ => (pg_name (i := 0) sc_probes.nd rfl (Or.inl rfl))) (fun _ _ _ _ _ => pts_nil) (fun _ _ _ _ _ => (pe_call (ok_unit_pen T) hr (by rfl) T.g_unit_pen T.F_unit_pen.kp (b_unit_pen T) .nil pass0 (pa_cons (pv 0) pa_nil)))) pa_nil))))), ?_⟩
    refine ⟨small100 (n := 6) (by decide), fun z nz => ?_⟩
    have s1 := same_upd (o := .tup (Z6.map V.int)) nz
    have hz : (upd H z (.tup (Z6.map V.int))) z = some (.tup (Z6.map V.int)) := upd_same
    have ez : (HO.tup [V.int 0, .int 0, .int 0, .int 0, .int 0, .int 0]) = .tup (Z6.map V.int) := rfl
    rw [ez]
    generalize upd H z (.tup (Z6.map V.int)) = H1 at *
    refine ⟨6, rfl, by decide, by decide, fun D nD => lc_range (n := 6) (fun i J => Same H1 J ∧ ∃ ps : List Addr, ps.length = i ∧ TRows J D ps E6) ⟨same_upd nD, [], rfl, TRows.nil⟩ (fun i J hi h => ?_) (fun J h => ?_)⟩
    · obtain ⟨sm, ps, hl, hR⟩ := h
      refine ⟨rfl, _, rfl, _, i, rfl, by omega, fun e J2 t2 ne he => ?_⟩
      have hR2 := hR.same t2
      refine ⟨_, hR2.1, ?_, same_new (sm.trans t2) nD, ps ++ [e], by rw [List.length_append, hl]; rfl, hR.push t2 (by rw [hl]; exact he)⟩
      rw [List.length_map, hl]
      exact small1000 (by omega)
    · obtain ⟨sm, ps, hl, hR⟩ := h
      refine ⟨D, _, rfl, .inr (SqL.of hR.1), ?_, fun r nr => ?_⟩
      · rw [List.append_nil, List.length_cons, List.length_map, hl]
        exact small100 (by decide)
      · have s3 := s1.trans sm
        have hc := hR.cons (q := r) (z := z) (G := probeF) (sm _ _ hz) (fun j => by unfold probeF; rw [if_neg (by omega)]; rfl) nr
        rw [List.append_nil]
        exact q r (z :: ps) _ (same_new s3 (s3.free nr)) (s3.free nr) (by rw [List.length_cons, hl]) hc

/-- a list of pens -/
def TRowsQ (K : PySem.W.Frag) (H : Hp) (D : Addr) (ps : List Addr) (F : Nat → List Int) : Prop := H D = some (.lst (ps.map V.ref)) ∧ ∀ (j : Nat) (a : Addr), ps[j]? = some a → SqT K H a ((F j).map V.int)
theorem TRowsQ.same {K : PySem.W.Frag} {H H' : Hp} {D : Addr} {ps : List Addr} {F : Nat → List Int} (h : TRowsQ K H D ps F) (s : Same H H') : TRowsQ K H' D ps F := ⟨s _ _ h.1, fun j a e => sqT_same (h.2 j a e) s⟩
theorem TRowsQ.push {K : PySem.W.Frag} {J : Hp} {D q : Addr} {ps : List Addr} {F : Nat → List Int} (h : TRowsQ K J D ps F) (hq : SqT K J q ((F ps.length).map V.int)) : TRowsQ K (upd J D (.lst (ps.map V.ref ++ [.ref q]))) D (ps ++ [q]) F := by
  refine ⟨by rw [upd_same, List.map_append]; rfl, fun j a e => ?_⟩
  by_cases hj : j < ps.length
  · rw [List.getElem?_append_left hj] at e
    exact sqT_put (h.2 j a e) h.1
  · have := (List.getElem?_eq_some_iff.mp e).1
    rw [List.length_append, List.length_singleton] at this
    have ej : j = ps.length := by omega
    subst ej
    rw [List.getElem?_append_right (Nat.le_refl _), Nat.sub_self] at e
    cases e
    exact sqT_put hq h.1
def sp_matrix_from (K : PySem.W.Frag) : Sp := fun vs H Q _ => ∃ (D : Addr) (ps : List Addr) (F : Nat → List Int), vs = [.ref D] ∧ ps.length = 7 ∧ TRowsQ K H D ps F ∧ (∀ j, (F j).length = 6) ∧
  ∀ (q : Addr) (H' : Hp), Same H H' → H q = none → H' q = some (.lst ((matG F).map V.int)) → Q (.ref q) H'
theorem ok_matrix_from (T : Top w K mg) : FnOk P w K mg base CX0 4 T.a_matrix_from T.d_matrix_from ["ends"] (sp_matrix_from K) := by
  refine T.F_matrix_from.ok sc_matrix_from (fun vs H Q E h => ?_) (fun cdv A outer s H vs Q E hr h => ?_)
  · obtain ⟨D, ps, F, rfl, _⟩ := h
    rfl
  · obtain ⟨D, ps, F, rfl, hl, hR, hF, q⟩ := h
    refine ⟨_, (pss_cons (ps_asg (pe_lc (own := [("end", 4)]) (g := (gName 4)) (tt := tYes) rfl sc_matrix_from.nd (k_piL K (pv 0)) (blkOk_by (N := N_matrix_from) (sc := defScope s_matrix_from) (by decide +kernel)) (fun _ _ _ _ _ => (pg_name (i := 4) sc_matrix_from.nd rfl (Or.inl rfl))) (fun _ _ _ _ _ => pts_nil) (fun _ _ _ _ _ => (pe_call (ok_vector T) hr (by rfl) T.g_vector T.F_vector.kp (b_vector T) .nil pass0 (pa_cons (pv 4) pa_nil)))) (pg_starL K rfl (pg_name (i := 1) sc_matrix_from.nd rfl (Or.inr rfl)) (pg_name (i := 2) sc_matrix_from.nd rfl (Or.inl rfl))))
      (pss_cons (ps_set (i := 3) sc_matrix_from.nd rfl (Or.inr rfl) (pe_lst (pa_cons (pv 1) (k_star K (pe_lc (own := [("other", 7)]) (g := (gName 7)) (tt := tYes) rfl sc_matrix_from.nd (k_piL K (pv 2)) (blkOk_by (N := N_matrix_from) (sc := defScope s_matrix_from) (by decide +kernel)) (fun _ _ _ _ _ => (pg_name (i := 7) sc_matrix_from.nd rfl (Or.inl rfl))) (fun _ _ _ _ _ => pts_nil) (fun _ _ _ _ _ => (pe_lc (own := [("a", 8), ("b", 9)]) (g := (gTup K 2 (gCons (gName 8) (gCons (gName 9) gNil)))) (tt := tYes) rfl sc_matrix_from.nd (k_zip K (by rfl) T.z_zip (pa_cons (pv 7) (pa_cons (pv 1) pa_nil))) (blkOk_by (N := N_matrix_from) (sc := (relS ({ kind := .function, names := [(".0", .local), ("other", .local), ("zip", .globalImplicit), ("start", .free)], isGenerator := false, isCoroutine := false } : Scope) (defScope s_matrix_from))) (by decide +kernel)) (fun _ _ _ _ _ => (pg_tup rfl (pgs_cons (pg_name (i := 8) sc_matrix_from.nd rfl (Or.inl rfl)) (pgs_cons (pg_name (i := 9) sc_matrix_from.nd rfl (Or.inl rfl)) pgs_nil)))) (fun _ _ _ _ _ => pts_nil) (fun _ _ _ _ _ => (pe_op op_sub (pv 8) (pv 9)))))) pa_nil))))
      (pss_one (ps_ret (pe_lc2 (own := [("i", 5), ("column", 6)]) (vs1 := [6]) (g := (gName 5)) (g1 := (gName 6)) (tt := tYes) (tt1 := tYes) rfl sc_matrix_from.nd (pi_range1 (by rfl) T.z_range (pa_cons pe_int pa_nil)) (blkOk_by (N := N_matrix_from) (sc := defScope s_matrix_from) (by decide +kernel)) (by decide) (fun _ _ _ _ _ => (pg_name (i := 5) sc_matrix_from.nd rfl (Or.inl rfl))) (fun _ _ _ _ _ => pts_nil) (fun _ _ _ _ _ => (k_piL K (pv 3))) (fun _ _ _ _ _ => (pg_name (i := 6) sc_matrix_from.nd rfl (Or.inl rfl))) (fun _ _ _ _ _ => pts_nil) (fun _ _ _ _ _ => (pe_ix (k_ixL K) (pv 6) (pv 5) (fun _ _ => rfl)))))))), ?_⟩
    refine ⟨_, rfl, D, rfl, ⟨_, SqL.of hR.1⟩, fun D2 nD2 => ?_⟩
    refine lc_list (xs := ps.map V.ref) (fun j J => Same H J ∧ ∃ es : List Addr, es.length = j ∧ Rows J D2 es fun j => 1 :: F j) ⟨same_upd nD2, [], rfl, Rows.nil⟩ (fun j J _ h => SqL.of (h.1 _ _ hR.1)) (fun j x J hx h => ?_) (fun J h => ?_)
    · obtain ⟨sm, es, he, hE⟩ := h
      obtain ⟨a, ea, rfl⟩ : ∃ a, ps[j]? = some a ∧ x = .ref a := by
        rw [List.getElem?_map] at hx
        cases h : ps[j]? with
        | none => rw [h] at hx; cases hx
        | some a => rw [h] at hx; cases hx; exact ⟨a, rfl, rfl⟩
      have hj := (List.getElem?_eq_some_iff.mp ea).1
      refine ⟨rfl, _, rfl, a, F j, rfl, sqT_same (hR.2 j a ea) sm, hF j, fun m J2 t2 nm hm => ?_⟩
      have hE2 := hE.same t2
      refine ⟨_, hE2.1, ?_, same_new (sm.trans t2) nD2, es ++ [m], by rw [List.length_append, he]; rfl, hE.push t2 nm (by rw [he]; exact hm)⟩
      rw [List.length_map, he]
      exact small1000 (by omega)
    · obtain ⟨sm, es, he, hE⟩ := h
      rw [List.length_map, hl] at he
      have nD2 : H D2 = none := nD2
      obtain ⟨e0, er, rfl⟩ : ∃ a r, es = a :: r := by
        cases es with
        | nil => cases he
        | cons a r => exact ⟨a, r, rfl⟩
      have h0 := (hE.2 0 e0 rfl).2
      refine ⟨D2, .ref e0, er.map V.ref, rfl, SqL.of hE.1, fun o no => ?_⟩
      have w1 := same_upd (o := .lst (er.map V.ref)) no
      have ho : (upd J o (.lst (er.map V.ref))) o = some (.lst (er.map V.ref)) := upd_same
      have s1 := sm.trans w1
      have hE1 := hE.same w1
      have h0 := w1 _ _ h0
      generalize upd J o _ = J1 at *
      have her : er.length = 6 := by rw [List.length_cons] at he; omega
      refine ⟨_, rfl, _, rfl, o, rfl, ⟨_, SqL.of ho⟩, fun D3 nD3 => ?_⟩
      refine lc_list (xs := er.map V.ref) (fun j J => Same J1 J ∧ ∃ cs : List Addr, cs.length = j ∧ Rows J D3 cs fun j => colG F (j + 1)) ⟨same_upd nD3, [], rfl, Rows.nil⟩ (fun j J _ h => SqL.of (h.1 _ _ ho)) (fun j x J hx h => ?_) (fun J h => ?_)
      · obtain ⟨sm3, cs, hc, hC⟩ := h
        obtain ⟨a, ea, rfl⟩ : ∃ a, er[j]? = some a ∧ x = .ref a := by
          rw [List.getElem?_map] at hx
          cases h : er[j]? with
          | none => rw [h] at hx; cases hx
          | some a => rw [h] at hx; cases hx; exact ⟨a, rfl, rfl⟩
        have hj := (List.getElem?_eq_some_iff.mp ea).1
        have ha := sm3 _ _ (hE1.2 (j + 1) a ea).2
        have hb := sm3 _ _ h0
        have l1 := hF (j + 1)
        have l0 := hF 0
        refine ⟨rfl, _, rfl, _, rfl, a, e0, _, _, rfl, SqL.of ha, SqL.of hb, fun C nC => ?_⟩
        refine lc_it (walk_zip (n := 7) (xs := (1 :: F (j + 1)).map V.int) (ys := (1 :: F 0).map V.int) (by rw [len_map, len_map, List.length_cons, List.length_cons, l1, l0]; rfl)) (fun i L => Same J L ∧ L C = some (.lst (((List.range i).map fun i => gcell F i (j + 1)).map V.int))) ⟨same_upd nC, upd_same⟩ (fun i L _ h => ⟨SqL.of (h.1 _ _ ha), SqL.of (h.1 _ _ hb)⟩) (fun i x L L2 hi h y => ?_) (fun L h => ?_)
        · obtain ⟨sm, hC⟩ := h
          obtain ⟨t, x, y, rfl, nt, rfl, hx, hy⟩ := y
          have hx : ((1 :: F (j + 1)).map V.int)[i]? = some x := hx
          have hy : ((1 :: F 0).map V.int)[i]? = some y := hy
          rw [get_map (getD_get (ns := 1 :: F (j + 1)) (t := i) (by rw [List.length_cons, l1]; omega))] at hx
          rw [get_map (getD_get (ns := 1 :: F 0) (t := i) (by rw [List.length_cons, l0]; omega))] at hy
          cases hx
          cases hy
          have sm2 := sm.trans (same_upd (o := .tup [V.int ((1 :: F (j + 1)).getD i 0), V.int ((1 :: F 0).getD i 0)]) nt)
          have hC2 := same_upd (o := .tup [V.int ((1 :: F (j + 1)).getD i 0), V.int ((1 :: F 0).getD i 0)]) nt _ _ hC
          refine ⟨t, [V.int ((1 :: F (j + 1)).getD i 0), V.int ((1 :: F 0).getD i 0)], rfl, SqT.of upd_same, rfl, _, _, rfl, _, _, rfl, rfl, rfl, _, rfl, _, rfl, _, _, rfl, rfl, _, hC2, ?_, same_new sm2 nC, ?_⟩
          · rw [List.length_map, List.length_map, List.length_range]
            exact small1000 (by omega)
          · rw [upd_same]
            exact congrArg (fun z => some (HO.lst z)) (range_snoc (fun i => gcell F i (j + 1)) i)
        · obtain ⟨smL, hL⟩ := h
          have hC8 := hC.same smL
          refine ⟨_, hC8.1, ?_, same_new (sm3.trans smL) nD3, cs ++ [C], by rw [List.length_append, hc]; rfl, hC.push smL nC (by rw [hL, hc]; rfl)⟩
          rw [List.length_map, hc]
          exact small1000 (by omega)
      · obtain ⟨sm3, cs, hc, hC⟩ := h
        rw [List.length_map, her] at hc
        have ec : 1 :: F 0 = colG F 0 := (list7 (ns := 1 :: F 0) (by rw [List.length_cons, hF 0])).symm
        have h0 : J1 e0 = some (.lst ((1 :: F 0).map V.int)) := h0
        rw [ec] at h0
        refine ⟨D3, _, rfl, .inr (SqL.of hC.1), ?_, fun D nD => ?_⟩
        · rw [List.append_nil, List.length_cons, List.length_map, hc]
          exact small100 (by decide)
        · have hR := hC.cons (q := D) (z := e0) (G := colG F) (sm3 _ _ h0) (fun j => rfl) nD
          have sH := (s1.trans sm3).trans (same_upd (o := .lst ((e0 :: cs).map V.ref)) nD)
          have hl : (e0 :: cs).length = 7 := by rw [List.length_cons, hc]
          rw [List.append_nil]
          have eo : V.ref e0 :: cs.map V.ref = (e0 :: cs).map V.ref := rfl
          rw [eo]
          generalize e0 :: cs = ps at *
          generalize upd J D _ = H' at *
          let f : Nat → Int := fun t => gcell F (t / 7) (t % 7)
          refine ⟨7, rfl, by decide, by decide, fun B nB => ?_⟩
          refine ⟨fun i m J => m = 7 - i ∧ i ≤ 7 ∧ Same H' J ∧ J B = some (.lst (((List.range (7 * i)).map f).map V.int)), ⟨7, rfl, by decide, same_upd nB, upd_same⟩, fun i m J h => ?_⟩
          obtain ⟨rfl, hi, sm, hB⟩ := h
          by_cases h7 : i < 7
          · refine .inr ⟨h7, fun J => Same H' J ∧ J B = some (.lst (((List.range (7 * i + 7)).map f).map V.int)), fun J h => ⟨7 - (i + 1), by omega, rfl, h7, h.1, by rw [h.2, Nat.mul_succ]⟩, fun x J y => ?_⟩
            obtain ⟨rfl, rfl⟩ := y
            refine ⟨rfl, _, rfl, D, rfl, ⟨_, SqL.of (hR.same sm).1⟩, ?_⟩
            refine ⟨fun j k J => k = 7 - j ∧ j ≤ 7 ∧ Same H' J ∧ J B = some (.lst (((List.range (7 * i + j)).map f).map V.int)), ⟨7, rfl, by decide, sm, hB⟩, fun j k J h => ?_⟩
            obtain ⟨rfl, hj, sm, hB⟩ := h
            have hr := hR.same sm
            by_cases j7 : j < 7
            · obtain ⟨a, ea, ea2⟩ := getRef (ps := ps) (i := j) (by omega)
              refine .inr ⟨⟨_, _, SqL.of hr.1, ea2⟩, fun J => Same H' J ∧ J B = some (.lst (((List.range (7 * i + (j + 1))).map f).map V.int)), fun J h => ⟨7 - (j + 1), by omega, rfl, j7, h.1, h.2⟩, fun x J y => ?_⟩
              obtain ⟨rfl, hy⟩ := y
              have hy := hy _ (SqL.of hr.1)
              rw [ea2] at hy
              cases hy
              refine ⟨rfl, _, rfl, _, rfl, a, _, _, _, rfl, rfl, SqL.of (hr.2 _ _ ea).2, at_nat (t := i) (by omega) (by rw [colG_len]; exact h7), _, hB, ?_, same_new sm nB, ?_⟩
              · rw [List.length_map, List.length_map, List.length_range]
                exact small1000 (by omega)
              · have ef : f (7 * i + j) = (colG F j).getD i 0 := by
                  unfold colG
                  rw [getD7, if_pos h7]
                  show gcell F ((7 * i + j) / 7) ((7 * i + j) % 7) = _
                  rw [show (7 * i + j) / 7 = i by omega, show (7 * i + j) % 7 = j by omega]
                rw [upd_same, ← ef, range_snoc, Nat.add_assoc]
            · refine .inl ⟨⟨_, SqL.of hr.1, by rw [List.length_map]; omega⟩, sm, ?_⟩
              rw [hB, show j = 7 by omega]
          · have e : i = 7 := by omega
            subst e
            exact .inl ⟨Nat.le_refl _, q B J (sH.trans sm) (sH.free nB) hB⟩

--SPLIT
/-! ### run_matrix -/
def RmxR (CE : Addr) (H : Hp) (Q : VK) (E : XK) : Out → Prop
  | .go s => GoodE s ∧ ∀ (t c : Addr) (H' : Hp), Same H H' → H t = none → H c = none → H' t = some (.tup [.int s.way, .ref c, natV (cmdsN s)]) → H' c = some (.lst ((matL (penEnd s.deeds)).map V.int)) → Q (.ref t) H'
  | .no i => ErrR CE (fun _ => False) H E i
  | .bad => False
def sp_run_matrix (CB CE NPr : Addr) : Sp := fun vs H Q E => ∃ (S S1 S2 : Addr → Prop) (a : Addr) (bs : List (List Stm)) (dp db : PyData) (vp vb : V) (n : Nat), vs = [.ref a, vp, vb] ∧ BookV S CB H a bs ∧ OkBook bs ∧ Tr S1 H dp vp ∧ Tr S2 H db vb ∧ n ≤ 20000 ∧
  (inD dp (0, (bs.length : Int) - 1) = false → ∀ H', Same H H' → E (.ref NPr) none H') ∧
  (∀ p : Nat, p < bs.length → dp = .int p → (∀ i, bitsFault db = some i → ErrR CE (fun _ => False) H E i) ∧ ∀ bits, db = .list (bits.map bitD) → RmxR CE H Q E (runO bs bits n p))
theorem ok_run_matrix (T : Top w K mg) : FnOk P w K mg base (L2.CX P w) 13 T.a_run_matrix T.d_run_matrix ["book", "procedure", "bits"] (sp_run_matrix T.C_Book T.C_NoRun T.a_NoProcedure) := by
  refine T.F_run_matrix.okX sc_run_matrix (fun vs H Q E h => ?_) (fun cdv A outer sh H vs Q E hr h => ?_)
  · obtain ⟨S, S1, S2, a, bs, dp, db, vp, vb, n, rfl, _⟩ := h
    rfl
  · obtain ⟨S, S1, S2, a, bs, dp, db, vp, vb, n, rfl, hb, ho, hp, hv, hn, qn, q⟩ := h
    refine ⟨_, (pss_cons (ps_set (i := 3) sc_run_matrix.nd rfl (Or.inl rfl) (pe_callS (ok_executed T) hr (by rfl) T.g_executed T.F_executed.kp (b_executed T) (fun σ => passAt (takes_of rfl rfl rfl rfl) σ) (pa_cons (pv 0) (pa_cons (pv 1) (pa_cons (pv 2) pa_nil)))))
      (pss_cons (ps_set (i := 4) sc_run_matrix.nd rfl (Or.inr rfl) (pe_fld (pv 3) rfl))
      (pss_cons (ps_set (i := 5) sc_run_matrix.nd rfl (Or.inl rfl) (pe_call (ok_matrix_from T) (hr.mono (by decide)) (by rfl) T.g_matrix_from T.F_matrix_from.kp (b_matrix_from T) .nil pass0 (pa_cons (pe_lc (own := [("pen", 6)]) (g := (gName 6)) (tt := tYes) rfl sc_run_matrix.nd (k_piL K (pe_call0 (ok_probes T) (hr.mono (by decide)) (by rfl) T.g_probes T.F_probes.kp (b_probes T) .nil pass0)) (blkOk_by (N := N_run_matrix) (sc := defScope s_run_matrix) (by decide +kernel)) (fun _ _ _ _ _ => (pg_name (i := 6) sc_run_matrix.nd rfl (Or.inl rfl))) (fun _ _ _ _ _ => pts_nil) (fun _ _ _ _ _ => (pe_call (ok_end_of T) (hr.mono (by decide)) (by rfl) T.g_end_of T.F_end_of.kp (b_end_of T) .nil pass0 (pa_cons (pv 4) (pa_cons (pv 6) pa_nil))))) pa_nil)))
      (pss_one (ps_ret (pe_tup (pa_cons (pe_fld (pv 3) rfl) (pa_cons (pv 5) (pa_cons (pe_call (ok_length_of T) (hr.mono (by decide)) (by rfl) T.g_length_of T.F_length_of.kp (b_length_of T) .nil pass0 (pa_cons (pv 4) pa_nil)) pa_nil))))))))), ?_⟩
    refine ⟨_, rfl, _, rfl, _, rfl, S, S1, S2, a, bs, dp, db, vp, vb, n, rfl, hb, ho, hp, hv, hn, fun h H' s => qn h H' s, fun p hpl e => ⟨fun i hi => (q p hpl e).1 i hi, fun bits eb => ?_⟩⟩
    have q := (q p hpl e).2 bits eb
    cases eo : runO bs bits n p with
    | bad => rw [eo] at q; exact q.elim
    | no i => rw [eo] at q; exact q
    | go s =>
      rw [eo] at q
      intro A H1 s1 _ _ X
      obtain ⟨gd, q⟩ := q
      obtain ⟨dx, hi⟩ := X.ins
      refine ⟨_, rfl, A.e, T.C_Execution, dx, _, _, rfl, hi, T.cl_Execution, T.na_Execution_deeds, exf_deeds, ?_⟩
      refine ⟨rfl, fun qp pas H2 s2 nq hpl hR => ?_⟩
      refine ⟨qp, rfl, ⟨_, SqL.of hR.1⟩, fun D nD => ?_⟩
      refine lc_list (xs := pas.map V.ref) (fun j J => Same H2 J ∧ ∃ es : List Addr, es.length = j ∧ TRowsQ K J D es fun j => penEnd s.deeds (probeF j)) ⟨same_upd nD, [], rfl, upd_same, fun j a e => by simp at e⟩ (fun j J _ h => SqL.of (h.1 _ _ hR.1)) (fun j x J hx h => ?_) (fun J h => ?_)
      · obtain ⟨sm, es, he, hE⟩ := h
        obtain ⟨b, eb, rfl⟩ : ∃ b, pas[j]? = some b ∧ x = .ref b := by
          rw [List.getElem?_map] at hx
          cases h : pas[j]? with
          | none => rw [h] at hx; cases hx
          | some b => rw [h] at hx; cases hx; exact ⟨b, rfl, rfl⟩
        have hj := (List.getElem?_eq_some_iff.mp eb).1
        have XJ := X.same (s2.trans sm)
        obtain ⟨dsv, hd, rd⟩ := XJ.dds
        refine ⟨rfl, _, rfl, _, rfl, A.aD, b, dsv, s.deeds, probeF j, rfl, hd, rd, gd.len, gd.ok, gd.dep, SqT.of (sm _ _ (hR.2 j b eb)), probeF_len j, fun J2 c sJ hc => ?_⟩
        have hE2 := hE.same sJ
        refine ⟨_, hE2.1, ?_, same_new (sm.trans sJ) nD, es ++ [c], by rw [List.length_append, he]; rfl, hE2.push (by rw [he]; exact hc)⟩
        rw [List.length_map, he]
        exact small1000 (by omega)
      · obtain ⟨sm, es, he, hE⟩ := h
        rw [List.length_map, hpl] at he
        refine ⟨D, es, _, rfl, he, hE, fun j => (six_fold (xs := s.deeds) (z := ([], probeF j)) (fun _ h => by cases h) (probeF_len j)).2, fun m J2 sJ nm hm => ?_⟩
        have XJ := X.same ((s2.trans sm).trans sJ)
        obtain ⟨dxJ, hiJ⟩ := XJ.ins
        obtain ⟨dsv, hd, rd⟩ := XJ.dds
        refine ⟨_, rfl, A.e, T.C_Execution, dxJ, _, _, rfl, hiJ, T.cl_Execution, T.na_Execution_way, exf_way, _, rfl, _, rfl, A.aD, dsv, s.deeds, rfl, hd, rd, gd.len, gd.ok, fun H4 s4 => ⟨small100 (n := 3) (by decide), fun t nt => ?_⟩⟩
        have s5 := same_upd (o := .tup [V.int s.way, .ref m, natV (cmdsN s)]) nt
        have s03 := ((s1.trans s2).trans sm)
        have s05 := (s03.trans sJ).trans s4
        exact q t m _ (s05.trans s5) (s05.free nt) (s03.free nm) upd_same ((s4.trans s5) _ _ (by rw [matL_G]; exact hm))

--SPLIT
def image (ns ps : List Int) : List Int := (List.range 6).map fun t => S 7 fun k => ns.getD (7 * (t + 1) + k) 0 * (1 :: ps).getD k 0
theorem one_bw {b : Nat} {ps : List Int} (h : Bw b ps) (hb : 0 < b) : Bw b (1 :: ps) := fun t => by
  match t with
  | 0 =>
    show 1 < 2 ^ b
    exact Nat.one_lt_two_pow (by omega)
  | t + 1 => exact h t

--SPLIT
def sp__law_is_integer (K : PySem.W.Frag) : Sp := fun vs H Q _ => ∃ z : Int, vs = [.int z] ∧ ∀ H', Same H H' → Q (.bl true) H'
theorem list6 {ps : List Int} (h : ps.length = 6) : [ps.getD 0 0, ps.getD 1 0, ps.getD 2 0, ps.getD 3 0, ps.getD 4 0, ps.getD 5 0] = ps := by
  match ps, h with
  | [a, b, c, d, e, f], _ => rfl
def sp__law_pen (K : PySem.W.Frag) : Sp := fun vs H Q _ => ∃ (p : Addr) (L : Nat), vs = [.ref p] ∧ Pool H p L ∧ 2 ≤ L ∧ L ≤ 64 ∧
  ∀ (q : Addr) (ps : List Int) (H' : Hp), ps.length = 6 → (∀ n ∈ ps, Bd n) → Kp p H H' → Pool H' p L → H q = none → H' q = some (.tup (ps.map V.int)) → Q (.ref q) H'
theorem ok__law_pen (T : Top w K mg) : FnOk P w K mg base CX0 3 T.a__law_pen T.d__law_pen ["_law_pool_here"] (sp__law_pen K) := by
  refine T.F__law_pen.ok sc__law_pen (fun vs H Q E h => ?_) (fun cdv A outer s H vs Q E hr h => ?_)
  · obtain ⟨p, L, rfl, _⟩ := h
    rfl
  · obtain ⟨p, L, rfl, pl, h2, h64, q⟩ := h
    refine ⟨_, (pss_cons (ps_setLc (i := 1) (own := [("_law_k", 2)]) (g := (gName 2)) (tt := tYes) rfl sc__law_pen.nd rfl rfl (sw_true rfl rfl rfl (by decide +kernel)) (pi_range1 (by rfl) T.z_range (pa_cons pe_int pa_nil)) (blkOk_by (N := N__law_pen) (sc := defScope s__law_pen) (by decide +kernel)) (fun _ _ _ _ _ => (pg_name (i := 2) sc__law_pen.nd rfl (Or.inl rfl))) (fun _ _ _ _ _ => pts_nil) (fun _ _ _ _ _ => (pe_call (ok__law_number T) hr (by rfl) T.g__law_number T.F__law_number.kp (b__law_number T) .nil pass0 (pa_cons (pv 0) pa_nil))))
      (pss_one (ps_ret (pe_tup (pa_cons (pe_ix (k_ixL K) (pv 1) pe_int (fun _ _ => rfl)) (pa_cons (pe_ix (k_ixL K) (pv 1) pe_int (fun _ _ => rfl)) (pa_cons (pe_ix (k_ixL K) (pv 1) pe_int (fun _ _ => rfl)) (pa_cons (pe_ix (k_ixL K) (pv 1) pe_int (fun _ _ => rfl)) (pa_cons (pe_ix (k_ixL K) (pv 1) pe_int (fun _ _ => rfl)) (pa_cons (pe_ix (k_ixL K) (pv 1) pe_int (fun _ _ => rfl)) pa_nil)))))))))), ?_⟩
    refine ⟨6, rfl, by decide, by decide, fun D nD => ?_⟩
    have hDp : D ≠ p := pl.ne nD
    refine lc_range (n := 6) (fun i H' => ∃ ps : List Int, ps.length = i ∧ (∀ n ∈ ps, Bd n) ∧ Kp p H H' ∧ Pool H' p L ∧ H' D = some (.lst (ps.map V.int))) ⟨[], rfl, (by intro n hn; cases hn), (Kp.refl p H).new nD, pl.new nD, upd_same⟩ (fun i H' hi h => ?_) (fun H1 h => ?_)
    · obtain ⟨ps, hl, hb, k, pl1, hD⟩ := h
      refine ⟨rfl, _, rfl, p, L, rfl, pl1, h2, h64, fun r J br kJ plJ => ⟨_, kJ _ _ hDp hD, ?_, ps ++ [r], by rw [List.length_append, hl]; rfl, ?_, (k.trans kJ).new nD, plJ.keep hDp, ?_⟩⟩
      · rw [len_map, hl]
        exact small1000 (by omega)
      · intro n hn
        rcases List.mem_append.mp hn with hn | hn
        · exact hb n hn
        · rw [List.mem_singleton.mp hn]
          exact br
      · rw [upd_same, List.map_append]
        rfl
    · obtain ⟨ps, hl, hb, k, pl1, hD⟩ := h
      have at6 : ∀ {t : Nat} {z : Int}, z = (t : Int) → t < 6 → atI (ps.map V.int) z = some (.int (ps.getD t 0)) := fun e ht => at_nat e (by omega)
      have hd := SqL.of (K := K) hD
      refine ⟨_, rfl, D, _, _, _, rfl, rfl, hd, at6 (t := 0) rfl (by decide), _, rfl, D, _, _, _, rfl, rfl, hd, at6 (t := 1) rfl (by decide), _, rfl, D, _, _, _, rfl, rfl, hd, at6 (t := 2) rfl (by decide),
        _, rfl, D, _, _, _, rfl, rfl, hd, at6 (t := 3) rfl (by decide), _, rfl, D, _, _, _, rfl, rfl, hd, at6 (t := 4) rfl (by decide), _, rfl, D, _, _, _, rfl, rfl, hd, at6 (t := 5) rfl (by decide), small100 (n := 6) (by decide), fun t nt => ?_⟩
      have nt0 : H t = none := k.none nt (pl1.ne nt)
      refine q t ps _ hl hb (k.new nt0) (pl1.new nt) nt0 ?_
      rw [upd_same]
      exact congrArg (fun z => some (HO.tup (z.map V.int))) (list6 hl)

--SPLIT
def Cm.k (c : Cm) : Int := c.nums.headD 0
def sp__law_move (K : PySem.W.Frag) : Sp := fun vs H Q _ => ∃ (a b : Addr) (ps : List Int) (c : Cm), vs = [.ref a, .ref b] ∧ H a = some (.tup (ps.map V.int)) ∧ ps.length = 6 ∧ H b = some (.tup c.vals) ∧ c.ok ∧
  ∀ (q : Addr) (H' : Hp), Same H H' → H q = none → H' q = some (.tup ((c.mv ps).map V.int)) → Q (.ref q) H'
set_option maxHeartbeats 4000000 in
theorem ok__law_move (T : Top w K mg) : FnOk P w K mg base CX0 1 T.a__law_move T.d__law_move ["_law_begin", "_law_command_here"] (sp__law_move K) := by
  refine T.F__law_move.ok sc__law_move (fun vs H Q E h => ?_) (fun cdv A outer s H vs Q E hr h => ?_)
  · obtain ⟨a, b, ps, c, rfl, _⟩ := h
    rfl
  · obtain ⟨a, b, ps, c, rfl, ha, hl, hb, hok, q⟩ := h
    refine ⟨_, (pss_cons (ps_asg (pv 0) (pg_tup rfl (pgs_cons (pg_name (i := 2) sc__law_move.nd rfl (Or.inl rfl)) (pgs_cons (pg_name (i := 3) sc__law_move.nd rfl (Or.inl rfl)) (pgs_cons (pg_name (i := 4) sc__law_move.nd rfl (Or.inl rfl)) (pgs_cons (pg_name (i := 5) sc__law_move.nd rfl (Or.inl rfl)) (pgs_cons (pg_name (i := 6) sc__law_move.nd rfl (Or.inl rfl)) (pgs_cons (pg_name (i := 7) sc__law_move.nd rfl (Or.inl rfl)) pgs_nil))))))))
      (pss_cons (ps_set (i := 8) sc__law_move.nd rfl (Or.inl rfl) (pe_ix (k_ixT K) (pv 1) pe_int (fun _ _ => rfl)))
      (pss_cons (ps_set (i := 9) sc__law_move.nd rfl (Or.inl rfl) (pe_ix (k_ixT K) (pe_op op_catT (pv 1) (pe_tup (pa_cons pe_int pa_nil))) pe_int (fun _ _ => rfl)))
      (pss_cons (ps_if (pt_cmpR op_eq (pv 8) pe_str (nomark _)) (pss_one (ps_ret (pe_tup (pa_cons (pe_op op_add (pv 2) (pe_op op_mul (pv 9) (pv 4))) (pa_cons (pe_op op_add (pv 3) (pe_op op_mul (pv 9) (pv 5))) (pa_cons (pv 4) (pa_cons (pv 5) (pa_cons (pv 6) (pa_cons (pv 7) pa_nil))))))))) pss_nil)
      (pss_cons (ps_if (pt_cmpR op_eq (pv 8) pe_str (nomark _)) (pss_cons (ps_set (i := 10) sc__law_move.nd rfl (Or.inl rfl) (pe_ix (k_ixL K) (pe_lst (pa_cons (pe_tup (pa_cons (pe_un un_neg (pv 5)) (pa_cons (pv 4) pa_nil))) (pa_cons (pe_tup (pa_cons (pe_un un_neg (pv 4)) (pa_cons (pe_un un_neg (pv 5)) pa_nil))) (pa_cons (pe_tup (pa_cons (pv 5) (pa_cons (pe_un un_neg (pv 4)) pa_nil))) pa_nil)))) (pe_op op_sub (pv 9) pe_int) (fun _ _ => rfl)))
        (pss_one (ps_ret (pe_tup (pa_cons (pv 2) (pa_cons (pv 3) (pa_cons (pe_ix (k_ixT K) (pv 10) pe_int (fun _ _ => rfl)) (pa_cons (pe_ix (k_ixT K) (pv 10) pe_int (fun _ _ => rfl)) (pa_cons (pv 6) (pa_cons (pv 7) pa_nil)))))))))) pss_nil)
      (pss_cons (ps_if (pt_cmpR op_eq (pv 8) pe_str (nomark _)) (pss_one (ps_ret (pe_tup (pa_cons (pv 2) (pa_cons (pv 3) (pa_cons (pv 4) (pa_cons (pe_un un_neg (pv 5)) (pa_cons (pv 6) (pa_cons (pv 7) pa_nil))))))))) pss_nil)
      (pss_cons (ps_if (pt_cmpR op_eq (pv 8) pe_str (nomark _)) (pss_one (ps_ret (pe_tup (pa_cons (pv 2) (pa_cons (pv 3) (pa_cons (pe_op op_mul (pv 4) (pv 9)) (pa_cons (pe_op op_mul (pv 5) (pv 9)) (pa_cons (pv 6) (pa_cons (pv 7) pa_nil))))))))) pss_nil)
      (pss_cons (ps_if (pt_cmpR op_eq (pv 8) pe_str (nomark _)) (pss_one (ps_ret (pe_tup (pa_cons (pv 2) (pa_cons (pv 3) (pa_cons (pv 9) (pa_cons (pe_ix (k_ixT K) (pv 1) pe_int (fun _ _ => rfl)) (pa_cons (pv 6) (pa_cons (pv 7) pa_nil))))))))) pss_nil)
      (pss_cons (ps_if (pt_cmpR op_eq (pv 8) pe_str (nomark _)) (pss_one (ps_ret (pe_tup (pa_cons (pv 9) (pa_cons (pe_ix (k_ixT K) (pv 1) pe_int (fun _ _ => rfl)) (pa_cons (pv 4) (pa_cons (pv 5) (pa_cons (pv 6) (pa_cons (pv 7) pa_nil))))))))) pss_nil)
      (pss_cons (ps_if (pt_cmpR op_eq (pv 8) pe_str (nomark _)) (pss_one (ps_ret (pe_tup (pa_cons (pv 2) (pa_cons (pv 3) (pa_cons (pv 4) (pa_cons (pv 5) (pa_cons (pv 2) (pa_cons (pv 3) pa_nil))))))))) pss_nil)
      (pss_cons (ps_if (pt_cmpR op_eq (pv 8) pe_str (nomark _)) (pss_one (ps_ret (pe_tup (pa_cons (pv 6) (pa_cons (pv 7) (pa_cons (pv 4) (pa_cons (pv 5) (pa_cons (pv 6) (pa_cons (pv 7) pa_nil))))))))) pss_nil)
      (pss_one (ps_ret (pe_tup (pa_cons (pv 6) (pa_cons (pv 7) (pa_cons (pv 4) (pa_cons (pv 5) (pa_cons (pv 2) (pa_cons (pv 3) pa_nil)))))))))))))))))))), ?_⟩
    obtain ⟨x, y, u, v, p, r, rfl⟩ := list6' hl
    refine ⟨_, rfl, a, _, rfl, SqT.of ha, rfl, _, _, rfl, _, _, rfl, _, _, rfl, _, _, rfl, _, _, rfl, _, _, rfl, rfl, ?_⟩
    refine ⟨_, rfl, b, _, 0, _, rfl, rfl, SqT.of hb, atI_nat (j := 0) rfl, ?_⟩
    have hk : (c.vals ++ [V.int 0])[1]? = some (.int c.k) := by cases c <;> rfl
    have hcl : c.vals.length ≤ 3 := by cases c <;> simp [Cm.vals, Cm.nums]
    refine ⟨_, rfl, small100 (n := 1) (by decide), fun z nz => ?_⟩
    have s1 := same_upd (o := .tup [.int 0]) nz
    have hz : (upd H z (.tup [.int 0])) z = some (.tup [.int 0]) := upd_same
    generalize upd H z (.tup [.int 0]) = H1 at *
    refine ⟨b, z, c.vals, [.int 0], rfl, rfl, SqT.of (s1 _ _ hb), SqT.of hz, (fun e => nomatch e), small100 (n := c.vals.length + 1) (by omega), (fun e => nomatch e), fun _ o no => ?_⟩
    have s2 := same_upd (o := .tup (c.vals ++ [.int 0])) no
    have ho : (upd H1 o (.tup (c.vals ++ [.int 0]))) o = some (.tup (c.vals ++ [.int 0])) := upd_same
    generalize upd H1 o (.tup (c.vals ++ [.int 0])) = H2 at *
    refine ⟨o, _, 1, _, rfl, rfl, SqT.of ho, atI_nat (j := 1) hk, ?_⟩
    have s02 := s1.trans s2
    have hb2 := s02 _ _ hb
    have lim : ∀ {i : Nat} {z : Int} {l : Int × Int}, c.nums[i]? = some z → c.lims[i]? = some l → l.1 ≤ z ∧ z ≤ l.2 := fun g1 g2 => hok _ _ _ g1 g2
    have done : ∀ {q : Addr} {J : Hp} {l : List Int}, Same H J → J q = none → l = c.mv [x, y, u, v, p, r] → Same H (upd J q (.tup (l.map V.int))) ∧ H q = none ∧ (upd J q (.tup (l.map V.int))) q = some (.tup ((c.mv [x, y, u, v, p, r]).map V.int)) := fun s n e => ⟨same_new s (s.free n), s.free n, by rw [upd_same, e]⟩
    cases c with
    | go k =>
      have h1 := lim (i := 0) rfl rfl
      dsimp only at h1
      have ek : (Cm.go k).k = k := rfl
      rw [ek] at *
      refine ⟨_, rfl, rfl, _, rfl, iteP rfl ?_⟩
      refine ⟨_, rfl, _, rfl, _, rfl, _, _, rfl, rfl, .inl ⟨by omega, by omega⟩, _, _, rfl, rfl, _, rfl, _, rfl, _, rfl, _, _, rfl, rfl, .inl ⟨by omega, by omega⟩, _, _, rfl, rfl, _, rfl, _, rfl, _, rfl, _, rfl, small100 (n := 6) (by decide), fun t nt => ?_⟩
      have d := done (l := Cm.mv (.go k) [x, y, u, v, p, r]) s02 nt (rfl)
      exact q t _ d.1 d.2.1 d.2.2
    | turn n =>
      have h1 := lim (i := 0) rfl rfl
      dsimp only at h1
      have ek : (Cm.turn n).k = n := rfl
      rw [ek] at *
      refine ⟨_, rfl, rfl, _, rfl, iteN (show ¬ V.str ("turn" : Str) = V.str ("go" : Str) by decide) ?_⟩
      refine ⟨_, rfl, rfl, _, rfl, iteP rfl ?_⟩
      refine ⟨_, rfl, _, rfl, _, rfl, small100 (n := 2) (by decide), fun t1 m1 => ?_⟩
      have j1 := same_upd (o := .tup [.int (-v), .int u]) m1
      have g1 : (upd H2 t1 (.tup [.int (-v), .int u])) t1 = some (.tup [.int (-v), .int u]) := upd_same
      generalize upd H2 t1 (.tup [.int (-v), .int u]) = J1 at *
      refine ⟨_, rfl, _, rfl, _, rfl, _, rfl, small100 (n := 2) (by decide), fun t2 m2 => ?_⟩
      have j2 := same_upd (o := .tup [.int (-u), .int (-v)]) m2
      have g2 : (upd J1 t2 (.tup [.int (-u), .int (-v)])) t2 = some (.tup [.int (-u), .int (-v)]) := upd_same
      generalize upd J1 t2 (.tup [.int (-u), .int (-v)]) = J2 at *
      refine ⟨_, rfl, _, rfl, _, rfl, small100 (n := 2) (by decide), fun t3 m3 => ?_⟩
      have j3 := same_upd (o := .tup [.int v, .int (-u)]) m3
      have g3 : (upd J2 t3 (.tup [.int v, .int (-u)])) t3 = some (.tup [.int v, .int (-u)]) := upd_same
      generalize upd J2 t3 (.tup [.int v, .int (-u)]) = J3 at *
      refine ⟨small100 (n := 3) (by decide), fun l ml => ?_⟩
      have j4 := same_upd (o := .lst [.ref t1, .ref t2, .ref t3]) ml
      have gl : (upd J3 l (.lst [.ref t1, .ref t2, .ref t3])) l = some (.lst [.ref t1, .ref t2, .ref t3]) := upd_same
      generalize upd J3 l (.lst [.ref t1, .ref t2, .ref t3]) = J4 at *
      have g3 := j4 _ _ g3
      have g2 := j4 _ _ (j3 _ _ g2)
      have g1 := j4 _ _ (j3 _ _ (j2 _ _ g1))
      have s06 := s02.trans (j1.trans (j2.trans (j3.trans j4)))
      rcases (show n = 1 ∨ n = 2 ∨ n = 3 by omega) with rfl | rfl | rfl
      · refine ⟨_, rfl, _, _, rfl, rfl, l, _, _, _, rfl, rfl, SqL.of gl, at_of (j := 0) (by decide) rfl, ?_⟩
        refine ⟨_, rfl, _, rfl, _, rfl, t1, _, 0, _, rfl, rfl, SqT.of g1, atI_nat (j := 0) rfl, _, rfl, t1, _, 1, _, rfl, rfl, SqT.of g1, atI_nat (j := 1) rfl, _, rfl, _, rfl, small100 (n := 6) (by decide), fun t nt => ?_⟩
        have d := done (l := [x, y, -v, u, p, r]) s06 nt (rfl)
        exact q t _ d.1 d.2.1 d.2.2
      · refine ⟨_, rfl, _, _, rfl, rfl, l, _, _, _, rfl, rfl, SqL.of gl, at_of (j := 1) (by decide) rfl, ?_⟩
        refine ⟨_, rfl, _, rfl, _, rfl, t2, _, 0, _, rfl, rfl, SqT.of g2, atI_nat (j := 0) rfl, _, rfl, t2, _, 1, _, rfl, rfl, SqT.of g2, atI_nat (j := 1) rfl, _, rfl, _, rfl, small100 (n := 6) (by decide), fun t nt => ?_⟩
        have d := done (l := [x, y, -u, -v, p, r]) s06 nt (rfl)
        exact q t _ d.1 d.2.1 d.2.2
      · refine ⟨_, rfl, _, _, rfl, rfl, l, _, _, _, rfl, rfl, SqL.of gl, at_of (j := 2) (by decide) rfl, ?_⟩
        refine ⟨_, rfl, _, rfl, _, rfl, t3, _, 0, _, rfl, rfl, SqT.of g3, atI_nat (j := 0) rfl, _, rfl, t3, _, 1, _, rfl, rfl, SqT.of g3, atI_nat (j := 1) rfl, _, rfl, _, rfl, small100 (n := 6) (by decide), fun t nt => ?_⟩
        have d := done (l := [x, y, v, -u, p, r]) s06 nt (by show [x, y, v, -u, p, r] = [x, y, -(-v), -u, p, r]; rw [Int.neg_neg])
        exact q t _ d.1 d.2.1 d.2.2
    | mirror =>
      refine ⟨_, rfl, rfl, _, rfl, iteN (show ¬ V.str ("mirror" : Str) = V.str ("go" : Str) by decide) ?_⟩
      refine ⟨_, rfl, rfl, _, rfl, iteN (show ¬ V.str ("mirror" : Str) = V.str ("turn" : Str) by decide) ?_⟩
      refine ⟨_, rfl, rfl, _, rfl, iteP rfl ?_⟩
      refine ⟨_, rfl, _, rfl, _, rfl, _, rfl, _, rfl, _, rfl, _, rfl, small100 (n := 6) (by decide), fun t nt => ?_⟩
      have d := done (l := Cm.mv (.mirror) [x, y, u, v, p, r]) s02 nt (rfl)
      exact q t _ d.1 d.2.1 d.2.2
    | scale k =>
      have h1 := lim (i := 0) rfl rfl
      dsimp only at h1
      have ek : (Cm.scale k).k = k := rfl
      rw [ek] at *
      refine ⟨_, rfl, rfl, _, rfl, iteN (show ¬ V.str ("scale" : Str) = V.str ("go" : Str) by decide) ?_⟩
      refine ⟨_, rfl, rfl, _, rfl, iteN (show ¬ V.str ("scale" : Str) = V.str ("turn" : Str) by decide) ?_⟩
      refine ⟨_, rfl, rfl, _, rfl, iteN (show ¬ V.str ("scale" : Str) = V.str ("mirror" : Str) by decide) ?_⟩
      refine ⟨_, rfl, rfl, _, rfl, iteP rfl ?_⟩
      refine ⟨_, rfl, _, rfl, _, rfl, _, rfl, _, _, rfl, rfl, .inr ⟨by omega, by omega⟩, _, rfl, _, rfl, _, _, rfl, rfl, .inr ⟨by omega, by omega⟩, _, rfl, _, rfl, small100 (n := 6) (by decide), fun t nt => ?_⟩
      have d := done (l := [x, y, u * k, v * k, p, r]) s02 nt (by rw [Int.mul_comm u k, Int.mul_comm v k]; rfl)
      exact q t _ d.1 d.2.1 d.2.2
    | aim a1 a2 =>
      refine ⟨_, rfl, rfl, _, rfl, iteN (show ¬ V.str ("aim" : Str) = V.str ("go" : Str) by decide) ?_⟩
      refine ⟨_, rfl, rfl, _, rfl, iteN (show ¬ V.str ("aim" : Str) = V.str ("turn" : Str) by decide) ?_⟩
      refine ⟨_, rfl, rfl, _, rfl, iteN (show ¬ V.str ("aim" : Str) = V.str ("mirror" : Str) by decide) ?_⟩
      refine ⟨_, rfl, rfl, _, rfl, iteN (show ¬ V.str ("aim" : Str) = V.str ("scale" : Str) by decide) ?_⟩
      refine ⟨_, rfl, rfl, _, rfl, iteP rfl ?_⟩
      refine ⟨_, rfl, _, rfl, _, rfl, _, rfl, b, _, 2, _, rfl, rfl, SqT.of hb2, atI_nat (j := 2) rfl, _, rfl, _, rfl, small100 (n := 6) (by decide), fun t nt => ?_⟩
      have d := done (l := Cm.mv (.aim a1 a2) [x, y, u, v, p, r]) s02 nt (rfl)
      exact q t _ d.1 d.2.1 d.2.2
    | place a1 a2 =>
      refine ⟨_, rfl, rfl, _, rfl, iteN (show ¬ V.str ("place" : Str) = V.str ("go" : Str) by decide) ?_⟩
      refine ⟨_, rfl, rfl, _, rfl, iteN (show ¬ V.str ("place" : Str) = V.str ("turn" : Str) by decide) ?_⟩
      refine ⟨_, rfl, rfl, _, rfl, iteN (show ¬ V.str ("place" : Str) = V.str ("mirror" : Str) by decide) ?_⟩
      refine ⟨_, rfl, rfl, _, rfl, iteN (show ¬ V.str ("place" : Str) = V.str ("scale" : Str) by decide) ?_⟩
      refine ⟨_, rfl, rfl, _, rfl, iteN (show ¬ V.str ("place" : Str) = V.str ("aim" : Str) by decide) ?_⟩
      refine ⟨_, rfl, rfl, _, rfl, iteP rfl ?_⟩
      refine ⟨_, rfl, _, rfl, b, _, 2, _, rfl, rfl, SqT.of hb2, atI_nat (j := 2) rfl, _, rfl, _, rfl, _, rfl, _, rfl, small100 (n := 6) (by decide), fun t nt => ?_⟩
      have d := done (l := Cm.mv (.place a1 a2) [x, y, u, v, p, r]) s02 nt (rfl)
      exact q t _ d.1 d.2.1 d.2.2
    | mark =>
      refine ⟨_, rfl, rfl, _, rfl, iteN (show ¬ V.str ("mark" : Str) = V.str ("go" : Str) by decide) ?_⟩
      refine ⟨_, rfl, rfl, _, rfl, iteN (show ¬ V.str ("mark" : Str) = V.str ("turn" : Str) by decide) ?_⟩
      refine ⟨_, rfl, rfl, _, rfl, iteN (show ¬ V.str ("mark" : Str) = V.str ("mirror" : Str) by decide) ?_⟩
      refine ⟨_, rfl, rfl, _, rfl, iteN (show ¬ V.str ("mark" : Str) = V.str ("scale" : Str) by decide) ?_⟩
      refine ⟨_, rfl, rfl, _, rfl, iteN (show ¬ V.str ("mark" : Str) = V.str ("aim" : Str) by decide) ?_⟩
      refine ⟨_, rfl, rfl, _, rfl, iteN (show ¬ V.str ("mark" : Str) = V.str ("place" : Str) by decide) ?_⟩
      refine ⟨_, rfl, rfl, _, rfl, iteP rfl ?_⟩
      refine ⟨_, rfl, _, rfl, _, rfl, _, rfl, _, rfl, _, rfl, small100 (n := 6) (by decide), fun t nt => ?_⟩
      have d := done (l := Cm.mv (.mark) [x, y, u, v, p, r]) s02 nt (rfl)
      exact q t _ d.1 d.2.1 d.2.2
    | ret =>
      refine ⟨_, rfl, rfl, _, rfl, iteN (show ¬ V.str ("return" : Str) = V.str ("go" : Str) by decide) ?_⟩
      refine ⟨_, rfl, rfl, _, rfl, iteN (show ¬ V.str ("return" : Str) = V.str ("turn" : Str) by decide) ?_⟩
      refine ⟨_, rfl, rfl, _, rfl, iteN (show ¬ V.str ("return" : Str) = V.str ("mirror" : Str) by decide) ?_⟩
      refine ⟨_, rfl, rfl, _, rfl, iteN (show ¬ V.str ("return" : Str) = V.str ("scale" : Str) by decide) ?_⟩
      refine ⟨_, rfl, rfl, _, rfl, iteN (show ¬ V.str ("return" : Str) = V.str ("aim" : Str) by decide) ?_⟩
      refine ⟨_, rfl, rfl, _, rfl, iteN (show ¬ V.str ("return" : Str) = V.str ("place" : Str) by decide) ?_⟩
      refine ⟨_, rfl, rfl, _, rfl, iteN (show ¬ V.str ("return" : Str) = V.str ("mark" : Str) by decide) ?_⟩
      refine ⟨_, rfl, rfl, _, rfl, iteP rfl ?_⟩
      refine ⟨_, rfl, _, rfl, _, rfl, _, rfl, _, rfl, _, rfl, small100 (n := 6) (by decide), fun t nt => ?_⟩
      have d := done (l := Cm.mv (.ret) [x, y, u, v, p, r]) s02 nt (rfl)
      exact q t _ d.1 d.2.1 d.2.2
    | exch =>
      refine ⟨_, rfl, rfl, _, rfl, iteN (show ¬ V.str ("exchange" : Str) = V.str ("go" : Str) by decide) ?_⟩
      refine ⟨_, rfl, rfl, _, rfl, iteN (show ¬ V.str ("exchange" : Str) = V.str ("turn" : Str) by decide) ?_⟩
      refine ⟨_, rfl, rfl, _, rfl, iteN (show ¬ V.str ("exchange" : Str) = V.str ("mirror" : Str) by decide) ?_⟩
      refine ⟨_, rfl, rfl, _, rfl, iteN (show ¬ V.str ("exchange" : Str) = V.str ("scale" : Str) by decide) ?_⟩
      refine ⟨_, rfl, rfl, _, rfl, iteN (show ¬ V.str ("exchange" : Str) = V.str ("aim" : Str) by decide) ?_⟩
      refine ⟨_, rfl, rfl, _, rfl, iteN (show ¬ V.str ("exchange" : Str) = V.str ("place" : Str) by decide) ?_⟩
      refine ⟨_, rfl, rfl, _, rfl, iteN (show ¬ V.str ("exchange" : Str) = V.str ("mark" : Str) by decide) ?_⟩
      refine ⟨_, rfl, rfl, _, rfl, iteN (show ¬ V.str ("exchange" : Str) = V.str ("return" : Str) by decide) ?_⟩
      refine ⟨_, rfl, _, rfl, _, rfl, _, rfl, _, rfl, _, rfl, small100 (n := 6) (by decide), fun t nt => ?_⟩
      have d := done (l := Cm.mv (.exch) [x, y, u, v, p, r]) s02 nt (rfl)
      exact q t _ d.1 d.2.1 d.2.2

--SPLIT
theorem ok0 {c : Cm} (h : c.nums = []) : c.ok := fun i z l e => by
  rw [h] at e
  cases e
theorem ok1 {c : Cm} {z : Int} {l : Int × Int} (h : c.nums = [z]) (hl : c.lims = [l]) (h1 : l.1 ≤ z) (h2 : z ≤ l.2) : c.ok := fun i y k e f => by
  rw [h] at e
  rw [hl] at f
  match i, e, f with
  | 0, e, f =>
    cases e
    cases f
    exact ⟨h1, h2⟩
theorem ok2 {c : Cm} {z y : Int} {l : Int × Int} (h : c.nums = [z, y]) (hl : c.lims = [l, l]) (h1 : l.1 ≤ z) (h2 : z ≤ l.2) (h3 : l.1 ≤ y) (h4 : y ≤ l.2) : c.ok := fun i x k e f => by
  rw [h] at e
  rw [hl] at f
  match i, e, f with
  | 0, e, f =>
    cases e
    cases f
    exact ⟨h1, h2⟩
  | 1, e, f =>
    cases e
    cases f
    exact ⟨h3, h4⟩

def sp__law_command : Sp := fun vs H Q _ => ∃ (p : Addr) (L : Nat) (mood : Int), vs = [.ref p, .int mood] ∧ Pool H p L ∧ 2 ≤ L ∧ L ≤ 64 ∧ 0 ≤ mood ∧ mood < 8 ∧
  ∀ (q : Addr) (c : Cm) (H' : Hp), c.ok → Kp p H H' → Pool H' p L → H q = none → H' q = some (.tup c.vals) → Q (.ref q) H'
set_option maxHeartbeats 1000000 in
theorem ok__law_command (T : Top w K mg) : FnOk P w K mg base CX0 2 T.a__law_command T.d__law_command ["_law_pool_here", "_law_mood"] sp__law_command := by
  refine T.F__law_command.ok sc__law_command (fun vs H Q E h => ?_) (fun cdv A outer s H vs Q E hr h => ?_)
  · obtain ⟨p, L, mood, rfl, _⟩ := h
    rfl
  · obtain ⟨p, L, mood, rfl, pl, h2, h64, m0, m8, q⟩ := h
    refine ⟨_, (pss_cons (ps_set (i := 2) sc__law_command.nd rfl (Or.inl rfl) (pe_lst (pa_cons (pe_lst (pa_cons pe_int (pa_cons pe_int (pa_cons pe_int (pa_cons pe_int (pa_cons pe_int pa_nil)))))) (pa_cons (pe_lst (pa_cons pe_int (pa_cons pe_int (pa_cons pe_int (pa_cons pe_int (pa_cons pe_int pa_nil)))))) (pa_cons (pe_lst (pa_cons pe_int (pa_cons pe_int (pa_cons pe_int (pa_cons pe_int (pa_cons pe_int pa_nil)))))) (pa_cons (pe_lst (pa_cons pe_int (pa_cons pe_int (pa_cons pe_int (pa_cons pe_int (pa_cons pe_int pa_nil)))))) (pa_cons (pe_lst (pa_cons pe_int (pa_cons pe_int (pa_cons pe_int (pa_cons pe_int (pa_cons pe_int pa_nil)))))) pa_nil)))))))
      (pss_cons (ps_set (i := 2) sc__law_command.nd rfl (Or.inl rfl) (pe_op op_cat (pv 2) (pe_lst (pa_cons (pe_lst (pa_cons pe_int (pa_cons pe_int (pa_cons pe_int (pa_cons pe_int (pa_cons pe_int (pa_cons pe_int (pa_cons pe_int (pa_cons pe_int (pa_cons pe_int pa_nil)))))))))) (pa_cons (pe_lst (pa_cons pe_int (pa_cons pe_int (pa_cons pe_int (pa_cons pe_int (pa_cons pe_int pa_nil)))))) (pa_cons (pe_lst (pa_cons pe_int (pa_cons pe_int (pa_cons pe_int (pa_cons pe_int (pa_cons pe_int pa_nil)))))) pa_nil))))))
      (C8.pss_cut (ps_set (i := 3) sc__law_command.nd rfl (Or.inl rfl) (pe_ix (k_ixL K) (pv 2) (pv 1) (fun _ _ => rfl)))
      (pss_cons (ps_set (i := 4) sc__law_command.nd rfl (Or.inl rfl) (pe_ix (k_ixL K) (pv 3) (pe_call (ok__law_draw T) hr (by rfl) T.g__law_draw T.F__law_draw.kp (b__law_draw T) .nil pass0 (pa_cons (pv 0) (pa_cons (pe_callB (k_len K) (by rfl) T.z_len bt_len (pa_cons (pv 3) pa_nil)) pa_nil))) (fun _ _ => rfl)))
      (pss_cons (ps_if (pt_cmpR op_eq (pv 4) pe_int (nomark _)) (pss_cons (ps_set (i := 5) sc__law_command.nd rfl (Or.inl rfl) (pe_op op_sub (pe_call (ok__law_draw T) hr (by rfl) T.g__law_draw T.F__law_draw.kp (b__law_draw T) .nil pass0 (pa_cons (pv 0) (pa_cons pe_int pa_nil))) pe_int))
        (pss_one (ps_ret (pe_tup (pa_cons pe_str (pa_cons (pe_ix (k_ixL K) (pe_lst (pa_cons (pv 5) (pa_cons pe_int (pa_cons (pe_op op_sub (pe_op op_mod (pe_callTy call_intI (by rfl) T.z_int bt_int (pa_cons (pv 5) pa_nil)) pe_int) pe_int) (pa_cons pe_int pa_nil))))) (pe_call (ok__law_draw T) hr (by rfl) T.g__law_draw T.F__law_draw.kp (b__law_draw T) .nil pass0 (pa_cons (pv 0) (pa_cons pe_int pa_nil))) (fun _ _ => rfl)) pa_nil)))))) pss_nil)
      (pss_cons (ps_if (pt_cmpR op_eq (pv 4) pe_int (nomark _)) (pss_one (ps_ret (pe_tup (pa_cons pe_str (pa_cons (pe_op op_add pe_int (pe_call (ok__law_draw T) hr (by rfl) T.g__law_draw T.F__law_draw.kp (b__law_draw T) .nil pass0 (pa_cons (pv 0) (pa_cons pe_int pa_nil)))) pa_nil))))) pss_nil)
      (pss_cons (ps_if (pt_cmpR op_eq (pv 4) pe_int (nomark _)) (pss_one (ps_ret (pe_tup (pa_cons pe_str pa_nil)))) pss_nil)
      (pss_cons (ps_if (pt_cmpR op_eq (pv 4) pe_int (nomark _)) (pss_one (ps_ret (pe_tup (pa_cons pe_str (pa_cons (pe_ix (k_ixT K) (pe_tup (pa_cons (pe_un un_neg pe_int) (pa_cons (pe_un un_neg pe_int) (pa_cons (pe_un un_neg pe_int) (pa_cons pe_int (pa_cons pe_int (pa_cons pe_int (pa_cons pe_int (pa_cons (pe_un un_neg pe_int) pa_nil))))))))) (pe_call (ok__law_draw T) hr (by rfl) T.g__law_draw T.F__law_draw.kp (b__law_draw T) .nil pass0 (pa_cons (pv 0) (pa_cons pe_int pa_nil))) (fun _ _ => rfl)) pa_nil))))) pss_nil)
      (pss_cons (ps_if (pt_cmpR op_lt (pv 4) pe_int (nomark _)) (pss_one (ps_ret (pe_tup (pa_cons (pe_ix (k_ixT K) (pe_tup (pa_cons pe_str (pa_cons pe_str pa_nil))) (pe_op op_sub (pv 4) pe_int) (fun _ _ => rfl)) (pa_cons (pe_op op_sub (pe_call (ok__law_draw T) hr (by rfl) T.g__law_draw T.F__law_draw.kp (b__law_draw T) .nil pass0 (pa_cons (pv 0) (pa_cons pe_int pa_nil))) pe_int) (pa_cons (pe_op op_sub (pe_call (ok__law_draw T) hr (by rfl) T.g__law_draw T.F__law_draw.kp (b__law_draw T) .nil pass0 (pa_cons (pv 0) (pa_cons pe_int pa_nil))) pe_int) pa_nil)))))) pss_nil)
      (pss_one (ps_ret (pe_tup (pa_cons (pe_ix (k_ixT K) (pe_tup (pa_cons pe_str (pa_cons pe_str (pa_cons pe_str pa_nil)))) (pe_op op_sub (pv 4) pe_int) (fun _ _ => rfl)) pa_nil))))))))))))), ?_⟩
    refine ⟨small100 (n := 5) (by decide), fun a0 na0 => ?_⟩
    have sa0 : Same H (upd H a0 (.lst [V.int 0, V.int 0, V.int 0, V.int 1, V.int 1])) := same_upd na0
    have ha0 : (upd H a0 (.lst [V.int 0, V.int 0, V.int 0, V.int 1, V.int 1])) a0 = some (.lst [V.int 0, V.int 0, V.int 0, V.int 1, V.int 1]) := upd_same
    generalize upd H a0 (.lst [V.int 0, V.int 0, V.int 0, V.int 1, V.int 1]) = Ja0 at *
    have za0 : H a0 = none := na0
    have st := sa0
    refine ⟨small100 (n := 5) (by decide), fun a1 na1 => ?_⟩
    have sa1 : Same Ja0 (upd Ja0 a1 (.lst [V.int 0, V.int 0, V.int 2, V.int 3, V.int 1])) := same_upd na1
    have ha1 : (upd Ja0 a1 (.lst [V.int 0, V.int 0, V.int 2, V.int 3, V.int 1])) a1 = some (.lst [V.int 0, V.int 0, V.int 2, V.int 3, V.int 1]) := upd_same
    generalize upd Ja0 a1 (.lst [V.int 0, V.int 0, V.int 2, V.int 3, V.int 1]) = Ja1 at *
    have za1 : H a1 = none := st.free na1
    have ha0 := sa1 _ _ ha0
    have st := st.trans sa1
    refine ⟨small100 (n := 5) (by decide), fun a2 na2 => ?_⟩
    have sa2 : Same Ja1 (upd Ja1 a2 (.lst [V.int 0, V.int 6, V.int 7, V.int 8, V.int 8])) := same_upd na2
    have ha2 : (upd Ja1 a2 (.lst [V.int 0, V.int 6, V.int 7, V.int 8, V.int 8])) a2 = some (.lst [V.int 0, V.int 6, V.int 7, V.int 8, V.int 8]) := upd_same
    generalize upd Ja1 a2 (.lst [V.int 0, V.int 6, V.int 7, V.int 8, V.int 8]) = Ja2 at *
    have za2 : H a2 = none := st.free na2
    have ha0 := sa2 _ _ ha0
    have ha1 := sa2 _ _ ha1
    have st := st.trans sa2
    refine ⟨small100 (n := 5) (by decide), fun a3 na3 => ?_⟩
    have sa3 : Same Ja2 (upd Ja2 a3 (.lst [V.int 0, V.int 4, V.int 5, V.int 6, V.int 7])) := same_upd na3
    have ha3 : (upd Ja2 a3 (.lst [V.int 0, V.int 4, V.int 5, V.int 6, V.int 7])) a3 = some (.lst [V.int 0, V.int 4, V.int 5, V.int 6, V.int 7]) := upd_same
    generalize upd Ja2 a3 (.lst [V.int 0, V.int 4, V.int 5, V.int 6, V.int 7]) = Ja3 at *
    have za3 : H a3 = none := st.free na3
    have ha0 := sa3 _ _ ha0
    have ha1 := sa3 _ _ ha1
    have ha2 := sa3 _ _ ha2
    have st := st.trans sa3
    refine ⟨small100 (n := 5) (by decide), fun a4 na4 => ?_⟩
    have sa4 : Same Ja3 (upd Ja3 a4 (.lst [V.int 0, V.int 1, V.int 3, V.int 6, V.int 8])) := same_upd na4
    have ha4 : (upd Ja3 a4 (.lst [V.int 0, V.int 1, V.int 3, V.int 6, V.int 8])) a4 = some (.lst [V.int 0, V.int 1, V.int 3, V.int 6, V.int 8]) := upd_same
    generalize upd Ja3 a4 (.lst [V.int 0, V.int 1, V.int 3, V.int 6, V.int 8]) = Ja4 at *
    have za4 : H a4 = none := st.free na4
    have ha0 := sa4 _ _ ha0
    have ha1 := sa4 _ _ ha1
    have ha2 := sa4 _ _ ha2
    have ha3 := sa4 _ _ ha3
    have st := st.trans sa4
    refine ⟨small100 (n := 5) (by decide), fun b0 nb0 => ?_⟩
    have sb0 : Same Ja4 (upd Ja4 b0 (.lst [V.ref a0, V.ref a1, V.ref a2, V.ref a3, V.ref a4])) := same_upd nb0
    have hb0 : (upd Ja4 b0 (.lst [V.ref a0, V.ref a1, V.ref a2, V.ref a3, V.ref a4])) b0 = some (.lst [V.ref a0, V.ref a1, V.ref a2, V.ref a3, V.ref a4]) := upd_same
    generalize upd Ja4 b0 (.lst [V.ref a0, V.ref a1, V.ref a2, V.ref a3, V.ref a4]) = Jb0 at *
    have zb0 : H b0 = none := st.free nb0
    have ha0 := sb0 _ _ ha0
    have ha1 := sb0 _ _ ha1
    have ha2 := sb0 _ _ ha2
    have ha3 := sb0 _ _ ha3
    have ha4 := sb0 _ _ ha4
    have st := st.trans sb0
    refine ⟨_, rfl, ?_⟩
    refine ⟨small100 (n := 9) (by decide), fun a5 na5 => ?_⟩
    have sa5 : Same Jb0 (upd Jb0 a5 (.lst [V.int 0, V.int 1, V.int 2, V.int 3, V.int 4, V.int 5, V.int 6, V.int 7, V.int 8])) := same_upd na5
    have ha5 : (upd Jb0 a5 (.lst [V.int 0, V.int 1, V.int 2, V.int 3, V.int 4, V.int 5, V.int 6, V.int 7, V.int 8])) a5 = some (.lst [V.int 0, V.int 1, V.int 2, V.int 3, V.int 4, V.int 5, V.int 6, V.int 7, V.int 8]) := upd_same
    generalize upd Jb0 a5 (.lst [V.int 0, V.int 1, V.int 2, V.int 3, V.int 4, V.int 5, V.int 6, V.int 7, V.int 8]) = Ja5 at *
    have za5 : H a5 = none := st.free na5
    have ha0 := sa5 _ _ ha0
    have ha1 := sa5 _ _ ha1
    have ha2 := sa5 _ _ ha2
    have ha3 := sa5 _ _ ha3
    have ha4 := sa5 _ _ ha4
    have hb0 := sa5 _ _ hb0
    have st := st.trans sa5
    refine ⟨small100 (n := 5) (by decide), fun a6 na6 => ?_⟩
    have sa6 : Same Ja5 (upd Ja5 a6 (.lst [V.int 1, V.int 1, V.int 2, V.int 3, V.int 4])) := same_upd na6
    have ha6 : (upd Ja5 a6 (.lst [V.int 1, V.int 1, V.int 2, V.int 3, V.int 4])) a6 = some (.lst [V.int 1, V.int 1, V.int 2, V.int 3, V.int 4]) := upd_same
    generalize upd Ja5 a6 (.lst [V.int 1, V.int 1, V.int 2, V.int 3, V.int 4]) = Ja6 at *
    have za6 : H a6 = none := st.free na6
    have ha0 := sa6 _ _ ha0
    have ha1 := sa6 _ _ ha1
    have ha2 := sa6 _ _ ha2
    have ha3 := sa6 _ _ ha3
    have ha4 := sa6 _ _ ha4
    have hb0 := sa6 _ _ hb0
    have ha5 := sa6 _ _ ha5
    have st := st.trans sa6
    refine ⟨small100 (n := 5) (by decide), fun a7 na7 => ?_⟩
    have sa7 : Same Ja6 (upd Ja6 a7 (.lst [V.int 5, V.int 6, V.int 7, V.int 8, V.int 8])) := same_upd na7
    have ha7 : (upd Ja6 a7 (.lst [V.int 5, V.int 6, V.int 7, V.int 8, V.int 8])) a7 = some (.lst [V.int 5, V.int 6, V.int 7, V.int 8, V.int 8]) := upd_same
    generalize upd Ja6 a7 (.lst [V.int 5, V.int 6, V.int 7, V.int 8, V.int 8]) = Ja7 at *
    have za7 : H a7 = none := st.free na7
    have ha0 := sa7 _ _ ha0
    have ha1 := sa7 _ _ ha1
    have ha2 := sa7 _ _ ha2
    have ha3 := sa7 _ _ ha3
    have ha4 := sa7 _ _ ha4
    have hb0 := sa7 _ _ hb0
    have ha5 := sa7 _ _ ha5
    have ha6 := sa7 _ _ ha6
    have st := st.trans sa7
    refine ⟨small100 (n := 3) (by decide), fun b1 nb1 => ?_⟩
    have sb1 : Same Ja7 (upd Ja7 b1 (.lst [V.ref a5, V.ref a6, V.ref a7])) := same_upd nb1
    have hb1 : (upd Ja7 b1 (.lst [V.ref a5, V.ref a6, V.ref a7])) b1 = some (.lst [V.ref a5, V.ref a6, V.ref a7]) := upd_same
    generalize upd Ja7 b1 (.lst [V.ref a5, V.ref a6, V.ref a7]) = Jb1 at *
    have zb1 : H b1 = none := st.free nb1
    have ha0 := sb1 _ _ ha0
    have ha1 := sb1 _ _ ha1
    have ha2 := sb1 _ _ ha2
    have ha3 := sb1 _ _ ha3
    have ha4 := sb1 _ _ ha4
    have hb0 := sb1 _ _ hb0
    have ha5 := sb1 _ _ ha5
    have ha6 := sb1 _ _ ha6
    have ha7 := sb1 _ _ ha7
    have st := st.trans sb1
    refine ⟨b0, b1, _, _, rfl, rfl, hb0, hb1, small100 (n := 8) (by decide), fun d nd => ?_⟩
    have sd : Same Jb1 (upd Jb1 d (.lst [V.ref a0, V.ref a1, V.ref a2, V.ref a3, V.ref a4, V.ref a5, V.ref a6, V.ref a7])) := same_upd nd
    have hd : (upd Jb1 d (.lst [V.ref a0, V.ref a1, V.ref a2, V.ref a3, V.ref a4, V.ref a5, V.ref a6, V.ref a7])) d = some (.lst [V.ref a0, V.ref a1, V.ref a2, V.ref a3, V.ref a4, V.ref a5, V.ref a6, V.ref a7]) := upd_same
    refine ⟨fun σ J => ∃ (m : Addr) (ks : List Int), σ = [some (.ref p), some (.int mood), some (.ref d), some (.ref m), none, none] ∧ Same H J ∧ H m = none ∧ J m = some (.lst (ks.map V.int)) ∧ ks ≠ [] ∧ ks.length ≤ 9 ∧ ∀ k ∈ ks, 0 ≤ k ∧ k ≤ 8, ?_, fun σ J h => ?_⟩
    · rcases (show mood = 0 ∨ mood = 1 ∨ mood = 2 ∨ mood = 3 ∨ mood = 4 ∨ mood = 5 ∨ mood = 6 ∨ mood = 7 by omega) with rfl | rfl | rfl | rfl | rfl | rfl | rfl | rfl
      · exact ⟨_, rfl, _, rfl, d, _, _, _, rfl, rfl, SqL.of hd, at_of (j := 0) (by decide) rfl, a0, [0, 0, 0, 1, 1], rfl, st.trans sd, za0, sd _ _ ha0, by decide, by decide, by decide⟩
      · exact ⟨_, rfl, _, rfl, d, _, _, _, rfl, rfl, SqL.of hd, at_of (j := 1) (by decide) rfl, a1, [0, 0, 2, 3, 1], rfl, st.trans sd, za1, sd _ _ ha1, by decide, by decide, by decide⟩
      · exact ⟨_, rfl, _, rfl, d, _, _, _, rfl, rfl, SqL.of hd, at_of (j := 2) (by decide) rfl, a2, [0, 6, 7, 8, 8], rfl, st.trans sd, za2, sd _ _ ha2, by decide, by decide, by decide⟩
      · exact ⟨_, rfl, _, rfl, d, _, _, _, rfl, rfl, SqL.of hd, at_of (j := 3) (by decide) rfl, a3, [0, 4, 5, 6, 7], rfl, st.trans sd, za3, sd _ _ ha3, by decide, by decide, by decide⟩
      · exact ⟨_, rfl, _, rfl, d, _, _, _, rfl, rfl, SqL.of hd, at_of (j := 4) (by decide) rfl, a4, [0, 1, 3, 6, 8], rfl, st.trans sd, za4, sd _ _ ha4, by decide, by decide, by decide⟩
      · exact ⟨_, rfl, _, rfl, d, _, _, _, rfl, rfl, SqL.of hd, at_of (j := 5) (by decide) rfl, a5, [0, 1, 2, 3, 4, 5, 6, 7, 8], rfl, st.trans sd, za5, sd _ _ ha5, by decide, by decide, by decide⟩
      · exact ⟨_, rfl, _, rfl, d, _, _, _, rfl, rfl, SqL.of hd, at_of (j := 6) (by decide) rfl, a6, [1, 1, 2, 3, 4], rfl, st.trans sd, za6, sd _ _ ha6, by decide, by decide, by decide⟩
      · exact ⟨_, rfl, _, rfl, d, _, _, _, rfl, rfl, SqL.of hd, at_of (j := 7) (by decide) rfl, a7, [5, 6, 7, 8, 8], rfl, st.trans sd, za7, sd _ _ ha7, by decide, by decide, by decide⟩
    obtain ⟨m, ks, rfl, st, zm, hm, kn, kl, kb⟩ := h
    have plJ : Pool J p L := by
      obtain ⟨ns, hp, e⟩ := pl
      exact ⟨ns, st _ _ hp, e⟩
    have kl0 : 0 < ks.length := List.length_pos_iff.mpr kn
    refine ⟨_, rfl, _, rfl, _, rfl, m, _, rfl, .inl (SqL.of hm), p, L, _, rfl, plJ, h2, h64, by rw [len_map]; omega, by rw [len_map]; omega, fun i H1 i0 i1 e1 pl1 => ?_⟩
    rw [len_map] at i1
    have k1 : Kp p H H1 := fun b o nb e => e1 b o nb (st b o e)
    have hmp : m ≠ p := by
      intro e
      obtain ⟨ns, hp, e'⟩ := pl
      rw [e, hp] at zm
      cases zm
    have hm1 := e1 _ _ hmp hm
    obtain ⟨k, gk, ak⟩ := at_map (ns := ks) (i := i) i0 (by omega)
    have kb := kb k (List.mem_of_getElem? gk)
    have kk := k1
    refine ⟨m, _, i, _, rfl, rfl, SqL.of hm1, ak, ?_⟩
    have fin : ∀ {c : Cm} {t : Addr} {J : Hp}, c.ok → Kp p H J → Pool J p L → J t = none → Q (.ref t) (upd J t (.tup c.vals)) := fun ok kp pl nt =>
      q _ _ _ ok (kp.new (kp.none nt (pl.ne nt))) (pl.new nt) (kp.none nt (pl.ne nt)) upd_same
    clear hm1 hm zm
    generalize some (V.ref d) = sd
    generalize some (V.ref m) = sm
    refine ⟨_, rfl, rfl, _, rfl, ite2 (fun _ => ?_) (fun n0 => ?_)⟩
    · refine ⟨_, rfl, p, L, 19, rfl, pl1, h2, h64, by decide, by decide, fun r H2 r0 r1 e2 pl2 => ?_⟩
      refine ⟨_, _, rfl, rfl, _, rfl, _, rfl, _, rfl, _, _, rfl, rfl, (show (0 : Int) < 3 by decide), _, _, rfl, rfl, small100 (n := 4) (by decide), fun m' nm' => ?_⟩
      have nmp := pl2.ne nm'
      have em : Kp p H (upd H2 m' (.lst [.int (r - 9), .int 2, .int ((r - 9) % 3 - 1), .int 1])) := (k1.trans e2).new ((k1.trans e2).none nm' nmp)
      have plm : Pool (upd H2 m' (.lst [.int (r - 9), .int 2, .int ((r - 9) % 3 - 1), .int 1])) p L := pl2.new nm'
      have hm : (upd H2 m' (.lst [.int (r - 9), .int 2, .int ((r - 9) % 3 - 1), .int 1])) m' = some (.lst (([r - 9, 2, (r - 9) % 3 - 1, 1] : List Int).map V.int)) := upd_same
      generalize upd H2 m' (.lst [.int (r - 9), .int 2, .int ((r - 9) % 3 - 1), .int 1]) = J1 at *
      refine ⟨_, rfl, p, L, 4, rfl, plm, h2, h64, by decide, by decide, fun i' H3 i0' i1' e3 pl3 => ?_⟩
      obtain ⟨z, gz, az⟩ := at_map (ns := [r - 9, 2, (r - 9) % 3 - 1, 1]) (i := i') i0' i1'
      have zb : (-9 : Int) ≤ z ∧ z ≤ 9 := by
        have := List.mem_of_getElem? gz
        simp only [List.mem_cons, List.not_mem_nil, or_false] at this
        omega
      refine ⟨m', _, i', _, rfl, rfl, SqL.of (e3 _ _ nmp hm), az, small100 (n := 2) (by decide), fun t nt => ?_⟩
      exact fin (c := .go z) (ok1 rfl rfl zb.1 zb.2) (em.trans e3) pl3 nt
    refine ⟨_, rfl, rfl, _, rfl, ite2 (fun _ => ?_) (fun n1 => ?_)⟩
    · refine ⟨_, rfl, p, L, 3, rfl, pl1, h2, h64, by decide, by decide, fun r H2 r0 r1 e2 pl2 => ?_⟩
      refine ⟨_, _, rfl, rfl, small100 (n := 2) (by decide), fun t nt => ?_⟩
      exact fin (c := .turn (1 + r)) (ok1 rfl rfl (by show (1 : Int) ≤ 1 + r; omega) (by show 1 + r ≤ (3 : Int); omega)) (k1.trans e2) pl2 nt
    refine ⟨_, rfl, rfl, _, rfl, ite2 (fun _ => ?_) (fun n2 => ?_)⟩
    · exact ⟨small100 (n := 1) (by decide), fun t nt => fin (c := .mirror) (ok0 rfl) k1 pl1 nt⟩
    refine ⟨_, rfl, rfl, _, rfl, ite2 (fun _ => ?_) (fun n3 => ?_)⟩
    · refine ⟨_, rfl, _, rfl, _, rfl, _, rfl, small100 (n := 8) (by decide), fun m' nm' => ?_⟩
      have nmp := pl1.ne nm'
      have hm : (upd H1 m' (.tup (([-1, -1, -1, 1, 1, 0, 2, -3] : List Int).map V.int))) m' = some (.tup (([-1, -1, -1, 1, 1, 0, 2, -3] : List Int).map V.int)) := upd_same
      have em : Kp p H (upd H1 m' (.tup (([-1, -1, -1, 1, 1, 0, 2, -3] : List Int).map V.int))) := k1.new (k1.none nm' nmp)
      have plm : Pool (upd H1 m' (.tup (([-1, -1, -1, 1, 1, 0, 2, -3] : List Int).map V.int))) p L := pl1.new nm'
      refine ⟨_, rfl, p, L, 8, rfl, plm, h2, h64, by decide, by decide, fun i' H3 i0' i1' e3 pl3 => ?_⟩
      obtain ⟨z, gz, az⟩ := at_map (ns := [-1, -1, -1, 1, 1, 0, 2, -3]) (i := i') i0' i1'
      have zb : (-3 : Int) ≤ z ∧ z ≤ 3 := by
        have := List.mem_of_getElem? gz
        simp only [List.mem_cons, List.not_mem_nil, or_false] at this
        omega
      refine ⟨m', _, i', _, rfl, rfl, SqT.of (e3 _ _ nmp hm), az, small100 (n := 2) (by decide), fun t nt => ?_⟩
      exact fin (c := .scale z) (ok1 rfl rfl zb.1 zb.2) (em.trans e3) pl3 nt
    have n0 := dec_int n0
    have n1 := dec_int n1
    have n2 := dec_int n2
    have n3 := dec_int n3
    refine ⟨_, rfl, _, _, rfl, rfl, _, rfl, ite2 (fun h5 => ?_) (fun h5 => ?_)⟩
    · have h5 := of_decide_eq_true h5
      refine ⟨small100 (n := 2) (by decide), fun m' nm => ?_⟩
      have nmp := pl1.ne nm
      have em : Kp p H (upd H1 m' (.tup [.str "aim", .str "place"])) := k1.new (k1.none nm nmp)
      have plm : Pool (upd H1 m' (.tup [.str "aim", .str "place"])) p L := pl1.new nm
      have hm : (upd H1 m' (.tup [.str "aim", .str "place"])) m' = some (.tup [.str "aim", .str "place"]) := upd_same
      generalize upd H1 m' (.tup [.str "aim", .str "place"]) = J at *
      rcases (show k = 4 ∨ k = 5 by omega) with rfl | rfl
      · refine ⟨_, rfl, _, _, rfl, rfl, m', _, _, _, rfl, rfl, SqT.of hm, at_of (j := 0) (by decide) rfl, ?_⟩
        refine ⟨_, rfl, p, L, 19, rfl, plm, h2, h64, by decide, by decide, fun r H2 r0 r1 e2 pl2 => ?_⟩
        refine ⟨_, _, rfl, rfl, _, rfl, p, L, 19, rfl, pl2, h2, h64, by decide, by decide, fun r' H3 r0' r1' e3 pl3 => ?_⟩
        refine ⟨_, _, rfl, rfl, small100 (n := 3) (by decide), fun t nt => ?_⟩
        exact fin (c := .aim (r - 9) (r' - 9)) (ok2 (l := (-9, 9)) rfl rfl (by show (-9 : Int) ≤ r - 9; omega) (by show r - 9 ≤ (9 : Int); omega) (by show (-9 : Int) ≤ r' - 9; omega) (by show r' - 9 ≤ (9 : Int); omega)) (em.trans (e2.trans e3)) pl3 nt
      · refine ⟨_, rfl, _, _, rfl, rfl, m', _, _, _, rfl, rfl, SqT.of hm, at_of (j := 1) (by decide) rfl, ?_⟩
        refine ⟨_, rfl, p, L, 19, rfl, plm, h2, h64, by decide, by decide, fun r H2 r0 r1 e2 pl2 => ?_⟩
        refine ⟨_, _, rfl, rfl, _, rfl, p, L, 19, rfl, pl2, h2, h64, by decide, by decide, fun r' H3 r0' r1' e3 pl3 => ?_⟩
        refine ⟨_, _, rfl, rfl, small100 (n := 3) (by decide), fun t nt => ?_⟩
        exact fin (c := .place (r - 9) (r' - 9)) (ok2 (l := (-9, 9)) rfl rfl (by show (-9 : Int) ≤ r - 9; omega) (by show r - 9 ≤ (9 : Int); omega) (by show (-9 : Int) ≤ r' - 9; omega) (by show r' - 9 ≤ (9 : Int); omega)) (em.trans (e2.trans e3)) pl3 nt
    · have h5 : ¬ k < 6 := fun h => h5 (decide_eq_true h)
      refine ⟨small100 (n := 3) (by decide), fun m' nm => ?_⟩
      have nmp := pl1.ne nm
      have em : Kp p H (upd H1 m' (.tup [.str "mark", .str "return", .str "exchange"])) := k1.new (k1.none nm nmp)
      have plm : Pool (upd H1 m' (.tup [.str "mark", .str "return", .str "exchange"])) p L := pl1.new nm
      have hm : (upd H1 m' (.tup [.str "mark", .str "return", .str "exchange"])) m' = some (.tup [.str "mark", .str "return", .str "exchange"]) := upd_same
      generalize upd H1 m' (.tup [.str "mark", .str "return", .str "exchange"]) = J at *
      rcases (show k = 6 ∨ k = 7 ∨ k = 8 by omega) with rfl | rfl | rfl
      · refine ⟨_, rfl, _, _, rfl, rfl, m', _, _, _, rfl, rfl, SqT.of hm, at_of (j := 0) (by decide) rfl, small100 (n := 1) (by decide), fun t nt => ?_⟩
        exact fin (c := .mark) (ok0 rfl) em plm nt
      · refine ⟨_, rfl, _, _, rfl, rfl, m', _, _, _, rfl, rfl, SqT.of hm, at_of (j := 1) (by decide) rfl, small100 (n := 1) (by decide), fun t nt => ?_⟩
        exact fin (c := .ret) (ok0 rfl) em plm nt
      · refine ⟨_, rfl, _, _, rfl, rfl, m', _, _, _, rfl, rfl, SqT.of hm, at_of (j := 2) (by decide) rfl, small100 (n := 1) (by decide), fun t nt => ?_⟩
        exact fin (c := .exch) (ok0 rfl) em plm nt

--SPLIT
def sp__law_pair : Sp := fun vs H Q _ => ∃ (p : Addr) (L : Nat) (mood : Int), vs = [.ref p, .int mood] ∧ Pool H p L ∧ 2 ≤ L ∧ L ≤ 64 ∧
  ∀ (q : Addr) (c e : Cm) (H' : Hp), c.ok → e.ok → Kp p H H' → Pool H' p L → Tr (New H) H' (.list [c.d, e.d]) (.ref q) → Q (.ref q) H'
theorem ok__law_pair (T : Top w K mg) : FnOk P w K mg base CX0 2 T.a__law_pair T.d__law_pair ["_law_pool_here", "_law_mood"] sp__law_pair := by
  refine T.F__law_pair.ok sc__law_pair (fun vs H Q E h => ?_) (fun cdv A outer s H vs Q E hr h => ?_)
  · obtain ⟨p, L, mood, rfl, _⟩ := h
    rfl
  · obtain ⟨p, L, mood, rfl, pl, h2, h64, q⟩ := h
    refine ⟨_, (pss_cons (ps_set (i := 2) sc__law_pair.nd rfl (Or.inl rfl) (pe_op op_add pe_int (pe_call (ok__law_draw T) hr (by rfl) T.g__law_draw T.F__law_draw.kp (b__law_draw T) .nil pass0 (pa_cons (pv 0) (pa_cons pe_int pa_nil)))))
      (pss_cons (ps_set (i := 3) sc__law_pair.nd rfl (Or.inl rfl) (pe_call (ok__law_draw T) hr (by rfl) T.g__law_draw T.F__law_draw.kp (b__law_draw T) .nil pass0 (pa_cons (pv 0) (pa_cons pe_int pa_nil))))
      (C8.pss_cut (ps_if (pt_cmpR op_eq (pv 1) pe_int (nomark _)) (pss_one (ps_set (i := 3) sc__law_pair.nd rfl (Or.inl rfl) (pe_op op_add pe_int (pe_op op_mod (pv 3) pe_int)))) pss_nil)
      (C8.pss_cut (ps_if (pt_cmpR op_eq (pv 1) pe_int (nomark _)) (pss_one (ps_set (i := 3) sc__law_pair.nd rfl (Or.inl rfl) pe_int)) pss_nil)
      (pss_cons (ps_set (i := 4) sc__law_pair.nd rfl (Or.inl rfl) (pe_lst (pa_cons (pe_lst (pa_cons (pe_tup (pa_cons pe_str (pa_cons (pv 2) pa_nil))) (pa_cons (pe_tup (pa_cons pe_str (pa_cons (pe_un un_neg (pv 2)) pa_nil))) pa_nil))) (pa_cons (pe_lst (pa_cons (pe_tup (pa_cons pe_str (pa_cons (pv 2) pa_nil))) (pa_cons (pe_tup (pa_cons pe_str (pa_cons (pe_op op_sub pe_int (pv 2)) pa_nil))) pa_nil))) (pa_cons (pe_lst (pa_cons (pe_tup (pa_cons pe_str pa_nil)) (pa_cons (pe_tup (pa_cons pe_str pa_nil)) pa_nil))) pa_nil)))))
      (pss_one (ps_ret (pe_ix (k_ixL K) (pe_op op_cat (pv 4) (pe_lst (pa_cons (pe_lst (pa_cons (pe_tup (pa_cons pe_str pa_nil)) (pa_cons (pe_tup (pa_cons pe_str pa_nil)) pa_nil))) pa_nil))) (pv 3) (fun _ _ => rfl))))))))), ?_⟩
    refine ⟨_, rfl, p, L, 3, rfl, pl, h2, h64, by decide, by decide, fun k' H1 k0 k1 e1 pl1 => ?_⟩
    refine ⟨_, _, rfl, rfl, ?_⟩
    have b0 : (1 : Int) ≤ 1 + k' := by omega
    have b1 : 1 + k' ≤ (3 : Int) := by omega
    dsimp only
    generalize 1 + k' = k at *
    refine ⟨_, rfl, p, L, 4, rfl, pl1, h2, h64, by decide, by decide, fun d H2 d0 d1 e2 pl2 => ?_⟩
    have e02 := e1.trans e2
    refine ⟨fun σ J => J = H2 ∧ ∃ z : Int, 0 ≤ z ∧ z < 4 ∧ σ = [some (.ref p), some (.int mood), some (.int k), some (.int z), none], ?_, fun σ J hm => ?_⟩
    · refine ⟨_, rfl, rfl, _, rfl, ite2 (fun _ => ?_) (fun _ => ⟨rfl, d, d0, d1, rfl⟩)⟩
      exact ⟨_, rfl, _, _, rfl, rfl, (show (0 : Int) < 2 by decide), _, _, rfl, rfl, rfl, _, by omega, by omega, rfl⟩
    obtain ⟨rfl, z, z0, z1, rfl⟩ := hm
    refine ⟨fun σ J' => J' = J ∧ ∃ z : Int, 0 ≤ z ∧ z < 4 ∧ σ = [some (.ref p), some (.int mood), some (.int k), some (.int z), none], ?_, fun σ J' hm => ?_⟩
    · exact ⟨_, rfl, rfl, _, rfl, ite2 (fun _ => ⟨rfl, _, by decide, by decide, rfl⟩) (fun _ => ⟨rfl, z, z0, z1, rfl⟩)⟩
    obtain ⟨rfl, z, z0, z1, rfl⟩ := hm
    have np : ∀ b, H b = none → b ≠ p := fun b hb e => by
      obtain ⟨ns, hp, _⟩ := pl
      rw [e, hp] at hb
      cases hb
    refine ⟨_, rfl, small100 (n := 2) (by decide), fun t1 nt1 => ?_⟩
    have st1 : Same J' (upd J' t1 (.tup [V.str "go", V.int k])) := same_upd nt1
    have ht1 : (upd J' t1 (.tup [V.str "go", V.int k])) t1 = some (.tup [V.str "go", V.int k]) := upd_same
    generalize upd J' t1 (.tup [V.str "go", V.int k]) = Jt1 at *
    have zt1 : H t1 = none := e02.none nt1 (pl2.ne nt1)
    have st := st1
    have plx : Pool Jt1 p L := by
      obtain ⟨ns, hp, e⟩ := pl2
      exact ⟨ns, st _ _ hp, e⟩
    refine ⟨_, rfl, _, rfl, small100 (n := 2) (by decide), fun t2 nt2 => ?_⟩
    have st2 : Same Jt1 (upd Jt1 t2 (.tup [V.str "go", V.int (-k)])) := same_upd nt2
    have ht2 : (upd Jt1 t2 (.tup [V.str "go", V.int (-k)])) t2 = some (.tup [V.str "go", V.int (-k)]) := upd_same
    generalize upd Jt1 t2 (.tup [V.str "go", V.int (-k)]) = Jt2 at *
    have zt2 : H t2 = none := (e02.trans (Kp.of st)).none nt2 (plx.ne nt2)
    have st := st.trans st2
    have plx : Pool Jt2 p L := by
      obtain ⟨ns, hp, e⟩ := pl2
      exact ⟨ns, st _ _ hp, e⟩
    have ht1 := st2 _ _ ht1
    refine ⟨small100 (n := 2) (by decide), fun l1 nl1 => ?_⟩
    have sl1 : Same Jt2 (upd Jt2 l1 (.lst [V.ref t1, V.ref t2])) := same_upd nl1
    have hl1 : (upd Jt2 l1 (.lst [V.ref t1, V.ref t2])) l1 = some (.lst [V.ref t1, V.ref t2]) := upd_same
    generalize upd Jt2 l1 (.lst [V.ref t1, V.ref t2]) = Jl1 at *
    have zl1 : H l1 = none := (e02.trans (Kp.of st)).none nl1 (plx.ne nl1)
    have st := st.trans sl1
    have plx : Pool Jl1 p L := by
      obtain ⟨ns, hp, e⟩ := pl2
      exact ⟨ns, st _ _ hp, e⟩
    have ht1 := sl1 _ _ ht1
    have ht2 := sl1 _ _ ht2
    refine ⟨_, rfl, small100 (n := 2) (by decide), fun t3 nt3 => ?_⟩
    have st3 : Same Jl1 (upd Jl1 t3 (.tup [V.str "turn", V.int k])) := same_upd nt3
    have ht3 : (upd Jl1 t3 (.tup [V.str "turn", V.int k])) t3 = some (.tup [V.str "turn", V.int k]) := upd_same
    generalize upd Jl1 t3 (.tup [V.str "turn", V.int k]) = Jt3 at *
    have zt3 : H t3 = none := (e02.trans (Kp.of st)).none nt3 (plx.ne nt3)
    have st := st.trans st3
    have plx : Pool Jt3 p L := by
      obtain ⟨ns, hp, e⟩ := pl2
      exact ⟨ns, st _ _ hp, e⟩
    have ht1 := st3 _ _ ht1
    have ht2 := st3 _ _ ht2
    have hl1 := st3 _ _ hl1
    refine ⟨_, rfl, _, _, rfl, rfl, small100 (n := 2) (by decide), fun t4 nt4 => ?_⟩
    have st4 : Same Jt3 (upd Jt3 t4 (.tup [V.str "turn", V.int (4 - k)])) := same_upd nt4
    have ht4 : (upd Jt3 t4 (.tup [V.str "turn", V.int (4 - k)])) t4 = some (.tup [V.str "turn", V.int (4 - k)]) := upd_same
    generalize upd Jt3 t4 (.tup [V.str "turn", V.int (4 - k)]) = Jt4 at *
    have zt4 : H t4 = none := (e02.trans (Kp.of st)).none nt4 (plx.ne nt4)
    have st := st.trans st4
    have plx : Pool Jt4 p L := by
      obtain ⟨ns, hp, e⟩ := pl2
      exact ⟨ns, st _ _ hp, e⟩
    have ht1 := st4 _ _ ht1
    have ht2 := st4 _ _ ht2
    have hl1 := st4 _ _ hl1
    have ht3 := st4 _ _ ht3
    refine ⟨small100 (n := 2) (by decide), fun l2 nl2 => ?_⟩
    have sl2 : Same Jt4 (upd Jt4 l2 (.lst [V.ref t3, V.ref t4])) := same_upd nl2
    have hl2 : (upd Jt4 l2 (.lst [V.ref t3, V.ref t4])) l2 = some (.lst [V.ref t3, V.ref t4]) := upd_same
    generalize upd Jt4 l2 (.lst [V.ref t3, V.ref t4]) = Jl2 at *
    have zl2 : H l2 = none := (e02.trans (Kp.of st)).none nl2 (plx.ne nl2)
    have st := st.trans sl2
    have plx : Pool Jl2 p L := by
      obtain ⟨ns, hp, e⟩ := pl2
      exact ⟨ns, st _ _ hp, e⟩
    have ht1 := sl2 _ _ ht1
    have ht2 := sl2 _ _ ht2
    have hl1 := sl2 _ _ hl1
    have ht3 := sl2 _ _ ht3
    have ht4 := sl2 _ _ ht4
    refine ⟨small100 (n := 1) (by decide), fun t5 nt5 => ?_⟩
    have st5 : Same Jl2 (upd Jl2 t5 (.tup [V.str "mirror"])) := same_upd nt5
    have ht5 : (upd Jl2 t5 (.tup [V.str "mirror"])) t5 = some (.tup [V.str "mirror"]) := upd_same
    generalize upd Jl2 t5 (.tup [V.str "mirror"]) = Jt5 at *
    have zt5 : H t5 = none := (e02.trans (Kp.of st)).none nt5 (plx.ne nt5)
    have st := st.trans st5
    have plx : Pool Jt5 p L := by
      obtain ⟨ns, hp, e⟩ := pl2
      exact ⟨ns, st _ _ hp, e⟩
    have ht1 := st5 _ _ ht1
    have ht2 := st5 _ _ ht2
    have hl1 := st5 _ _ hl1
    have ht3 := st5 _ _ ht3
    have ht4 := st5 _ _ ht4
    have hl2 := st5 _ _ hl2
    refine ⟨small100 (n := 1) (by decide), fun t6 nt6 => ?_⟩
    have st6 : Same Jt5 (upd Jt5 t6 (.tup [V.str "mirror"])) := same_upd nt6
    have ht6 : (upd Jt5 t6 (.tup [V.str "mirror"])) t6 = some (.tup [V.str "mirror"]) := upd_same
    generalize upd Jt5 t6 (.tup [V.str "mirror"]) = Jt6 at *
    have zt6 : H t6 = none := (e02.trans (Kp.of st)).none nt6 (plx.ne nt6)
    have st := st.trans st6
    have plx : Pool Jt6 p L := by
      obtain ⟨ns, hp, e⟩ := pl2
      exact ⟨ns, st _ _ hp, e⟩
    have ht1 := st6 _ _ ht1
    have ht2 := st6 _ _ ht2
    have hl1 := st6 _ _ hl1
    have ht3 := st6 _ _ ht3
    have ht4 := st6 _ _ ht4
    have hl2 := st6 _ _ hl2
    have ht5 := st6 _ _ ht5
    refine ⟨small100 (n := 2) (by decide), fun l3 nl3 => ?_⟩
    have sl3 : Same Jt6 (upd Jt6 l3 (.lst [V.ref t5, V.ref t6])) := same_upd nl3
    have hl3 : (upd Jt6 l3 (.lst [V.ref t5, V.ref t6])) l3 = some (.lst [V.ref t5, V.ref t6]) := upd_same
    generalize upd Jt6 l3 (.lst [V.ref t5, V.ref t6]) = Jl3 at *
    have zl3 : H l3 = none := (e02.trans (Kp.of st)).none nl3 (plx.ne nl3)
    have st := st.trans sl3
    have plx : Pool Jl3 p L := by
      obtain ⟨ns, hp, e⟩ := pl2
      exact ⟨ns, st _ _ hp, e⟩
    have ht1 := sl3 _ _ ht1
    have ht2 := sl3 _ _ ht2
    have hl1 := sl3 _ _ hl1
    have ht3 := sl3 _ _ ht3
    have ht4 := sl3 _ _ ht4
    have hl2 := sl3 _ _ hl2
    have ht5 := sl3 _ _ ht5
    have ht6 := sl3 _ _ ht6
    refine ⟨small100 (n := 3) (by decide), fun b0 nb0 => ?_⟩
    have sb0 : Same Jl3 (upd Jl3 b0 (.lst [V.ref l1, V.ref l2, V.ref l3])) := same_upd nb0
    have hb0 : (upd Jl3 b0 (.lst [V.ref l1, V.ref l2, V.ref l3])) b0 = some (.lst [V.ref l1, V.ref l2, V.ref l3]) := upd_same
    generalize upd Jl3 b0 (.lst [V.ref l1, V.ref l2, V.ref l3]) = Jb0 at *
    have zb0 : H b0 = none := (e02.trans (Kp.of st)).none nb0 (plx.ne nb0)
    have st := st.trans sb0
    have plx : Pool Jb0 p L := by
      obtain ⟨ns, hp, e⟩ := pl2
      exact ⟨ns, st _ _ hp, e⟩
    have ht1 := sb0 _ _ ht1
    have ht2 := sb0 _ _ ht2
    have hl1 := sb0 _ _ hl1
    have ht3 := sb0 _ _ ht3
    have ht4 := sb0 _ _ ht4
    have hl2 := sb0 _ _ hl2
    have ht5 := sb0 _ _ ht5
    have ht6 := sb0 _ _ ht6
    have hl3 := sb0 _ _ hl3
    refine ⟨_, rfl, ?_⟩
    refine ⟨small100 (n := 1) (by decide), fun t7 nt7 => ?_⟩
    have st7 : Same Jb0 (upd Jb0 t7 (.tup [V.str "exchange"])) := same_upd nt7
    have ht7 : (upd Jb0 t7 (.tup [V.str "exchange"])) t7 = some (.tup [V.str "exchange"]) := upd_same
    generalize upd Jb0 t7 (.tup [V.str "exchange"]) = Jt7 at *
    have zt7 : H t7 = none := (e02.trans (Kp.of st)).none nt7 (plx.ne nt7)
    have st := st.trans st7
    have plx : Pool Jt7 p L := by
      obtain ⟨ns, hp, e⟩ := pl2
      exact ⟨ns, st _ _ hp, e⟩
    have ht1 := st7 _ _ ht1
    have ht2 := st7 _ _ ht2
    have hl1 := st7 _ _ hl1
    have ht3 := st7 _ _ ht3
    have ht4 := st7 _ _ ht4
    have hl2 := st7 _ _ hl2
    have ht5 := st7 _ _ ht5
    have ht6 := st7 _ _ ht6
    have hl3 := st7 _ _ hl3
    have hb0 := st7 _ _ hb0
    refine ⟨small100 (n := 1) (by decide), fun t8 nt8 => ?_⟩
    have st8 : Same Jt7 (upd Jt7 t8 (.tup [V.str "exchange"])) := same_upd nt8
    have ht8 : (upd Jt7 t8 (.tup [V.str "exchange"])) t8 = some (.tup [V.str "exchange"]) := upd_same
    generalize upd Jt7 t8 (.tup [V.str "exchange"]) = Jt8 at *
    have zt8 : H t8 = none := (e02.trans (Kp.of st)).none nt8 (plx.ne nt8)
    have st := st.trans st8
    have plx : Pool Jt8 p L := by
      obtain ⟨ns, hp, e⟩ := pl2
      exact ⟨ns, st _ _ hp, e⟩
    have ht1 := st8 _ _ ht1
    have ht2 := st8 _ _ ht2
    have hl1 := st8 _ _ hl1
    have ht3 := st8 _ _ ht3
    have ht4 := st8 _ _ ht4
    have hl2 := st8 _ _ hl2
    have ht5 := st8 _ _ ht5
    have ht6 := st8 _ _ ht6
    have hl3 := st8 _ _ hl3
    have hb0 := st8 _ _ hb0
    have ht7 := st8 _ _ ht7
    refine ⟨small100 (n := 2) (by decide), fun l4 nl4 => ?_⟩
    have sl4 : Same Jt8 (upd Jt8 l4 (.lst [V.ref t7, V.ref t8])) := same_upd nl4
    have hl4 : (upd Jt8 l4 (.lst [V.ref t7, V.ref t8])) l4 = some (.lst [V.ref t7, V.ref t8]) := upd_same
    generalize upd Jt8 l4 (.lst [V.ref t7, V.ref t8]) = Jl4 at *
    have zl4 : H l4 = none := (e02.trans (Kp.of st)).none nl4 (plx.ne nl4)
    have st := st.trans sl4
    have plx : Pool Jl4 p L := by
      obtain ⟨ns, hp, e⟩ := pl2
      exact ⟨ns, st _ _ hp, e⟩
    have ht1 := sl4 _ _ ht1
    have ht2 := sl4 _ _ ht2
    have hl1 := sl4 _ _ hl1
    have ht3 := sl4 _ _ ht3
    have ht4 := sl4 _ _ ht4
    have hl2 := sl4 _ _ hl2
    have ht5 := sl4 _ _ ht5
    have ht6 := sl4 _ _ ht6
    have hl3 := sl4 _ _ hl3
    have hb0 := sl4 _ _ hb0
    have ht7 := sl4 _ _ ht7
    have ht8 := sl4 _ _ ht8
    refine ⟨small100 (n := 1) (by decide), fun b1 nb1 => ?_⟩
    have sb1 : Same Jl4 (upd Jl4 b1 (.lst [V.ref l4])) := same_upd nb1
    have hb1 : (upd Jl4 b1 (.lst [V.ref l4])) b1 = some (.lst [V.ref l4]) := upd_same
    generalize upd Jl4 b1 (.lst [V.ref l4]) = Jb1 at *
    have zb1 : H b1 = none := (e02.trans (Kp.of st)).none nb1 (plx.ne nb1)
    have st := st.trans sb1
    have plx : Pool Jb1 p L := by
      obtain ⟨ns, hp, e⟩ := pl2
      exact ⟨ns, st _ _ hp, e⟩
    have ht1 := sb1 _ _ ht1
    have ht2 := sb1 _ _ ht2
    have hl1 := sb1 _ _ hl1
    have ht3 := sb1 _ _ ht3
    have ht4 := sb1 _ _ ht4
    have hl2 := sb1 _ _ hl2
    have ht5 := sb1 _ _ ht5
    have ht6 := sb1 _ _ ht6
    have hl3 := sb1 _ _ hl3
    have hb0 := sb1 _ _ hb0
    have ht7 := sb1 _ _ ht7
    have ht8 := sb1 _ _ ht8
    have hl4 := sb1 _ _ hl4
    refine ⟨b0, b1, _, _, rfl, rfl, hb0, hb1, small100 (n := 4) (by decide), fun d nd => ?_⟩
    have sd : Same Jb1 (upd Jb1 d (.lst [V.ref l1, V.ref l2, V.ref l3, V.ref l4])) := same_upd nd
    have hd : (upd Jb1 d (.lst [V.ref l1, V.ref l2, V.ref l3, V.ref l4])) d = some (.lst [V.ref l1, V.ref l2, V.ref l3, V.ref l4]) := upd_same
    have sf := st.trans sd
    have kf : Kp p H (upd Jb1 d (.lst [V.ref l1, V.ref l2, V.ref l3, V.ref l4])) := e02.trans (Kp.of sf)
    have plf : Pool (upd Jb1 d (.lst [V.ref l1, V.ref l2, V.ref l3, V.ref l4])) p L := by
      obtain ⟨ns, hp, e⟩ := pl2
      exact ⟨ns, sf _ _ hp, e⟩
    rcases (show z = 0 ∨ z = 1 ∨ z = 2 ∨ z = 3 by omega) with rfl | rfl | rfl | rfl
    · refine ⟨_, rfl, d, _, _, _, rfl, rfl, SqL.of hd, at_of (j := 0) (by decide) rfl, ?_⟩
      exact q l1 (.go k) (.go (-k)) _ (ok1 rfl rfl (by show (-9 : Int) ≤ k; omega) (by show k ≤ (9 : Int); omega)) (ok1 rfl rfl (by show (-9 : Int) ≤ -k; omega) (by show -k ≤ (9 : Int); omega)) kf plf ⟨l1, _, rfl, zl1, sd _ _ hl1, .cons ⟨t1, _, rfl, sd _ _ ht1, .cons rfl (.cons rfl .nil)⟩ (.cons ⟨t2, _, rfl, sd _ _ ht2, .cons rfl (.cons rfl .nil)⟩ .nil)⟩
    · refine ⟨_, rfl, d, _, _, _, rfl, rfl, SqL.of hd, at_of (j := 1) (by decide) rfl, ?_⟩
      exact q l2 (.turn k) (.turn (4 - k)) _ (ok1 rfl rfl (by show (1 : Int) ≤ k; omega) (by show k ≤ (3 : Int); omega)) (ok1 rfl rfl (by show (1 : Int) ≤ 4 - k; omega) (by show 4 - k ≤ (3 : Int); omega)) kf plf ⟨l2, _, rfl, zl2, sd _ _ hl2, .cons ⟨t3, _, rfl, sd _ _ ht3, .cons rfl (.cons rfl .nil)⟩ (.cons ⟨t4, _, rfl, sd _ _ ht4, .cons rfl (.cons rfl .nil)⟩ .nil)⟩
    · refine ⟨_, rfl, d, _, _, _, rfl, rfl, SqL.of hd, at_of (j := 2) (by decide) rfl, ?_⟩
      exact q l3 (.mirror) (.mirror) _ (ok0 rfl) (ok0 rfl) kf plf ⟨l3, _, rfl, zl3, sd _ _ hl3, .cons ⟨t5, _, rfl, sd _ _ ht5, .cons rfl .nil⟩ (.cons ⟨t6, _, rfl, sd _ _ ht6, .cons rfl .nil⟩ .nil)⟩
    · refine ⟨_, rfl, d, _, _, _, rfl, rfl, SqL.of hd, at_of (j := 3) (by decide) rfl, ?_⟩
      exact q l4 (.exch) (.exch) _ (ok0 rfl) (ok0 rfl) kf plf ⟨l4, _, rfl, zl4, sd _ _ hl4, .cons ⟨t7, _, rfl, sd _ _ ht7, .cons rfl .nil⟩ (.cons ⟨t8, _, rfl, sd _ _ ht8, .cons rfl .nil⟩ .nil)⟩

--SPLIT
theorem ok_block_step (T : Top w K mg) (n : Nat) (G__law_piece : FnOk P w K mg base CX0 (2 * n + 3) T.a__law_piece T.d__law_piece ["_law_pool_here", "_law_mood", "_law_level", "_law_room", "_law_calls", "_law_low"] (spD 1 n)) :
    FnOk P w K mg base CX0 (2 * n + 4) T.a__law_block T.d__law_block ["_law_pool_here", "_law_mood", "_law_level", "_law_room", "_law_calls", "_law_low"] (spD 0 n) := by
  refine T.F__law_block.ok sc__law_block (fun vs H Q E h => ?_) (fun cdv A outer s H vs Q E hr h => ?_)
  · obtain ⟨p, r, c, L, l, many, mo, mood, m, k, low, rfl, _⟩ := h
    rfl
  · obtain ⟨p, r, c, L, l, many, mo, mood, m, k, low, rfl, sep, d, ⟨h2, h64, md0, md8, hl, hlow, hm0, hm8, hmn, hmany, hmo⟩, q⟩ := h
    refine ⟨_, (pss_cons (ps_set (i := 6) sc__law_block.nd rfl (Or.inl rfl) (pe_lst pa_nil))
      (pss_cons (ps_for PassesOwn.never rfl (pi_range1 (by rfl) T.z_range (pa_cons (pe_call (ok__law_draw T) (hr.mono (by omega)) (by rfl) T.g__law_draw T.F__law_draw.kp (b__law_draw T) .nil pass0 (pa_cons (pv 0) (pa_cons pe_int pa_nil))) pa_nil)) (pg_name (i := 7) sc__law_block.nd rfl (Or.inl rfl)) (pss_one (ps_if (pt_cmpR op_gt (pe_ix (k_ixL K) (pv 3) pe_int (fun _ _ => rfl)) pe_int (nomark _)) (pss_one (ps_set (i := 6) sc__law_block.nd rfl (Or.inl rfl) (pe_op op_cat (pv 6) (pe_call G__law_piece (hr.mono (by omega)) (by rfl) T.g__law_piece T.F__law_piece.kp (b__law_piece T) .nil pass0 (pa_cons (pv 0) (pa_cons (pv 1) (pa_cons (pv 2) (pa_cons (pv 3) (pa_cons (pv 4) (pa_cons (pv 5) pa_nil)))))))))) pss_nil)))
      (pss_one (ps_ret (pv 6))))), ?_⟩
    refine ⟨small100 (n := 0) (by decide), fun b nb => ?_⟩
    have d1 := d.new (o := .lst []) nb
    have e1 : KpL (MM p r c) H (upd H b (.lst [])) := KpL.of (same_upd nb)
    have t1 : Tr (New H) (upd H b (.lst [])) (bD []) (.ref b) := ⟨b, [], rfl, nb, upd_same, TrAll.nil⟩
    generalize upd H b (.lst []) = H1 at *
    refine ⟨_, rfl, p, L, 3, rfl, d1.pl, h2, h64, by decide, by decide, fun i H2 i0 i1 e2 pl2 => ?_⟩
    have d2 := d1.kp sep e2 pl2
    have e2 := d1.gone sep e2
    have t2 := New.kpl d e2 t1
    have e2 := e1.trans e2
    refine ⟨i, rfl, by omega, by omega, for_range (n := i.toNat) (fun j σ H' => ∃ (y7 : Option V) (b : Addr) (ss : List Stm) (m' k' : Int), σ = [some (.ref p), some (.int mood), some (.int l), some (.ref r), some (.ref c), some (.int low), some (.ref b), y7] ∧ KpL (MM p r c) H H' ∧ Drw H' p r c L m' k' many ∧ 0 ≤ m' ∧ k' ≤ k ∧ m' + cntB ss = m ∧ okB mo ss l ∧ Tr (New H) H' (bD ss) (.ref b))
      ⟨none, b, [], m, k, rfl, e2, d2, hm0, Int.le_refl _, by simp [cntB], True.intro, t2⟩ (fun j σ H' hj h => ?_) (fun σ H' h => ?_)⟩
    · obtain ⟨y7, b, ss, m', k', rfl, e, d', hm', hk', hc, ho, t⟩ := h
      refine ⟨_, rfl, r, _, 0, _, rfl, rfl, SqL.of d'.r, at_of (j := 0) (by decide) rfl, _, _, rfl, rfl, _, rfl, ite2 (fun g => ?_) (fun g => ?_)⟩
      · have g : m' > 0 := of_decide_eq_true g
        refine ⟨_, rfl, _, rfl, _, rfl, _, rfl, _, rfl, _, rfl, _, rfl, ?_⟩
        refine ⟨p, r, c, L, l, many, mo, mood, m', k', low, rfl, sep, d', ⟨h2, h64, md0, md8, hl, hlow, by omega, by omega, by omega, hmany, mo_le hmo hk'⟩, fun q2 ss2 H3 m2 k2 e3 d3 g0 hc2 ho2 t3 => ?_⟩
        have t := New.kpl d e3 t
        have e4 := e.trans e3
        have t3 := New.old e d' t3
        obtain ⟨xs, nb', hb', tx⟩ := t.lst
        obtain ⟨ys, nq2, hq2, ty⟩ := t3.lst
        have lx := tx.len
        have ly := ty.len
        rw [blkD_len] at lx ly
        have c1 := len_cntB ss
        have c2 := len_cntB ss2
        refine ⟨_, q2, xs, ys, rfl, rfl, hb', hq2, small100 (by omega), fun z nz => ?_⟩
        have e5 := e4.trans (KpL.of (M := MM p r c) (same_upd (o := .lst (xs ++ ys)) nz))
        refine ⟨_, z, ss ++ ss2, m2, k2, rfl, e5, d3.new nz, g0.1, by omega, by rw [cntB_append]; omega, okB_append ho ho2, z, xs ++ ys, rfl, e4.free d3.lst nz, upd_same, ?_⟩
        rw [blkD_append]
        exact (tx.append ty).same (same_upd nz)
      · exact ⟨_, b, ss, m', k', rfl, e, d', hm', hk', hc, ho, t⟩
    · obtain ⟨y7, b, ss, m', k', rfl, e, d', hm', hk', hc, ho, t⟩ := h
      exact ⟨_, rfl, q b ss H' m' k' e d' ⟨hm', hk'⟩ hc ho t⟩

--SPLIT
theorem Stm.okd {many l : Nat} {b : List Stm} {x : Nat} (h : cntB b ≤ 8) : b.length ≤ 8 := Nat.le_trans (len_cntB b) h
set_option maxHeartbeats 2000000 in
theorem ok_piece_step (T : Top w K mg) (n : Nat) (G__law_piece : FnOk P w K mg base CX0 (2 * n + 3) T.a__law_piece T.d__law_piece ["_law_pool_here", "_law_mood", "_law_level", "_law_room", "_law_calls", "_law_low"] (spD 1 n))
    (G__law_block : FnOk P w K mg base CX0 (2 * n + 4) T.a__law_block T.d__law_block ["_law_pool_here", "_law_mood", "_law_level", "_law_room", "_law_calls", "_law_low"] (spD 0 n)) :
    FnOk P w K mg base CX0 (2 * n + 5) T.a__law_piece T.d__law_piece ["_law_pool_here", "_law_mood", "_law_level", "_law_room", "_law_calls", "_law_low"] (spD 1 (n + 1)) := by
  refine T.F__law_piece.ok sc__law_piece (fun vs H Q E h => ?_) (fun cdv A outer s H vs Q E hr h => ?_)
  · obtain ⟨p, r, c, L, l, many, mo, mood, m, k, low, rfl, _⟩ := h
    rfl
  · obtain ⟨p, r, c, L, l, many, mo, mood, m, k, low, rfl, sep, d, ⟨h2, h64, md0, md8, hl, hlow, hm0, hm8, hmn, hmany, hmo⟩, q⟩ := h
    refine ⟨_, (pss_cons (ps_set (i := 6) sc__law_piece.nd rfl (Or.inl rfl) (pe_call (ok__law_draw T) (hr.mono (by omega)) (by rfl) T.g__law_draw T.F__law_draw.kp (b__law_draw T) .nil pass0 (pa_cons (pv 0) (pa_cons pe_int pa_nil))))
      (C8.pss_cut (ps_if (PW.pt (pw_and (pt_cmpR op_gt (pv 6) pe_int (nomark _)) (pw_and (pt_cmpR op_lt (pv 6) pe_int (nomark _)) (pw_and1 (pt_cmpR op_gt (pv 2) pe_int (nomark _)))))) (pss_one (ps_set (i := 6) sc__law_piece.nd rfl (Or.inl rfl) (pe_op op_mod (pv 6) pe_int))) pss_nil)
      (C8.pss_cut (ps_if (PW.pt (pw_and (pt_cmpR op_eq (pv 6) pe_int (nomark _)) (pw_and1 (pt_cmpR op_lt (pe_ix (k_ixL K) (pv 3) pe_int (fun _ _ => rfl)) pe_int (nomark _))))) (pss_one (ps_set (i := 6) sc__law_piece.nd rfl (Or.inl rfl) pe_int)) pss_nil)
      (C8.pss_cut (ps_if (PW.pt (pw_and (pt_cmpR op_gt (pv 6) pe_int (nomark _)) (pw_and (pt_cmpR op_lt (pv 6) pe_int (nomark _)) (pw_and1 (PW.pt (pw_or (pt_cmpR op_lt (pe_ix (k_ixL K) (pv 4) pe_int (fun _ _ => rfl)) pe_int (nomark _)) (pw_or1 (pt_cmpR op_ge (pv 5) (pe_ix (k_ixL K) (pv 4) pe_int (fun _ _ => rfl)) (nomark _))))))))) (pss_one (ps_set (i := 6) sc__law_piece.nd rfl (Or.inl rfl) pe_int)) pss_nil)
      (pss_cons (ps_augS (pv 3) pe_int (k_getL K) pe_int ip_sub set_list)
      (pss_cons (ps_if (pt_cmpR op_lt (pv 6) pe_int (nomark _)) (pss_one (ps_ret (pe_lst (pa_cons (pe_call (ok__law_command T) (hr.mono (by omega)) (by rfl) T.g__law_command T.F__law_command.kp (b__law_command T) .nil pass0 (pa_cons (pv 0) (pa_cons (pv 1) pa_nil))) pa_nil)))) pss_nil)
      (pss_cons (ps_if (pt_cmpR op_eq (pv 6) pe_int (nomark _)) (pss_cons (ps_augS (pv 3) pe_int (k_getL K) pe_int ip_sub set_list)
        (pss_cons (ps_set (i := 7) sc__law_piece.nd rfl (Or.inl rfl) (pe_call (ok__law_pair T) (hr.mono (by omega)) (by rfl) T.g__law_pair T.F__law_pair.kp (b__law_pair T) .nil pass0 (pa_cons (pv 0) (pa_cons (pv 1) pa_nil))))
        (pss_cons (ps_set (i := 8) sc__law_piece.nd rfl (Or.inl rfl) (pe_lst pa_nil))
        (C8.pss_cut (ps_if (pt_cmpR op_gt (pe_ix (k_ixL K) (pv 3) pe_int (fun _ _ => rfl)) pe_int (nomark _)) (pss_one (ps_set (i := 8) sc__law_piece.nd rfl (Or.inl rfl) (pe_call G__law_piece (hr.mono (by omega)) (by rfl) T.g__law_piece T.F__law_piece.kp (b__law_piece T) .nil pass0 (pa_cons (pv 0) (pa_cons (pv 1) (pa_cons (pv 2) (pa_cons (pv 3) (pa_cons (pv 4) (pa_cons (pv 5) pa_nil))))))))) pss_nil)
        (pss_one (ps_ret (pe_op op_cat (pe_op op_cat (pe_slice (k_slL K) (pv 7) po_none (po_some pe_int)) (pv 8)) (pe_slice (k_slL K) (pv 7) (po_some pe_int) po_none)))))))) pss_nil)
      (pss_cons (ps_if (pt_cmpR op_lt (pv 6) pe_int (nomark _)) (pss_cons (ps_set (i := 9) sc__law_piece.nd rfl (Or.inl rfl) (pe_call G__law_block (hr.mono (by omega)) (by rfl) T.g__law_block T.F__law_block.kp (b__law_block T) .nil pass0 (pa_cons (pv 0) (pa_cons (pv 1) (pa_cons (pe_op op_add (pv 2) pe_int) (pa_cons (pv 3) (pa_cons (pv 4) (pa_cons pe_int pa_nil))))))))
        (pss_one (ps_ret (pe_lst (pa_cons (pe_tup (pa_cons pe_str (pa_cons (pv 9) (pa_cons (pe_call G__law_block (hr.mono (by omega)) (by rfl) T.g__law_block T.F__law_block.kp (b__law_block T) .nil pass0 (pa_cons (pv 0) (pa_cons (pv 1) (pa_cons (pe_op op_add (pv 2) pe_int) (pa_cons (pv 3) (pa_cons (pv 4) (pa_cons (pv 5) pa_nil))))))) pa_nil)))) pa_nil))))) pss_nil)
      (pss_cons (ps_if (pt_cmpR op_eq (pv 6) pe_int (nomark _)) (pss_one (ps_ret (pe_lst (pa_cons (pe_tup (pa_cons pe_str (pa_cons (pe_call G__law_block (hr.mono (by omega)) (by rfl) T.g__law_block T.F__law_block.kp (b__law_block T) .nil pass0 (pa_cons (pv 0) (pa_cons (pv 1) (pa_cons (pe_op op_add (pv 2) pe_int) (pa_cons (pv 3) (pa_cons (pv 4) (pa_cons pe_int pa_nil))))))) pa_nil))) pa_nil)))) pss_nil)
      (pss_cons (ps_if (pt_cmpR op_eq (pv 6) pe_int (nomark _)) (pss_one (ps_ret (pe_lst (pa_cons (pe_tup (pa_cons pe_str (pa_cons (pe_call G__law_block (hr.mono (by omega)) (by rfl) T.g__law_block T.F__law_block.kp (b__law_block T) .nil pass0 (pa_cons (pv 0) (pa_cons (pv 1) (pa_cons (pe_op op_add (pv 2) pe_int) (pa_cons (pv 3) (pa_cons (pv 4) (pa_cons (pv 5) pa_nil))))))) pa_nil))) pa_nil)))) pss_nil)
      (pss_cons (ps_if (pt_cmpR op_gt (pv 6) pe_int (nomark _)) (pss_one (ps_ret (pe_lst (pa_cons (pe_tup (pa_cons pe_str (pa_cons (pe_call (ok__law_draw T) (hr.mono (by omega)) (by rfl) T.g__law_draw T.F__law_draw.kp (b__law_draw T) .nil pass0 (pa_cons (pv 0) (pa_cons pe_int pa_nil))) pa_nil))) pa_nil)))) pss_nil)
      (pss_cons (ps_augS (pv 4) pe_int (k_getL K) pe_int ip_sub set_list)
      (pss_cons (ps_set (i := 10) sc__law_piece.nd rfl (Or.inl rfl) (pe_op op_add (pv 5) (pe_call (ok__law_draw T) (hr.mono (by omega)) (by rfl) T.g__law_draw T.F__law_draw.kp (b__law_draw T) .nil pass0 (pa_cons (pv 0) (pa_cons (pe_op op_sub (pe_ix (k_ixL K) (pv 4) pe_int (fun _ _ => rfl)) (pv 5)) pa_nil)))))
      (pss_cons (ps_set (i := 11) sc__law_piece.nd rfl (Or.inl rfl) (pe_cmpR op_eq (pe_call (ok__law_draw T) (hr.mono (by omega)) (by rfl) T.g__law_draw T.F__law_draw.kp (b__law_draw T) .nil pass0 (pa_cons (pv 0) (pa_cons pe_int pa_nil))) pe_int (nomark _)))
      (pss_cons (ps_set (i := 9) sc__law_piece.nd rfl (Or.inl rfl) (pe_call G__law_block (hr.mono (by omega)) (by rfl) T.g__law_block T.F__law_block.kp (b__law_block T) .nil pass0 (pa_cons (pv 0) (pa_cons (pv 1) (pa_cons (pe_op op_add (pv 2) pe_int) (pa_cons (pv 3) (pa_cons (pv 4) (pa_cons (pv 5) pa_nil))))))))
      (pss_one (ps_ret (pe_lst (pa_cons (pe_tup (pa_cons pe_str (pa_cons (pv 10) (pa_cons (pv 11) (pa_cons (pe_lst (pa_cons (pv 9) (pa_cons (pe_call G__law_block (hr.mono (by omega)) (by rfl) T.g__law_block T.F__law_block.kp (b__law_block T) .nil pass0 (pa_cons (pv 0) (pa_cons (pv 1) (pa_cons (pe_op op_add (pv 2) pe_int) (pa_cons (pv 3) (pa_cons (pv 4) (pa_cons (pv 5) pa_nil))))))) pa_nil))) pa_nil))))) pa_nil))))))))))))))))))), ?_⟩
    refine ⟨_, rfl, p, L, 17, rfl, d.pl, h2, h64, by decide, by decide, fun kd H1 k0 k1 e1 pl1 => ?_⟩
    have d1 := d.kp sep e1 pl1
    have e1 := d.gone sep e1
    have hfin : ∀ (J : Hp) (x : V) (z : Stm) (m' k' : Int), KpL (MM p r c) H J → Drw J p r c L m' k' many → (0 ≤ m' ∧ k' ≤ k) → m' + z.cnt = m → z.ok mo l → Tr (New H) J z.d x → ∀ a, J a = none → Q (.ref a) (upd J a (.lst [x])) := by
      intro J x z m' k' e dJ g0 gc go t a na
      refine q a [z] _ m' k' (e.trans (KpL.of (same_upd na))) (dJ.new na) g0 (by simp only [cntB]; omega) ⟨go, True.intro⟩ ⟨a, _, rfl, e.free dJ.lst na, upd_same, ?_⟩
      exact ⟨x, [], rfl, t.same (same_upd na), rfl⟩
    -- the kind, level by level
    refine ⟨fun σ J => J = H1 ∧ ∃ z : Int, 0 ≤ z ∧ z < 17 ∧ (6 < z → z < 15 → l ≤ 2) ∧ σ = [some (.ref p), some (.int mood), some (.int l), some (.ref r), some (.ref c), some (.int low), some (.int z), none, none, none, none, none], ?_, fun σ J hm => ?_⟩
    · refine ⟨_, rfl, _, _, rfl, rfl, _, rfl, ite2 (fun g1 => ?_) (fun g1 => ?_)⟩
      · refine ⟨_, rfl, _, _, rfl, rfl, _, rfl, ite2 (fun g2 => ?_) (fun g2 => ?_)⟩
        · refine ⟨_, rfl, _, _, rfl, rfl, _, rfl, ite2 (fun g3 => ?_) (fun g3 => ?_)⟩
          · refine ⟨_, rfl, _, _, rfl, rfl, (show (0 : Int) < 6 by decide), rfl, _, ?_, ?_, ?_, rfl⟩
            · exact Int.emod_nonneg _ (by decide)
            · have := Int.emod_lt_of_pos kd (show (0 : Int) < 6 by decide)
              omega
            · have := Int.emod_lt_of_pos kd (show (0 : Int) < 6 by decide)
              omega
          · have g3 : ¬ (l : Int) > 2 := fun e => g3 (decide_eq_true e)
            exact ⟨rfl, kd, k0, k1, fun _ _ => by omega, rfl⟩
        · have g2 : ¬ kd < 15 := fun e => g2 (decide_eq_true e)
          exact ⟨rfl, kd, k0, k1, fun _ _ => by omega, rfl⟩
      · have g1 : ¬ kd > 6 := fun e => g1 (decide_eq_true e)
        exact ⟨rfl, kd, k0, k1, fun _ _ => by omega, rfl⟩
    obtain ⟨rfl, z1, k0, k1, q1, rfl⟩ := hm
    refine ⟨fun σ J' => J' = J ∧ ∃ z : Int, 0 ≤ z ∧ z < 17 ∧ (6 < z → z < 15 → l ≤ 2) ∧ (z = 6 → 2 ≤ m) ∧ σ = [some (.ref p), some (.int mood), some (.int l), some (.ref r), some (.ref c), some (.int low), some (.int z), none, none, none, none, none], ?_, fun σ J' hm => ?_⟩
    · refine ⟨_, rfl, rfl, _, rfl, ite2 (fun g1 => ?_) (fun g1 => ?_)⟩
      · refine ⟨_, rfl, r, _, 0, _, rfl, rfl, SqL.of d1.r, at_of (j := 0) (by decide) rfl, _, _, rfl, rfl, _, rfl, ite2 (fun g2 => ?_) (fun g2 => ?_)⟩
        · exact ⟨rfl, 0, by decide, by decide, fun _ _ => by omega, fun _ => by omega, rfl⟩
        · have g2 : ¬ m < 2 := fun e => g2 (decide_eq_true e)
          exact ⟨rfl, z1, k0, k1, q1, fun _ => by omega, rfl⟩
      · have g1 := dec_int g1
        exact ⟨rfl, z1, k0, k1, q1, fun e => absurd e g1, rfl⟩
    obtain ⟨rfl, z2, k0, k1, q1, q2, rfl⟩ := hm
    refine ⟨fun σ J'' => J'' = J' ∧ ∃ z : Int, 0 ≤ z ∧ z < 17 ∧ (6 < z → z < 15 → l ≤ 2) ∧ (z = 6 → 2 ≤ m) ∧ (10 < z → z < 15 → low < many ∧ 1 ≤ k) ∧ σ = [some (.ref p), some (.int mood), some (.int l), some (.ref r), some (.ref c), some (.int low), some (.int z), none, none, none, none, none], ?_, fun σ J'' hm => ?_⟩
    · have zero : (fun (σ : List (Option V)) (J'' : Hp) => J'' = J' ∧ ∃ z : Int, 0 ≤ z ∧ z < 17 ∧ (6 < z → z < 15 → l ≤ 2) ∧ (z = 6 → 2 ≤ m) ∧ (10 < z → z < 15 → low < many ∧ 1 ≤ k) ∧ σ = [some (.ref p), some (.int mood), some (.int l), some (.ref r), some (.ref c), some (.int low), some (.int z), none, none, none, none, none]) [some (.ref p), some (.int mood), some (.int l), some (.ref r), some (.ref c), some (.int low), some (.int 0), none, none, none, none, none] J' := ⟨rfl, 0, by decide, by decide, fun _ _ => by omega, fun _ => by omega, fun _ _ => by omega, rfl⟩
      refine ⟨_, rfl, _, _, rfl, rfl, _, rfl, ite2 (fun g1 => ?_) (fun g1 => ?_)⟩
      · refine ⟨_, rfl, _, _, rfl, rfl, _, rfl, ite2 (fun g2 => ?_) (fun g2 => ?_)⟩
        · refine ⟨_, rfl, c, _, 0, _, rfl, rfl, SqL.of d1.c, at_of (j := 0) (by decide) rfl, _, _, rfl, rfl, _, rfl, ite2 (fun g3 => ?_) (fun g3 => ?_)⟩
          · exact zero
          · refine ⟨_, rfl, _, rfl, c, _, 1, _, rfl, rfl, SqL.of d1.c, at_of (j := 1) (by decide) rfl, _, _, rfl, rfl, _, rfl, ite2 (fun g4 => ?_) (fun g4 => ?_)⟩
            · exact zero
            · have g4 : ¬ low ≥ (many : Int) := fun e => g4 (decide_eq_true e)
              have g3 : ¬ k < 1 := fun e => g3 (decide_eq_true e)
              exact ⟨rfl, z2, k0, k1, q1, q2, fun _ _ => by omega, rfl⟩
        · have g2 : ¬ z2 < 15 := fun e => g2 (decide_eq_true e)
          exact ⟨rfl, z2, k0, k1, q1, q2, fun _ _ => by omega, rfl⟩
      · have g1 : ¬ z2 > 10 := fun e => g1 (decide_eq_true e)
        exact ⟨rfl, z2, k0, k1, q1, q2, fun _ _ => by omega, rfl⟩
    obtain ⟨rfl, z, k0, k1, q1, q2, q3, rfl⟩ := hm
    -- a room less
    refine ⟨_, rfl, r, _, 0, .int m, rfl, rfl, by decide, SqL.of d1.r, rfl, m, 1, rfl, rfl, r, _, 0, 0, rfl, rfl, d1.r, rfl, ?_⟩
    generalize hJ : upd J'' r _ = H2
    have e2 : KpL (MM p r c) H H2 := by
      rw [← hJ]
      exact e1.put (.inr (.inl rfl)) ⟨_, d.r⟩
    have d2 : Drw H2 p r c L (m - 1) k many := by
      rw [← hJ]
      exact d1.room sep (m - 1)
    clear hJ d1 e1 pl1
    have lvl : ((l : Nat) : Int) + 1 = ((l + 1 : Nat) : Int) := rfl
    refine ⟨_, rfl, _, _, rfl, rfl, _, rfl, ite2 (fun g => ?_) (fun g6 => ?_)⟩
    · refine ⟨_, rfl, _, rfl, p, L, mood, rfl, d2.pl, h2, h64, md0, md8, fun qc cm H3 ok e3 pl3 nq hq => ⟨small100 (n := 1) (by decide), fun a na => ?_⟩⟩
      exact hfin H3 (.ref qc) (.cmd cm) (m - 1) k (e2.trans (d2.gone sep e3)) (d2.kp sep e3 pl3) ⟨by omega, by omega⟩ (by simp only [Stm.cnt]; omega) ok ⟨qc, _, rfl, hq, .cons rfl (TrAll.ofInts _)⟩ a na
    have g6 : ¬ z < 6 := fun e => g6 (decide_eq_true e)
    refine ⟨_, rfl, rfl, _, rfl, ite2 (fun g => ?_) (fun g7 => ?_)⟩
    · have q2 := q2 (dec_int' g)
      refine ⟨_, rfl, r, _, 0, .int (m - 1), rfl, rfl, by decide, SqL.of d2.r, rfl, m - 1, 1, rfl, rfl, r, _, 0, 0, rfl, rfl, d2.r, rfl, ?_⟩
      generalize hJ : upd H2 r _ = H3
      have e3 : KpL (MM p r c) H H3 := by
        rw [← hJ]
        exact e2.put (.inr (.inl rfl)) ⟨_, d.r⟩
      have d3 : Drw H3 p r c L (m - 1 - 1) k many := by
        rw [← hJ]
        exact d2.room sep (m - 1 - 1)
      clear hJ
      refine ⟨_, rfl, _, rfl, p, L, mood, rfl, d3.pl, h2, h64, fun qa c1 c2 H4 ok1 ok2 e4 pl4 t4 => ?_⟩
      have d4 := d3.kp sep e4 pl4
      have t4 := New.old e3 d3 t4
      have e4 := e3.trans (d3.gone sep e4)
      refine ⟨small100 (n := 0) (by decide), fun b nb => ?_⟩
      have d5 := d4.new (o := .lst []) nb
      have e5 : KpL (MM p r c) H (upd H4 b (.lst [])) := e4.trans (KpL.of (same_upd nb))
      have tb : Tr (New H) (upd H4 b (.lst [])) (bD []) (.ref b) := ⟨b, [], rfl, e4.free d4.lst nb, upd_same, TrAll.nil⟩
      have t5 := t4.same (same_upd (o := .lst []) nb)
      generalize upd H4 b (.lst []) = H5 at *
      refine ⟨fun σ J => ∃ (b : Addr) (ss : List Stm) (m' k' : Int), σ = [some (.ref p), some (.int mood), some (.int l), some (.ref r), some (.ref c), some (.int low), some (.int z), some (.ref qa), some (.ref b), none, none, none] ∧ KpL (MM p r c) H J ∧ Drw J p r c L m' k' many ∧ (0 ≤ m' ∧ k' ≤ k) ∧ m' + cntB ss = m - 2 ∧ okB mo ss l ∧ Tr (New H) J (bD ss) (.ref b) ∧ Tr (New H) J (.list [c1.d, c2.d]) (.ref qa), ?_, fun σ J hm => ?_⟩
      · refine ⟨_, rfl, r, _, 0, _, rfl, rfl, SqL.of d5.r, at_of (j := 0) (by decide) rfl, _, _, rfl, rfl, _, rfl, ite2 (fun g => ?_) (fun g => ?_)⟩
        · have g : m - 1 - 1 > 0 := of_decide_eq_true g
          refine ⟨_, rfl, _, rfl, _, rfl, _, rfl, _, rfl, _, rfl, p, r, c, L, l, many, mo, mood, m - 1 - 1, k, low, rfl, sep, d5, ⟨h2, h64, md0, md8, hl, hlow, by omega, by omega, by omega, hmany, hmo⟩, fun q6 ss H6 m6 k6 e6 d6 g0 gc go t6 => ?_⟩
          exact ⟨q6, ss, m6, k6, rfl, e5.trans e6, d6, g0, by omega, go, New.old e5 d5 t6, New.kpl d e6 t5⟩
        · exact ⟨b, [], m - 1 - 1, k, rfl, e5, d5, ⟨by omega, by omega⟩, by simp only [cntB]; omega, True.intro, tb, t5⟩
      · obtain ⟨b, ss, m6, k6, rfl, e6, d6, g0, gc, go, t6, t7⟩ := hm
        obtain ⟨xs, nb6, hb6, tx⟩ := t6.lst
        obtain ⟨ps, nq, hq, tp⟩ := t7.lst
        obtain ⟨x1, _, rfl, tx1, x2, _, rfl, tx2, rfl⟩ := tp
        have lx := tx.len
        rw [blkD_len] at lx
        have c3 := len_cntB ss
        refine ⟨_, rfl, _, rfl, qa, _, rfl, SqL.of hq, fun u nu => ?_⟩
        have s7 := same_upd (o := .lst (cutV [x1, x2] none (some 1))) nu
        have hu : (upd J u (.lst (cutV [x1, x2] none (some 1)))) u = some (.lst [x1]) := by rw [upd_same, show cutV [x1, x2] none (some 1) = [x1] from cut_to (n := 1)]
        generalize upd J u _ = J7 at *
        refine ⟨_, rfl, u, b, _, _, rfl, rfl, hu, s7 _ _ hb6, small100 (by rw [List.length_singleton]; omega), fun v nv => ?_⟩
        have s8 := s7.trans (same_upd (o := .lst ([x1] ++ xs)) nv)
        have hv : (upd J7 v (.lst ([x1] ++ xs))) v = some (.lst ([x1] ++ xs)) := upd_same
        generalize upd J7 v _ = J8 at *
        refine ⟨_, rfl, _, rfl, qa, _, rfl, SqL.of (s8 _ _ hq), fun y ny => ?_⟩
        have s9 := same_upd (o := .lst (cutV [x1, x2] (some 1) none)) ny
        have hy : (upd J8 y (.lst (cutV [x1, x2] (some 1) none))) y = some (.lst [x2]) := by rw [upd_same, cut_from1]
        generalize upd J8 y _ = J9 at *
        refine ⟨v, y, _, _, rfl, rfl, s9 _ _ hv, hy, small100 (by rw [List.length_append, List.length_singleton, List.length_singleton]; omega), fun a na => ?_⟩
        have s10 := s8.trans (s9.trans (same_upd (o := .lst ([x1] ++ xs ++ [x2])) na))
        refine q a ([.cmd c1] ++ ss ++ [.cmd c2]) _ m6 k6 (e6.trans (KpL.of s10)) (d6.same s10) g0 (by rw [cntB_append, cntB_append]; simp only [cntB, Stm.cnt]; omega) (okB_append (a := [.cmd c1] ++ ss) (b := [.cmd c2]) (okB_append (a := [.cmd c1]) ⟨ok1, True.intro⟩ go) ⟨ok2, True.intro⟩) ⟨a, _, rfl, (e6.trans (KpL.of (s8.trans s9))).free (d6.same (s8.trans s9)).lst na, upd_same, ?_⟩
        rw [blkD_append, blkD_append]
        exact ((TrAll.one tx1).append tx).append (TrAll.one tx2) |>.same s10
    have g7 : ¬ z = 6 := dec_int g7
    refine ⟨_, rfl, _, _, rfl, rfl, _, rfl, ite2 (fun g => ?_) (fun g9 => ?_)⟩
    · have g : z < 9 := of_decide_eq_true g
      have hl2 := q1 (by omega) (by omega)
      refine ⟨_, rfl, _, rfl, _, rfl, _, _, rfl, rfl, _, rfl, _, rfl, p, r, c, L, l + 1, many, mo, mood, m - 1, k, 0, rfl, sep, d2, ⟨h2, h64, md0, md8, by omega, by omega, by omega, by omega, by omega, hmany, hmo⟩, fun b1 s1 H3 m3 k3 e3 d3 g03 gc3 go3 t3 => ?_⟩
      have t3 := New.old e2 d2 t3
      have e3 := e2.trans e3
      refine ⟨_, rfl, _, rfl, _, rfl, _, rfl, _, _, rfl, rfl, _, rfl, _, rfl, _, rfl, p, r, c, L, l + 1, many, mo, mood, m3, k3, low, rfl, sep, d3, ⟨h2, h64, md0, md8, by omega, hlow, by omega, by omega, by omega, hmany, mo_le hmo g03.2⟩, fun b2 s2 H4 m4 k4 e4 d4 g04 gc4 go4 t4 => ?_⟩
      have t3 := New.kpl d e4 t3
      have t4 := New.old e3 d3 t4
      have e4 := e3.trans e4
      refine ⟨small100 (n := 3) (by decide), fun t nt => ⟨small100 (n := 1) (by decide), fun a na => ?_⟩⟩
      have st := same_upd (o := .tup [V.str "either", V.ref b1, V.ref b2]) nt
      exact hfin _ (.ref t) (.either s1 s2) m4 k4 (e4.trans (KpL.of st)) (d4.same st) ⟨g04.1, by have := g03.2; have := g04.2; omega⟩ (by simp only [Stm.cnt]; omega) ⟨by omega, ⟨Stm.okd (l := 0) (many := 0) (x := 0) (by omega), go3⟩, Stm.okd (l := 0) (many := 0) (x := 0) (by omega), go4⟩ ⟨t, _, rfl, upd_same, .cons rfl (.cons (t3.same st) (.cons (t4.same st) .nil))⟩ a na
    have g9 : ¬ z < 9 := fun e => g9 (decide_eq_true e)
    refine ⟨_, rfl, rfl, _, rfl, ite2 (fun g => ?_) (fun g10 => ?_)⟩
    · have g : z = 9 := dec_int' g
      have hl2 := q1 (by omega) (by omega)
      refine ⟨_, rfl, _, rfl, _, rfl, _, _, rfl, rfl, _, rfl, _, rfl, p, r, c, L, l + 1, many, mo, mood, m - 1, k, 0, rfl, sep, d2, ⟨h2, h64, md0, md8, by omega, by omega, by omega, by omega, by omega, hmany, hmo⟩, fun b1 s1 H3 m3 k3 e3 d3 g03 gc3 go3 t3 => ?_⟩
      have t3 := New.old e2 d2 t3
      have e3 := e2.trans e3
      refine ⟨small100 (n := 2) (by decide), fun t nt => ⟨small100 (n := 1) (by decide), fun a na => ?_⟩⟩
      have st := same_upd (o := .tup [V.str "again", V.ref b1]) nt
      exact hfin _ (.ref t) (.again s1) m3 k3 (e3.trans (KpL.of st)) (d3.same st) g03 (by simp only [Stm.cnt]; omega) ⟨by omega, Stm.okd (l := 0) (many := 0) (x := 0) (by omega), go3⟩ ⟨t, _, rfl, upd_same, .cons rfl (.cons (t3.same st) .nil)⟩ a na
    have g10 : ¬ z = 9 := dec_int g10
    refine ⟨_, rfl, rfl, _, rfl, ite2 (fun g => ?_) (fun g11 => ?_)⟩
    · have g : z = 10 := dec_int' g
      have hl2 := q1 (by omega) (by omega)
      refine ⟨_, rfl, _, rfl, _, rfl, _, _, rfl, rfl, _, rfl, _, rfl, _, rfl, p, r, c, L, l + 1, many, mo, mood, m - 1, k, low, rfl, sep, d2, ⟨h2, h64, md0, md8, by omega, hlow, by omega, by omega, by omega, hmany, hmo⟩, fun b1 s1 H3 m3 k3 e3 d3 g03 gc3 go3 t3 => ?_⟩
      have t3 := New.old e2 d2 t3
      have e3 := e2.trans e3
      refine ⟨small100 (n := 2) (by decide), fun t nt => ⟨small100 (n := 1) (by decide), fun a na => ?_⟩⟩
      have st := same_upd (o := .tup [V.str "keep", V.ref b1]) nt
      exact hfin _ (.ref t) (.keep s1) m3 k3 (e3.trans (KpL.of st)) (d3.same st) g03 (by simp only [Stm.cnt]; omega) ⟨by omega, Stm.okd (l := 0) (many := 0) (x := 0) (by omega), go3⟩ ⟨t, _, rfl, upd_same, .cons rfl (.cons (t3.same st) .nil)⟩ a na
    have g11 : ¬ z = 10 := dec_int g11
    refine ⟨_, rfl, _, _, rfl, rfl, _, rfl, ite2 (fun g => ?_) (fun g15 => ?_)⟩
    · refine ⟨_, rfl, p, L, 2, rfl, d2.pl, h2, h64, by decide, by decide, fun w H3 w0 w1 e3 pl3 => ⟨small100 (n := 2) (by decide), fun t nt => ⟨small100 (n := 1) (by decide), fun a na => ?_⟩⟩⟩
      have st := same_upd (o := .tup [V.str "end", V.int w]) nt
      have d3 := d2.kp sep e3 pl3
      have e3 := e2.trans (d2.gone sep e3)
      refine hfin _ (.ref t) (.fin (decide (w = 1))) (m - 1) k (e3.trans (KpL.of st)) (d3.same st) ⟨by omega, by omega⟩ (by simp only [Stm.cnt]; omega) True.intro ⟨t, _, rfl, upd_same, .cons rfl (.cons ?_ .nil)⟩ a na
      rcases (show w = 0 ∨ w = 1 by omega) with rfl | rfl <;> rfl
    have g15 : ¬ z > 14 := fun e => g15 (decide_eq_true e)
    have hl2 := q1 (by omega) (by omega)
    obtain ⟨hlm, hk1⟩ := q3 (by omega) (by omega)
    have hmo1 : mo = many := hmo.elim id fun h => by omega
    refine ⟨_, rfl, c, _, 0, .int k, rfl, rfl, by decide, SqL.of d2.c, rfl, k, 1, rfl, rfl, c, _, 0, 0, rfl, rfl, d2.c, rfl, ?_⟩
    generalize hJ : upd H2 c _ = H3
    have e3 : KpL (MM p r c) H H3 := by
      rw [← hJ]
      exact e2.put (.inr (.inr rfl)) ⟨_, d.c⟩
    have d3 : Drw H3 p r c L (m - 1) (k - 1) many := by
      rw [← hJ]
      exact d2.calls sep (k - 1)
    clear hJ
    refine ⟨_, rfl, _, rfl, _, rfl, c, _, 1, _, rfl, rfl, SqL.of d3.c, at_of (j := 1) (by decide) rfl, _, rfl, _, _, rfl, rfl, p, L, _, rfl, d3.pl, h2, h64, by omega, by omega, fun gl H4 w0 w1 e4 pl4 => ?_⟩
    have d4 := d3.kp sep e4 pl4
    have e4 := e3.trans (d3.gone sep e4)
    refine ⟨_, _, rfl, rfl, ?_⟩
    refine ⟨_, rfl, p, L, 3, rfl, d4.pl, h2, h64, by decide, by decide, fun sv H5 v0 v1 e5 pl5 => ?_⟩
    have d5 := d4.kp sep e5 pl5
    have e5 := e4.trans (d4.gone sep e5)
    refine ⟨rfl, ?_⟩
    generalize decide (V.int sv = V.int 0) = sb
    obtain ⟨pn, hpn⟩ : ∃ pn : Nat, low + gl = (pn : Int) := ⟨(low + gl).toNat, by omega⟩
    dsimp only
    rw [hpn]
    refine ⟨_, rfl, _, rfl, _, rfl, _, _, rfl, rfl, _, rfl, _, rfl, _, rfl, p, r, c, L, l + 1, many, mo, mood, m - 1, k - 1, low, rfl, sep, d5, ⟨h2, h64, md0, md8, by omega, hlow, by omega, by omega, by omega, hmany, mo_le hmo (by omega)⟩, fun b1 s1 H6 m6 k6 e6 d6 g06 gc6 go6 t6 => ?_⟩
    have t6 := New.old e5 d5 t6
    have e6 := e5.trans e6
    refine ⟨_, rfl, _, rfl, _, rfl, _, rfl, _, rfl, _, rfl, _, _, rfl, rfl, _, rfl, _, rfl, _, rfl, p, r, c, L, l + 1, many, mo, mood, m6, k6, low, rfl, sep, d6, ⟨h2, h64, md0, md8, by omega, hlow, by omega, by omega, by omega, hmany, mo_le hmo (by have := g06.2; omega)⟩, fun b2 s2 H7 m7 k7 e7 d7 g07 gc7 go7 t7 => ?_⟩
    have t6 := New.kpl d e7 t6
    have t7 := New.old e6 d6 t7
    have e7 := e6.trans e7
    refine ⟨small100 (n := 2) (by decide), fun u nu => ⟨small100 (n := 4) (by decide), fun t nt => ⟨small100 (n := 1) (by decide), fun a na => ?_⟩⟩⟩
    have s8 := same_upd (o := .lst [V.ref b1, V.ref b2]) nu
    have hu : (upd H7 u (.lst [V.ref b1, V.ref b2])) u = some (.lst [V.ref b1, V.ref b2]) := upd_same
    have nu' := e7.free d7.lst nu
    generalize upd H7 u (.lst [V.ref b1, V.ref b2]) = H8 at *
    have st := same_upd (o := .tup [V.str "call", V.int pn, V.bl sb, V.ref u]) nt
    have s9 := s8.trans st
    exact hfin _ (.ref t) (.call pn sb s1 s2) m7 k7 (e7.trans (KpL.of s9)) (d7.same s9) ⟨g07.1, by have := g06.2; have := g07.2; omega⟩ (by simp only [Stm.cnt]; omega) ⟨by omega, by omega, ⟨Stm.okd (l := 0) (many := 0) (x := 0) (by omega), go6⟩, Stm.okd (l := 0) (many := 0) (x := 0) (by omega), go7⟩
      ⟨t, _, rfl, upd_same, .cons rfl (.cons rfl (.cons rfl (.cons ⟨u, _, rfl, nu', st _ _ hu, .cons (t6.same s9) (.cons (t7.same s9) .nil)⟩ .nil)))⟩ a na
theorem none_piece (T : Top w K mg) : FnOk P w K mg base CX0 3 T.a__law_piece T.d__law_piece ["_law_pool_here", "_law_mood", "_law_level", "_law_room", "_law_calls", "_law_low"] (spD 1 0) := by
  have no : ∀ vs H Q E, ¬ spD 1 0 vs H Q E := fun vs H Q E ⟨_, _, _, _, _, _, _, _, m, _, _, _, _, _, ⟨_, _, _, _, _, _, h1, _, h2, _⟩, _⟩ => by omega
  exact ⟨fun vs H Q E h => absurd h (no vs H Q E), fun A outer s H args us vs Q E _ _ _ _ h => absurd h (no vs H Q E)⟩
theorem all_piece (T : Top w K mg) : ∀ n : Nat, FnOk P w K mg base CX0 (2 * n + 3) T.a__law_piece T.d__law_piece ["_law_pool_here", "_law_mood", "_law_level", "_law_room", "_law_calls", "_law_low"] (spD 1 n)
  | 0 => none_piece T
  | n + 1 => ok_piece_step T n (all_piece T n) (ok_block_step T n (all_piece T n))
theorem ok__law_piece (T : Top w K mg) : FnOk P w K mg base CX0 19 T.a__law_piece T.d__law_piece ["_law_pool_here", "_law_mood", "_law_level", "_law_room", "_law_calls", "_law_low"] (spD 1 8) := all_piece T 8

--SPLIT
def sp__law_blocks : Sp := fun vs H Q _ => ∃ (S : Addr → Prop) (z : Stm) (v : V), vs = [v] ∧ Tr S H z.d v ∧
  ∀ (q : Addr) (ys : List V) (H' : Hp), Same H H' → H q = none → H' q = some (.lst ys) → TrAll S H' (z.blocks.map bD) ys → Q (.ref q) H'
theorem filt_rest (z : Stm) (h : ¬ z.word = "call") : z.rest.filter isLs = z.blocks.map bD := by
  cases z with
  | cmd c => show (c.nums.map PyData.int).filter isLs = []; generalize c.nums = ns; induction ns with
    | nil => rfl
    | cons n r ih => simpa [isLs] using ih
  | fin w => rfl
  | keep b => rfl
  | again b => rfl
  | either a b => rfl
  | call p s a b => exact absurd rfl h
theorem ok__law_blocks (T : Top w K mg) : FnOk P w K mg base CX0 1 T.a__law_blocks T.d__law_blocks ["_law_statement"] sp__law_blocks := by
  refine T.F__law_blocks.ok sc__law_blocks (fun vs H Q E h => ?_) (fun cdv A outer s H vs Q E hr h => ?_)
  · obtain ⟨S, z, v, rfl, _⟩ := h
    rfl
  · obtain ⟨S, z, v, rfl, hv, q⟩ := h
    rw [Stm.d_eq] at hv
    obtain ⟨a, xs, rfl, ha, y, us, rfl, hy, hs⟩ := hv
    cases hy
    refine ⟨_, (pss_cons (ps_if (pt_cmpR op_eq (pe_ix (k_ixT K) (pv 0) pe_int (fun _ _ => rfl)) pe_str (nomark _)) (pss_one (ps_ret (pe_callTy (k_list K) (by rfl) T.z_list bt_list (pa_cons (pe_ix (k_ixT K) (pv 0) pe_int (fun _ _ => rfl)) pa_nil)))) pss_nil)
      (pss_one (ps_ret (pe_lc (own := [("_law_item", 1)]) (g := (gName 1)) rfl sc__law_blocks.nd (k_piT K (pe_slice (k_slT K) (pv 0) (po_some pe_int) po_none)) (blkOk_by (N := N__law_blocks) (sc := defScope s__law_blocks) (by decide +kernel)) (fun _ _ _ _ _ => (pg_name (i := 1) sc__law_blocks.nd rfl (Or.inl rfl))) (fun _ _ _ _ _ => (pts_one (pt_val (pe_callB (k_isi K) (by rfl) T.z_isinstance bt_isinstance (pa_cons (pv 1) (pa_cons (pe_bltn (v := .ty "list") (by rfl) T.z_list bt_list rfl) pa_nil)))))) (fun _ _ _ _ _ => (pv 1)))))), ?_⟩
    refine ⟨_, rfl, a, _, 0, _, rfl, rfl, SqT.of ha, at_of (j := 0) (by decide) rfl, ?_⟩
    refine ⟨rfl, _, rfl, ite2 (fun c => ?_) (fun c => ?_)⟩
    · have c : z.word = "call" := V.str.inj (of_decide_eq_true c)
      have hb := blocksR_d z
      obtain ⟨p, z', bs, e⟩ := Stm.rest_call c
      rw [e] at hs hb
      rw [blocksR, if_pos c] at hb
      obtain ⟨x1, _, rfl, t1, x2, _, rfl, t2, x3, _, rfl, ⟨b, ys, rfl, sb, hb2, tb⟩, rfl⟩ := hs
      refine ⟨_, rfl, a, _, 3, _, rfl, rfl, SqT.of ha, at_of (j := 3) (by decide) rfl, b, _, rfl, .inl (SqL.of hb2), fun l nl => ?_⟩
      have s1 := same_upd (o := .lst ys) nl
      exact q l ys _ s1 nl upd_same (by rw [← hb]; exact tb.same s1)
    · have c : ¬ z.word = "call" := fun e => c (by rw [e]; exact decide_eq_true rfl)
      have hl := hs.len
      have hs := TrAll.tracked _ _ hs
      have hl3 := z.rest_len
      refine ⟨_, rfl, _, rfl, a, _, rfl, SqT.of ha, cut_ne1, fun u nu => ⟨u, rfl, ⟨_, SqT.of upd_same⟩, fun D nD => ?_⟩⟩
      have s1 := same_upd (o := .tup (cutV (V.str z.word :: us) (some 1) none)) nu
      have hu : (upd H u (.tup (cutV (V.str z.word :: us) (some 1) none))) u = some (.tup us) := by rw [upd_same, cut_from1]
      generalize upd H u _ = H1 at *
      refine lc_tup (xs := us) (fun i H' => Same H1 H' ∧ ∃ zs, H' D = some (.lst zs) ∧ zs.length ≤ i ∧ TrAll (fun a => S a ∧ H a ≠ none) H' ((z.rest.take i).filter isLs) zs) ⟨same_upd nD, [], upd_same, Nat.le_refl _, TrAll.nil⟩ (fun i H' _ h => SqT.of (h.1 _ _ hu)) (fun i x H' hx h => ?_) (fun H' h => ?_)
      · obtain ⟨sm, zs, hD, lz, tz⟩ := h
        obtain ⟨d, hd, tx⟩ := hs.get hx
        have tx := tx.same (s1.trans sm)
        have hi := (List.getElem?_eq_some_iff.mp hx).1
        refine ⟨rfl, _, rfl, _, _, _, _, _, rfl, .ty _, tr_ty K tx, ki_list K _, _, rfl, ?_⟩
        have et : (z.rest.take (i + 1)).filter isLs = (z.rest.take i).filter isLs ++ (if isLs d = true then [d] else []) := by
          rw [List.take_add_one, hd, List.filter_append]
          cases d <;> rfl
        refine ifB (fun g => ?_) (fun g => ?_)
        · refine ⟨_, rfl, zs, hD, small1000 (by omega), same_new sm nD, zs ++ [x], upd_same, by rw [List.length_append, List.length_singleton]; omega, ?_⟩
          have k2 : KpL (fun a => a = D) H' (upd H' D (.lst (zs ++ [x]))) := KpL.refl.put rfl ⟨_, hD⟩
          rw [et, if_pos g]
          have no : ∀ a, S a ∧ H a ≠ none → ¬ a = D := fun a n e => n.2 (by rw [e]; exact s1.free nD)
          exact TrAll.snoc (TrAll.kpl k2 no _ _ tz) (Tr.kpl k2 no _ _ tx)
        · refine ⟨sm, zs, hD, by omega, ?_⟩
          rw [et, if_neg (by rw [g]; exact Bool.false_ne_true), List.append_nil]
          exact tz
      · obtain ⟨sm, zs, hD, lz, tz⟩ := h
        rw [hl, List.take_length, filt_rest z c] at tz
        exact q D zs _ (s1.trans sm) (s1.free nD) hD (TrAll.mono (fun a n => n.1) _ _ tz)
def sp__law_with : Sp := fun vs H Q _ => ∃ (S S' : Addr → Prop) (z : Stm) (v : V) (b : Addr) (ys : List V), vs = [v, .ref b] ∧ Tr S H z.d v ∧ S' b ∧ H b = some (.lst ys) ∧ TrAll S' H (z.blocks.map bD) ys ∧
  ∀ (r : V) (H' : Hp), Same H H' → Tr S' H' z.d r → Q r H'
theorem flat_rest {S S' : Addr → Prop} {H H1 : Hp} {z : Stm} (c : z.blocks = []) (s : Same H H1) {us : List V} (hs : TrAll S H z.rest us) : TrAll S' H1 z.rest us := by
  cases z with
  | cmd c' =>
    have hs : TrAll S H (c'.nums.map PyData.int) us := hs
    rw [hs.ints]
    exact TrAll.ofInts c'.nums
  | fin w' =>
    obtain ⟨x, r', rfl, t, rfl⟩ := hs
    exact ⟨x, [], rfl, t, rfl⟩
  | call p sv b0 b1 => cases c
  | keep b0 => cases c
  | again b0 => cases c
  | either b0 b1 => cases c
theorem rest_blocks {z : Stm} (h : ¬ z.word = "call") (h2 : z.blocks ≠ []) : z.rest = z.blocks.map bD := by
  cases z with
  | cmd c => exact absurd rfl h2
  | fin w => exact absurd rfl h2
  | call p s a b => exact absurd rfl h
  | _ => rfl
theorem ok__law_with (T : Top w K mg) : FnOk P w K mg base CX0 1 T.a__law_with T.d__law_with ["_law_statement", "_law_blocks_here"] sp__law_with := by
  refine T.F__law_with.ok sc__law_with (fun vs H Q E h => ?_) (fun cdv A outer s H vs Q E hr h => ?_)
  · obtain ⟨S, S', z, v, b, ys, rfl, _⟩ := h
    rfl
  · obtain ⟨S, S', z, v, b, ys, rfl, hv, sb, hb, tb, q⟩ := h
    rw [Stm.d_eq] at hv
    obtain ⟨a, xs, rfl, ha, y, us, rfl, hy, hs⟩ := hv
    cases hy
    have lb := tb.len
    rw [List.length_map] at lb
    refine ⟨_, (pss_cons (ps_if (pt_cmpR op_eq (pe_ix (k_ixT K) (pv 0) pe_int (fun _ _ => rfl)) pe_str (nomark _)) (pss_one (ps_ret (pe_op (k_catT K) (pe_slice (k_slT K) (pv 0) po_none (po_some pe_int)) (pe_tup (pa_cons (pv 1) pa_nil))))) pss_nil)
      (pss_cons (ps_if (pt_cmpR op_eq (pe_callB (k_len K) (by rfl) T.z_len bt_len (pa_cons (pv 1) pa_nil)) pe_int (nomark _)) (pss_one (ps_ret (pv 0))) pss_nil)
      (pss_one (ps_ret (pe_op (k_catT K) (pe_tup (pa_cons (pe_ix (k_ixT K) (pv 0) pe_int (fun _ _ => rfl)) pa_nil)) (pe_callTy (k_tuple K) (by rfl) T.z_tuple bt_tuple (pa_cons (pv 1) pa_nil))))))), ?_⟩
    refine ⟨_, rfl, a, _, 0, _, rfl, rfl, SqT.of ha, at_of (j := 0) (by decide) rfl, ?_⟩
    refine ⟨rfl, _, rfl, ite2 (fun c => ?_) (fun c => ?_)⟩
    · have c : z.word = "call" := V.str.inj (of_decide_eq_true c)
      cases z with
      | call p sv b0 b1 =>
        obtain ⟨x1, _, rfl, t1, x2, _, rfl, t2, x3, _, rfl, t3, rfl⟩ := hs
        cases t1
        cases t2
        refine ⟨_, rfl, _, rfl, a, _, rfl, SqT.of ha, cut_ne (n := 3) (xs := [V.str (Stm.call p sv b0 b1).word, V.int p, V.bl sv, x3]) (by show 3 < 4; decide), fun u nu => ?_⟩
        have s1 := same_upd (o := .tup (cutV [V.str (Stm.call p sv b0 b1).word, V.int p, V.bl sv, x3] none (some 3))) nu
        have hu : (upd H u (.tup (cutV [V.str (Stm.call p sv b0 b1).word, V.int p, V.bl sv, x3] none (some 3)))) u = some (.tup [V.str "call", V.int p, V.bl sv]) := by
          rw [upd_same, show cutV [V.str (Stm.call p sv b0 b1).word, V.int p, V.bl sv, x3] none (some 3) = [V.str "call", V.int p, V.bl sv] from cut_to (n := 3)]
        generalize upd H u _ = H1 at *
        refine ⟨_, rfl, small100 (n := 1) (by decide), fun t nt => ?_⟩
        have s2 := same_upd (o := .tup [V.ref b]) nt
        have ht : (upd H1 t (.tup [V.ref b])) t = some (.tup [V.ref b]) := upd_same
        have hu2 := s2 _ _ hu
        have s3 := s1.trans s2
        generalize upd H1 t _ = H2 at *
        refine ⟨u, t, _, _, rfl, rfl, SqT.of hu2, SqT.of ht, by simp, small100 (n := 4) (by decide), fun e => absurd e (List.cons_ne_nil _ _), fun _ r nr => ?_⟩
        have s4 := s3.trans (same_upd (o := .tup ([V.str "call", V.int p, V.bl sv] ++ [V.ref b])) nr)
        refine q _ _ s4 ⟨r, _, rfl, upd_same, .cons rfl (.cons rfl (.cons rfl (.cons ?_ .nil)))⟩
        exact ⟨b, ys, rfl, sb, s4 _ _ hb, tb.same s4⟩
      | cmd c' => exact absurd c (cm_call c')
      | fin w => exact absurd c (show ¬ ("end" : Str) = "call" by decide +kernel)
      | keep w => exact absurd c (show ¬ ("keep" : Str) = "call" by decide +kernel)
      | again w => exact absurd c (show ¬ ("again" : Str) = "call" by decide +kernel)
      | either w z => exact absurd c (show ¬ ("either" : Str) = "call" by decide +kernel)
    · have c : ¬ z.word = "call" := fun e => c (by rw [e]; exact decide_eq_true rfl)
      refine ⟨_, rfl, b, _, rfl, .inl (SqL.of hb), rfl, _, rfl, ite2 (fun g => ?_) (fun g => ?_)⟩
      · have g : ys.length = 0 := by have := dec_int' g; omega
        refine ⟨_, rfl, q _ _ (Same.refl _) ?_⟩
        rw [Stm.d_eq]
        exact ⟨a, _, rfl, ha, .cons rfl (flat_rest (List.length_eq_zero_iff.mp (by omega)) (Same.refl _) hs)⟩
      · have g : ys ≠ [] := fun e => g (by rw [e]; rfl)
        have g2 : z.blocks ≠ [] := fun e => g (List.length_eq_zero_iff.mp (by rw [lb, e]; rfl))
        have hl3 := blocks_len z
        refine ⟨_, rfl, a, _, 0, _, rfl, rfl, SqT.of ha, at_of (j := 0) (by decide) rfl, small100 (n := 1) (by decide), fun u nu => ?_⟩
        have s1 := same_upd (o := .tup [V.str z.word]) nu
        have hu : (upd H u (.tup [V.str z.word])) u = some (.tup [V.str z.word]) := upd_same
        generalize upd H u _ = H1 at *
        refine ⟨_, rfl, b, _, rfl, SqL.of (s1 _ _ hb), fun t nt => ?_⟩
        have s2 := same_upd (o := .tup ys) nt
        have ht : (upd H1 t (.tup ys)) t = some (.tup ys) := upd_same
        have hu2 := s2 _ _ hu
        have s3 := s1.trans s2
        generalize upd H1 t _ = H2 at *
        refine ⟨u, t, _, _, rfl, rfl, SqT.of hu2, SqT.of ht, by simp, small100 (by rw [List.length_singleton]; omega), fun e => absurd e g, fun _ r nr => ?_⟩
        have s4 := s3.trans (same_upd (o := .tup ([V.str z.word] ++ ys)) nr)
        refine q _ _ s4 ?_
        rw [Stm.d_eq, rest_blocks c g2]
        exact ⟨r, _, rfl, upd_same, .cons rfl (tb.same s4)⟩

--SPLIT
theorem ok_lcopy_step (T : Top w K mg) (n : Nat) (G__law_copy : FnOk P w K mg base CX0 (n + 1) T.a__law_copy T.d__law_copy ["_law_block_here"] (sp_copied n)) :
    FnOk P w K mg base CX0 (n + 2) T.a__law_copy T.d__law_copy ["_law_block_here"] (sp_copied (n + 1)) := by
  refine T.F__law_copy.ok sc__law_copy (fun vs H Q E h => ?_) (fun cdv A outer s H vs Q E hr h => ?_)
  · obtain ⟨S, z, v, many, l, rfl, _⟩ := h
    rfl
  · obtain ⟨S, b, v, many, l, rfl, hv, h8, ho, hl3, hl, q⟩ := h
    refine ⟨_, (pss_one (ps_ret (pe_lc (own := [("_law_row", 1)]) (g := (gName 1)) (tt := tYes) rfl sc__law_copy.nd (k_piL K (pv 0)) (blkOk_by (N := N__law_copy) (sc := defScope s__law_copy) (by decide +kernel)) (fun _ _ _ _ _ => (pg_name (i := 1) sc__law_copy.nd rfl (Or.inl rfl))) (fun _ _ _ _ _ => pts_nil) (fun _ _ _ _ _ => (pe_call (ok__law_with T) (hr.mono (by omega)) (by rfl) T.g__law_with T.F__law_with.kp (b__law_with T) .nil pass0 (pa_cons (pv 1) (pa_cons (pe_lc (own := [("_law_inner", 2)]) (g := (gName 2)) (tt := tYes) rfl sc__law_copy.nd (k_piL K (pe_call (ok__law_blocks T) (hr.mono (by omega)) (by rfl) T.g__law_blocks T.F__law_blocks.kp (b__law_blocks T) .nil pass0 (pa_cons (pv 1) pa_nil))) (blkOk_by (N := N__law_copy) (sc := (relS ({ kind := .function, names := [(".0", .local), ("_law_row", .local), ("_law_with", .globalImplicit), ("_law_blocks", .globalImplicit)], isGenerator := false, isCoroutine := false } : Scope) (defScope s__law_copy))) (by decide +kernel)) (fun _ _ _ _ _ => (pg_name (i := 2) sc__law_copy.nd rfl (Or.inl rfl))) (fun _ _ _ _ _ => pts_nil) (fun _ _ _ _ _ => (pe_call G__law_copy (hr.mono (by omega)) (by rfl) T.g__law_copy T.F__law_copy.kp (b__law_copy T) .nil pass0 (pa_cons (pv 2) pa_nil)))) pa_nil))))))), ?_⟩
    obtain ⟨a, ys, rfl, sa, ha, hs⟩ := hv
    have hl2 := hs.len
    rw [blkD_len] at hl2
    refine ⟨_, rfl, a, rfl, ⟨_, SqL.of ha⟩, fun D nD => ?_⟩
    refine lc_list (xs := ys) (fun i H' => Bld H D ((blkD b).take i) H') (Bld.nil nD) (fun i H' _ h => h.1.seq (SqL.of ha)) (fun i x H' hx h => ?_) (fun H' h => ?_)
    · obtain ⟨d, hd, tx⟩ := hs.get hx
      obtain ⟨z, hz, rfl⟩ := blkD_get hd
      have hi := (List.getElem?_eq_some_iff.mp hx).1
      have tx := tx.same h.1
      refine ⟨rfl, _, rfl, _, rfl, S, z, x, rfl, tx, fun qa zs H1 s1 nq hq tz => ?_⟩
      have lz := tz.len
      rw [List.length_map] at lz
      have l2 := blocks_len z
      refine ⟨qa, rfl, ⟨_, SqL.of hq⟩, fun D2 nD2 => ?_⟩
      refine lc_list (xs := zs) (fun j H2 => Bld H1 D2 ((z.blocks.map bD).take j) H2) (Bld.nil nD2) (fun j H2 _ g => g.1.seq (SqL.of hq)) (fun j x2 H2 hx2 g => ?_) (fun H2 g => ?_)
      · obtain ⟨d2, hd2, tx2⟩ := tz.get hx2
        obtain ⟨zb, hzb, mzb, rfl⟩ := get_blocks hd2
        obtain ⟨o1, o2, o3⟩ := ok_block (okB_get ho hz) mzb
        have hj := (List.getElem?_eq_some_iff.mp hx2).1
        refine ⟨rfl, _, rfl, S, zb, x2, many, l + 1, rfl, tx2.same g.1, o2, o3, by omega, by omega, fun r H3 s3 tr => ?_⟩
        obtain ⟨us, hD2, lu, m⟩ := g.push nD2 s3 tr
        refine ⟨us, hD2, ?_, ?_⟩
        · rw [lu, List.length_take]
          exact small1000 (by omega)
        · rw [List.take_add_one, hd2]
          exact m
      · rw [lz, ← List.length_map (f := bD), List.take_length] at g
        have st := s1.trans g.1
        obtain ⟨_, us, e', sD, hD', tu⟩ := g.done nD2
        cases e'
        refine ⟨S, New H', z, x, D2, us, rfl, tx.same st, s1.free nD2, hD', tu.newer s1, fun r H3 s3 tr => ?_⟩
        obtain ⟨ws, hD, lw, m⟩ := h.push nD (st.trans s3) tr
        refine ⟨ws, hD, ?_, ?_⟩
        · rw [lw, List.length_take]
          exact small1000 (by omega)
        · rw [List.take_add_one, hd]
          exact m
    · rw [hl2, ← blkD_len, List.take_length] at h
      exact q _ _ h.1 (h.done nD)
theorem none_lcopy (T : Top w K mg) : FnOk P w K mg base CX0 1 T.a__law_copy T.d__law_copy ["_law_block_here"] (sp_copied 0) := by
  have no : ∀ vs H Q E, ¬ sp_copied 0 vs H Q E := fun vs H Q E ⟨_, _, _, _, l, _, _, _, _, h1, h2, _⟩ => by omega
  exact ⟨fun vs H Q E h => absurd h (no vs H Q E), fun A outer s H args us vs Q E _ _ _ _ h => absurd h (no vs H Q E)⟩
theorem all_lcopy (T : Top w K mg) : ∀ n : Nat, FnOk P w K mg base CX0 (n + 1) T.a__law_copy T.d__law_copy ["_law_block_here"] (sp_copied n)
  | 0 => none_lcopy T
  | n + 1 => ok_lcopy_step T n (all_lcopy T n)
theorem ok__law_copy (T : Top w K mg) : FnOk P w K mg base CX0 5 T.a__law_copy T.d__law_copy ["_law_block_here"] (sp_copied 4) := all_lcopy T 4

--SPLIT
/-! ### data whose tuples and lists may be objects of the module -/
theorem sqL_same {K : PySem.W.Frag} {H H' : Hp} {a : Addr} {xs : List V} (h : SqL K H a xs) (s : Same H H') : SqL K H' a xs := by
  rcases h with (h | ⟨o, h⟩) | h
  · exact .inl (.inl (s _ _ h))
  · exact .inl (.inr ⟨o, s _ _ h⟩)
  · exact .inr h
section
variable (K : PySem.W.Frag) (H : Hp)
mutual
def TQ : PyData → V → Prop
  | .none, v => v = .non
  | .bool b, v => v = .bl b
  | .int z, v => v = .int z
  | .str s, v => v = .str s
  | .list ds, v => ∃ a xs, v = .ref a ∧ SqL K H a xs ∧ TQAll ds xs
  | .tuple ds, v => ∃ a xs, v = .ref a ∧ SqT K H a xs ∧ TQAll ds xs
  | .dict _, _ => False
def TQAll : List PyData → List V → Prop
  | [], xs => xs = []
  | d :: r, xs => ∃ x us, xs = x :: us ∧ TQ d x ∧ TQAll r us
end
end
section
variable {K : PySem.W.Frag} {H H' : Hp}
mutual
theorem TQ.same (s : Same H H') : ∀ {d : PyData} {v : V}, TQ K H d v → TQ K H' d v
  | .none, _, h => h
  | .bool _, _, h => h
  | .int _, _, h => h
  | .str _, _, h => h
  | .list ds, v, ⟨a, xs, e, l, t⟩ => ⟨a, xs, e, sqL_same l s, TQAll.same s t⟩
  | .tuple ds, v, ⟨a, xs, e, l, t⟩ => ⟨a, xs, e, sqT_same l s, TQAll.same s t⟩
  | .dict _, _, h => h.elim
theorem TQAll.same (s : Same H H') : ∀ {ds : List PyData} {vs : List V}, TQAll K H ds vs → TQAll K H' ds vs
  | [], _, h => h
  | d :: r, _, ⟨x, us, e, t, u⟩ => ⟨x, us, e, TQ.same s t, TQAll.same s u⟩
end
mutual
theorem TQ.dp : ∀ (d : PyData) (v : V), TQ K H d v → Dp K H v d
  | .none, _, h => by cases h; exact .non
  | .bool b, _, h => by cases h; exact .bl b
  | .int b, _, h => by cases h; exact .int b
  | .str b, _, h => by cases h; exact .str b
  | .list ds, v, ⟨a, xs, e, l, t⟩ => by subst e; exact .lst l (TQAll.dp ds xs t)
  | .tuple ds, v, ⟨a, xs, e, l, t⟩ => by subst e; exact .tup l (TQAll.dp ds xs t)
  | .dict _, _, h => h.elim
theorem TQAll.dp : ∀ (ds : List PyData) (xs : List V), TQAll K H ds xs → DpAll K H xs ds
  | [], _, h => by cases h; exact .nil
  | d :: r, _, ⟨x, us, e, t, u⟩ => by subst e; exact .cons (TQ.dp d x t) (TQAll.dp r us u)
end
theorem tq_ty : ∀ {d : PyData} {v : V}, TQ K H d v → TyX K H v (.type (clsN d))
  | .none, v, e => by cases e; exact .base .non
  | .bool b, v, e => by cases e; exact .base (.bl b)
  | .int b, v, e => by cases e; exact .base (.int b)
  | .str b, v, e => by cases e; exact .base (.str b)
  | .list _, v, ⟨a, xs, e, l, _⟩ => by cases e; exact sqL_ty l
  | .tuple _, v, ⟨a, xs, e, l, _⟩ => by cases e; exact sqT_ty l
  | .dict _, v, h => h.elim
theorem TQAll.len : ∀ {ds : List PyData} {xs : List V}, TQAll K H ds xs → xs.length = ds.length
  | [], _, h => by cases h; rfl
  | d :: r, _, ⟨x, us, e, _, q⟩ => by subst e; rw [List.length_cons, List.length_cons, TQAll.len q]
theorem TQAll.get : ∀ {ds : List PyData} {xs : List V} {i : Nat} {x : V}, TQAll K H ds xs → xs[i]? = some x → ∃ d, ds[i]? = some d ∧ TQ K H d x
  | [], _, i, x, h, e => by cases h; cases e
  | d :: r, _, 0, x, ⟨y, us, e, t, _⟩, g => by subst e; cases g; exact ⟨d, rfl, t⟩
  | d :: r, _, i + 1, x, ⟨y, us, e, t, q⟩, g => by subst e; exact TQAll.get (ds := r) q g
mutual
theorem Tr.tq {S : Addr → Prop} : ∀ {d : PyData} {v : V}, PyData.canLay0 d = true → Tr S H d v → TQ K H d v
  | .none, _, _, h => h
  | .bool _, _, _, h => h
  | .int _, _, _, h => h
  | .str _, _, _, h => h
  | .list ds, v, c, ⟨a, xs, e, _, l, t⟩ => ⟨a, xs, e, SqL.of l, TrAll.tq (by simpa [PyData.canLay0] using c) t⟩
  | .tuple ds, v, c, ⟨a, xs, e, l, t⟩ => ⟨a, xs, e, SqT.of l, TrAll.tq (by simpa [PyData.canLay0] using c) t⟩
  | .dict _, _, c, h => by simp [PyData.canLay0] at c
theorem TrAll.tq {S : Addr → Prop} : ∀ {ds : List PyData} {vs : List V}, PyData.canLayAll0 ds = true → TrAll S H ds vs → TQAll K H ds vs
  | [], _, _, h => h
  | d :: r, _, c, ⟨x, us, e, t, u⟩ => ⟨x, us, e, Tr.tq (by simp only [PyData.canLayAll0, Bool.and_eq_true] at c; exact c.1) t, TrAll.tq (by simp only [PyData.canLayAll0, Bool.and_eq_true] at c; exact c.2) u⟩
end
theorem TQAll.ofInts : ∀ (ns : List Int), TQAll K H (ns.map PyData.int) (ns.map V.int)
  | [] => rfl
  | n :: r => ⟨_, _, rfl, rfl, TQAll.ofInts r⟩
theorem tq_pen {a : Addr} {ps : List Int} (h : SqT K H a (ps.map V.int)) : TQ K H (penD ps) (.ref a) := ⟨a, _, rfl, h, TQAll.ofInts ps⟩
theorem tq_lst {a : Addr} {ps : List Int} (h : SqL K H a (ps.map V.int)) : TQ K H (.list (ps.map .int)) (.ref a) := ⟨a, _, rfl, h, TQAll.ofInts ps⟩
end
section
variable (K : PySem.W.Frag) {X : Cx}
theorem ki_lt (d : PyData) : PySem.W.kitAny K (.type (clsN d)) [.type "list", .type "tuple"] = some (isLs d || isTp d) := by
  unfold PySem.W.kitAny
  rw [ki_list K d]
  cases h : isLs d
  · unfold PySem.W.kitAny
    rw [ki_tuple K d]
    cases h2 : isTp d
    · rfl
    · rfl
  · rfl
end
/-- a list's or a tuple's items -/
def itemsD : PyData → List PyData
  | .list ds => ds
  | .tuple ds => ds
  | _ => []
theorem seq_of {K : PySem.W.Frag} {H : Hp} {d : PyData} {v : V} (t : TQ K H d v) (h : (isLs d || isTp d) = true) : ∃ a xs, v = .ref a ∧ (SqL K H a xs ∨ SqT K H a xs) ∧ TQAll K H (itemsD d) xs := by
  cases d with
  | list ds =>
    obtain ⟨a, xs, e, l, q⟩ := t
    exact ⟨a, xs, e, .inl l, q⟩
  | tuple ds =>
    obtain ⟨a, xs, e, l, q⟩ := t
    exact ⟨a, xs, e, .inr l, q⟩
  | _ => cases h
theorem fit_items {d : PyData} {n : Nat} (h : Fit d (n + 1)) (g : (isLs d || isTp d) = true) : (itemsD d).length ≤ 100 ∧ FitAll (itemsD d) n := by
  cases d with
  | list ds => exact h
  | tuple ds => exact h
  | _ => cases g
theorem same_items {d e : PyData} (h : isLs d = isLs e) (h2 : isTp d = isTp e) (g : (isLs d || isTp d) = true) : sameD d e = sameAll (itemsD d) (itemsD e) := by
  cases d <;> cases e <;> simp_all [isLs, isTp, sameD, itemsD]
theorem same_kinds {d e : PyData} (h : isLs d ≠ isLs e ∨ isTp d ≠ isTp e) (g : (isLs d || isTp d) = true) : sameD d e = false := by
  cases d <;> cases e <;> simp_all [isLs, isTp, sameD]
theorem same_leafL {d e : PyData} (g : (isLs d || isTp d) = false) (h : (isLs e || isTp e) = true) : sameD d e = false := by
  cases d <;> cases e <;> simp_all [isLs, isTp, sameD]
theorem same_leafB {d e : PyData} (g : (isLs d || isTp d) = false) (h : (isLs e || isTp e) = false) (b : isBl d ≠ isBl e) : sameD d e = false := by
  cases d <;> cases e <;> simp_all [isLs, isTp, isBl, sameD]
theorem same_leaf {d e : PyData} (g : (isLs d || isTp d) = false) (h : (isLs e || isTp e) = false) (b : isBl d = isBl e) : sameD d e = (decide (isNum d = isNum e) && PyData.eqv d e) := by
  cases d <;> cases e <;> simp_all [isLs, isTp, isBl, isNum, sameD, PyData.eqv]
def sp__law_same (K : PySem.W.Frag) (n : Nat) : Sp := fun vs H Q _ => ∃ (d e : PyData) (v u : V), vs = [v, u] ∧ TQ K H d v ∧ TQ K H e u ∧ Fit d n ∧ Fit e n ∧ n ≤ 60 ∧ ∀ H', Same H H' → Q (.bl (sameD d e)) H'
theorem ok_same_step (T : Top w K mg) (n : Nat) (G__law_same : FnOk P w K mg base CX0 (n + 1) T.a__law_same T.d__law_same ["_law_one", "_law_other"] (sp__law_same K n)) :
    FnOk P w K mg base CX0 (n + 2) T.a__law_same T.d__law_same ["_law_one", "_law_other"] (sp__law_same K (n + 1)) := by
  refine T.F__law_same.ok sc__law_same (fun vs H Q E h => ?_) (fun cdv A outer s H vs Q E hr h => ?_)
  · obtain ⟨d, e, v, u, rfl, _⟩ := h
    rfl
  · obtain ⟨d, e, v, u, rfl, hv, hu, fd, fe, hn, q⟩ := h
    refine ⟨_, (pss_cons (ps_if (pt_val (pe_callB (k_isiT K) (by rfl) T.z_isinstance bt_isinstance (pa_cons (pv 0) (pa_cons (pe_tup (pa_cons (pe_bltn (v := .ty "list") (by rfl) T.z_list bt_list rfl) (pa_cons (pe_bltn (v := .ty "tuple") (by rfl) T.z_tuple bt_tuple rfl) pa_nil))) pa_nil)))) (pss_cons (ps_if (PW.pt (pw_or (pt_cmpR op_ne (pe_callB (k_isi K) (by rfl) T.z_isinstance bt_isinstance (pa_cons (pv 0) (pa_cons (pe_bltn (v := .ty "list") (by rfl) T.z_list bt_list rfl) pa_nil))) (pe_callB (k_isi K) (by rfl) T.z_isinstance bt_isinstance (pa_cons (pv 1) (pa_cons (pe_bltn (v := .ty "list") (by rfl) T.z_list bt_list rfl) pa_nil))) (nomark _)) (pw_or1 (pt_cmpR op_ne (pe_callB (k_isi K) (by rfl) T.z_isinstance bt_isinstance (pa_cons (pv 0) (pa_cons (pe_bltn (v := .ty "tuple") (by rfl) T.z_tuple bt_tuple rfl) pa_nil))) (pe_callB (k_isi K) (by rfl) T.z_isinstance bt_isinstance (pa_cons (pv 1) (pa_cons (pe_bltn (v := .ty "tuple") (by rfl) T.z_tuple bt_tuple rfl) pa_nil))) (nomark _))))) (pss_one (ps_ret pe_bl)) pss_nil)
        (pss_one (ps_ret (pe_and (pe_cmpR op_eq (pe_callB (k_len K) (by rfl) T.z_len bt_len (pa_cons (pv 0) pa_nil)) (pe_callB (k_len K) (by rfl) T.z_len bt_len (pa_cons (pv 1) pa_nil)) (nomark _)) (pe_one (pe_callB (k_all K) (by rfl) T.z_all bt_all (pa_cons (pe_lc (own := [("_law_k", 2)]) (g := (gName 2)) (tt := tYes) rfl sc__law_same.nd (pi_range1 (by rfl) T.z_range (pa_cons (pe_callB (k_len K) (by rfl) T.z_len bt_len (pa_cons (pv 0) pa_nil)) pa_nil)) (blkOk_by (N := N__law_same) (sc := defScope s__law_same) (by decide +kernel)) (fun _ _ _ _ _ => (pg_name (i := 2) sc__law_same.nd rfl (Or.inl rfl))) (fun _ _ _ _ _ => pts_nil) (fun _ _ _ _ _ => (pe_call G__law_same (hr.mono (by omega)) (by rfl) T.g__law_same T.F__law_same.kp (b__law_same T) .nil pass0 (pa_cons (pe_ix (k_ixQ K) (pv 0) (pv 2) (fun _ _ => rfl)) (pa_cons (pe_ix (k_ixQ K) (pv 1) (pv 2) (fun _ _ => rfl)) pa_nil))))) pa_nil))))))) pss_nil)
      (pss_cons (ps_if (PW.pt (pw_or (pt_val (pe_callB (k_isiT K) (by rfl) T.z_isinstance bt_isinstance (pa_cons (pv 1) (pa_cons (pe_tup (pa_cons (pe_bltn (v := .ty "list") (by rfl) T.z_list bt_list rfl) (pa_cons (pe_bltn (v := .ty "tuple") (by rfl) T.z_tuple bt_tuple rfl) pa_nil))) pa_nil)))) (pw_or1 (pt_cmpR op_ne (pe_callB (k_isi K) (by rfl) T.z_isinstance bt_isinstance (pa_cons (pv 0) (pa_cons (pe_bltn (v := .ty "bool") (by rfl) T.z_bool bt_bool rfl) pa_nil))) (pe_callB (k_isi K) (by rfl) T.z_isinstance bt_isinstance (pa_cons (pv 1) (pa_cons (pe_bltn (v := .ty "bool") (by rfl) T.z_bool bt_bool rfl) pa_nil))) (nomark _))))) (pss_one (ps_ret pe_bl)) pss_nil)
      (pss_one (ps_ret (pe_and (pe_cmpR op_eq (pe_callB (k_isi K) (by rfl) T.z_isinstance bt_isinstance (pa_cons (pv 0) (pa_cons (pe_bltn (v := .ty "int") (by rfl) T.z_int bt_int rfl) pa_nil))) (pe_callB (k_isi K) (by rfl) T.z_isinstance bt_isinstance (pa_cons (pv 1) (pa_cons (pe_bltn (v := .ty "int") (by rfl) T.z_int bt_int rfl) pa_nil))) (nomark _)) (pe_one (pe_cmpR (op_eqD (hu64 hr)) (pv 0) (pv 1) (nomark _)))))))), ?_⟩
    refine ⟨_, rfl, small100 (n := 2) (by decide), fun t nt => ?_⟩
    have s1 := same_upd (o := .tup [V.ty "list", V.ty "tuple"]) nt
    have ht : (upd H t (.tup [V.ty "list", V.ty "tuple"])) t = some (.tup [V.ty "list", V.ty "tuple"]) := upd_same
    have hv := hv.same s1
    have hu := hu.same s1
    generalize upd H t _ = H1 at *
    refine ⟨_, t, _, _, _, _, rfl, ht, .cons (.ty _) (.cons (.ty _) .nil), tq_ty hv, ki_lt K d, _, rfl, ifB (fun g => ?_) (fun g => ?_)⟩
    · obtain ⟨fl, fa⟩ := fit_items fd g
      have decB : ∀ {a b : Bool}, (!decide (V.bl a = V.bl b)) = true → a ≠ b := fun h e => by
        rw [e, decide_eq_true rfl] at h
        cases h
      have decB' : ∀ {a b : Bool}, (!decide (V.bl a = V.bl b)) = false → a = b := fun {a b} h => by
        by_cases e : V.bl a = V.bl b
        · exact V.bl.inj e
        · rw [decide_eq_false e] at h
          cases h
      refine ⟨_, rfl, _, _, _, _, _, rfl, .ty _, tq_ty hv, ki_list K d, _, rfl, _, _, _, _, _, rfl, .ty _, tq_ty hu, ki_list K e, rfl, _, rfl, ifB (fun c => ?_) (fun c => ?_)⟩
      · rw [same_kinds (.inl (decB c)) g] at q
        exact q _ s1
      have c1 := decB' c
      refine ⟨_, rfl, _, _, _, _, _, rfl, .ty _, tq_ty hv, ki_tuple K d, _, rfl, _, _, _, _, _, rfl, .ty _, tq_ty hu, ki_tuple K e, rfl, _, rfl, ifB (fun c => ?_) (fun c => ?_)⟩
      · rw [same_kinds (.inr (decB c)) g] at q
        exact q _ s1
      have c2 := decB' c
      have g2 : (isLs e || isTp e) = true := by rw [← c1, ← c2]; exact g
      obtain ⟨fl2, fa2⟩ := fit_items fe g2
      rw [same_items c1 c2 g] at q
      obtain ⟨a, xs, rfl, ha, hs⟩ := seq_of hv g
      obtain ⟨b, ys, rfl, hb, hs2⟩ := seq_of hu g2
      have lx := hs.len
      have ly := hs2.len
      have sqa : ∀ {J : Hp}, Same H1 J → SqL K J a xs ∨ SqT K J a xs := fun s => ha.elim (fun h => .inl (sqL_same h s)) fun h => .inr (sqT_same h s)
      have sqb : ∀ {J : Hp}, Same H1 J → SqL K J b ys ∨ SqT K J b ys := fun s => hb.elim (fun h => .inl (sqL_same h s)) fun h => .inr (sqT_same h s)
      refine ⟨_, rfl, a, _, rfl, sqa (Same.refl _), _, rfl, b, _, rfl, sqb (Same.refl _), rfl, _, rfl, ?_⟩
      by_cases el : (itemsD d).length = (itemsD e).length
      · refine iteP (by rw [lx, ly, el]) ?_
        rw [sameAll_zip _ _ el] at q
        refine ⟨_, rfl, a, _, rfl, sqa (Same.refl _), ((xs.length : Nat) : Int), rfl, by omega, by omega, fun D nD => ?_⟩
        have lz : (List.zipWith sameD (itemsD d) (itemsD e)).length = xs.length := by rw [List.length_zipWith, ← el, lx]; omega
        refine lc_range (n := ((xs.length : Nat) : Int).toNat) (fun i H' => Same H1 H' ∧ H' D = some (.lst (((List.zipWith sameD (itemsD d) (itemsD e)).take i).map V.bl))) ⟨same_upd nD, upd_same⟩ (fun i H' hi h => ?_) (fun H' h => ?_)
        · obtain ⟨sm, hD⟩ := h
          have hi1 : i < xs.length := by omega
          have hi2 : i < ys.length := by omega
          have gx : xs[i]? = some xs[i] := List.getElem?_eq_getElem hi1
          have gy : ys[i]? = some ys[i] := List.getElem?_eq_getElem hi2
          obtain ⟨dx, hdx, tx⟩ := hs.get gx
          obtain ⟨dy, hdy, ty⟩ := hs2.get gy
          have ax : atI xs (0 + (i : Int)) = some xs[i] := at_of (j := i) (by omega) gx
          have ay : atI ys (0 + (i : Int)) = some ys[i] := at_of (j := i) (by omega) gy
          have rix : ∀ {J : Hp} {p : Addr} {zs : List V} {z : V} {Q' : VK}, (SqL K J p zs ∨ SqT K J p zs) → atI zs (0 + (i : Int)) = some z → Q' z J → rIx K (.ref p) (.int (0 + (i : Int))) J Q' := fun h1 h2 h3 => h1.elim (fun h => .inl ⟨_, _, _, _, rfl, rfl, h, h2, h3⟩) fun h => .inr (.inl ⟨_, _, _, _, rfl, rfl, h, h2, h3⟩)
          refine ⟨rfl, _, rfl, _, rfl, rix (sqa sm) ax ⟨_, rfl, _, rfl, rix (sqb sm) ay ?_⟩⟩
          refine ⟨dx, dy, _, _, rfl, tx.same sm, ty.same sm, fa.get hdx, fa2.get hdy, by omega, fun J sJ => ⟨_, sJ _ _ hD, ?_, same_new (sm.trans sJ) nD, ?_⟩⟩
          · rw [List.length_map, List.length_take]
            exact small1000 (by omega)
          · rw [upd_same, List.take_add_one, List.getElem?_zipWith, hdx, hdy, List.map_append]
            rfl
        · rw [show ((xs.length : Nat) : Int).toNat = xs.length by omega, ← lz, List.take_length] at h
          exact ⟨D, _, rfl, SqL.of h.2, q _ (s1.trans h.1)⟩
      · refine iteN (fun z => el (by have := V.int.inj z; omega)) ?_
        rw [sameAll_len _ _ el] at q
        exact q _ s1
    · refine ⟨_, rfl, small100 (n := 2) (by decide), fun t2 nt2 => ?_⟩
      have s2 := s1.trans (same_upd (o := .tup [V.ty "list", V.ty "tuple"]) nt2)
      have ht2 : (upd H1 t2 (.tup [V.ty "list", V.ty "tuple"])) t2 = some (.tup [V.ty "list", V.ty "tuple"]) := upd_same
      have hv := hv.same (same_upd (o := .tup [V.ty "list", V.ty "tuple"]) nt2)
      have hu := hu.same (same_upd (o := .tup [V.ty "list", V.ty "tuple"]) nt2)
      generalize upd H1 t2 _ = H2 at *
      refine ⟨_, t2, _, _, _, _, rfl, ht2, .cons (.ty _) (.cons (.ty _) .nil), tq_ty hu, ki_lt K e, _, rfl, ifB (fun g2 => ?_) (fun g2 => ?_)⟩
      · rw [same_leafL g g2] at q
        exact q _ s2
      refine ⟨_, rfl, _, _, _, _, _, rfl, .ty _, tq_ty hv, ki_bool K d, _, rfl, _, _, _, _, _, rfl, .ty _, tq_ty hu, ki_bool K e, rfl, _, rfl, ifB (fun c => ?_) (fun c => ?_)⟩
      · rw [same_leafB g g2 (fun e => by rw [e, decide_eq_true rfl] at c; cases c)] at q
        exact q _ s2
      have c1 : isBl d = isBl e := by
        by_cases h : V.bl (isBl d) = V.bl (isBl e)
        · exact V.bl.inj h
        · rw [decide_eq_false h] at c
          cases c
      rw [same_leaf g g2 c1] at q
      refine ⟨_, rfl, _, _, _, _, _, rfl, .ty _, tq_ty hv, ki_int K d, _, rfl, _, _, _, _, _, rfl, .ty _, tq_ty hu, ki_int K e, rfl, _, rfl, ?_⟩
      by_cases c3 : isNum d = isNum e
      · refine iteP (by rw [c3]) ?_
        rw [decide_eq_true c3, Bool.true_and] at q
        have sd := fd.shaped (by omega)
        have se := fe.shaped (by omega)
        exact ⟨_, rfl, _, rfl, d, e, TQ.dp _ _ hv, TQ.dp _ _ hu, sd, se, q _ s2⟩
      · refine iteN (fun z => c3 (V.bl.inj z)) ?_
        rw [decide_eq_false c3, Bool.false_and] at q
        exact q _ s2
theorem none_same (T : Top w K mg) : FnOk P w K mg base CX0 1 T.a__law_same T.d__law_same ["_law_one", "_law_other"] (sp__law_same K 0) := by
  have no : ∀ vs H Q E, ¬ sp__law_same K 0 vs H Q E := fun vs H Q E ⟨d, _, _, _, _, _, _, h, _⟩ => by cases d <;> exact h.elim
  exact ⟨fun vs H Q E h => absurd h (no vs H Q E), fun A outer s H args us vs Q E _ _ _ _ h => absurd h (no vs H Q E)⟩
theorem all_same (T : Top w K mg) : ∀ n : Nat, FnOk P w K mg base CX0 (n + 1) T.a__law_same T.d__law_same ["_law_one", "_law_other"] (sp__law_same K n)
  | 0 => none_same T
  | n + 1 => ok_same_step T n (all_same T n)
theorem ok__law_same (T : Top w K mg) : FnOk P w K mg base CX0 17 T.a__law_same T.d__law_same ["_law_one", "_law_other"] (sp__law_same K 16) := all_same T 16

--SPLIT
/-! ### the law's own machine as data -/
inductive LTh where
  | st (z : Stm)
  | shut
  | out (p : Nat) (s : Bool) (a b : List Stm) (w : Bool)
/-- deeds as the program has them -/
structure LSt where
  bits : List Bool
  extra : Nat
  taken : Nat
  way : Int
  deeds : List Dd
  opens : List (Nat × Nat)
  todo : List LTh
/-- the bit that the law puts behind the others -/
def chL : Stm → Bool
  | .either a _ => !(Builtin.Str.occurrences (PyData.list (blkD a)).shown ("call" : Str) 0 (PyData.list (blkD a)).shown.length 1).isEmpty
  | _ => false
def bitL (z : Stm) (s : LSt) : Option (Bool × LSt) :=
  if s.taken = s.bits.length then
    if s.extra = 0 then none else some (chL z, { s with extra := s.extra - 1, bits := s.bits ++ [chL z], taken := s.taken + 1 })
  else some (s.bits.getD s.taken false, { s with taken := s.taken + 1 })
def cutO : List LTh → List Dd → Option ((Nat × Bool × List Stm × List Stm) × List LTh × List Dd)
  | [], _ => none
  | .out p sv a b _ :: r, ds => some ((p, sv, a, b), r, ds)
  | .shut :: r, ds => cutO r (ds ++ [.back])
  | .st _ :: r, ds => cutO r ds
def holdIf (sv : Bool) : List Dd := if sv then [.hold] else []
def backIf (sv : Bool) : List Dd := if sv then [.back] else []
/-- what a thing leaves to do ahead of the rest -/
def taskL (bs : List (List Stm)) : LTh → LSt → Option (List LTh × LSt)
  | .st (.either a b), s => (bitL (.either a b) s).map fun r => ((if r.1 then b else a).map LTh.st, r.2)
  | .st (.again b), s => (bitL (.again b) s).map fun r => (if r.1 then b.map LTh.st ++ [.st (.again b)] else [], r.2)
  | .st (.keep b), s => some (b.map LTh.st ++ [.shut], { s with deeds := s.deeds ++ [.hold] })
  | .st (.call p sv a b), s => if (p, s.taken) ∈ s.opens then none else some ((bs.getD p []).map LTh.st ++ [.out p sv a b false], { s with opens := s.opens ++ [(p, s.taken)], deeds := s.deeds ++ holdIf sv })
  | .st (.fin w), s => (cutO s.todo s.deeds).map fun r => ([.out r.1.1 r.1.2.1 r.1.2.2.1 r.1.2.2.2 w], { s with todo := r.2.1, deeds := r.2.2 })
  | .out p sv a b w, s => some ((if w then b else a).map LTh.st, { s with opens := s.opens.dropLast, way := wayN w, deeds := s.deeds ++ backIf sv })
  | .st (.cmd c), s => some ([], { s with deeds := s.deeds ++ [.cmd c] })
  | .shut, s => some ([], { s with deeds := s.deeds ++ [.back] })
inductive LRes where
  | never (s : LSt)
  | short (s : LSt)
  | fin (s : LSt)
def LTh.isCall : LTh → Bool
  | .st (.call _ _ _ _) => true
  | _ => false
def runL (bs : List (List Stm)) : Nat → LSt → LRes
  | 0, s => .fin s
  | n + 1, s => match s.todo with
    | [] => .fin s
    | x :: r => match taskL bs x { s with todo := r } with
      | none => if x.isCall then .never { s with todo := r } else .short { s with todo := r }
      | some (blk, s') => runL bs n { s' with todo := blk ++ s'.todo }
/-! ### as it stands in the heap -/
def LTh.d : LTh → PyData
  | .st z => z.d
  | .shut => .tuple [.str "shut"]
  | .out p sv a b w => .tuple [.str "out", (Stm.call p sv a b).d, .int (wayN w)]
def Dd.ld : Dd → PyData
  | .cmd c => c.d
  | .hold => .tuple [.str "hold"]
  | .back => .tuple [.str "shut"]
def opD (o : Nat × Nat) : PyData := .tuple [.int o.1, .int o.2]
mutual
theorem stm_noD : ∀ z : Stm, z.d.hasDict = false
  | .cmd c => by
    have : ∀ ns : List Int, PyData.hasDictAll (ns.map PyData.int) = false := fun ns => by
      induction ns with
      | nil => simp only [List.map_nil, PyData.hasDictAll]
      | cons n r ih => simp only [List.map_cons, PyData.hasDictAll, PyData.hasDict, ih, Bool.or_self]
    simp only [Stm.d, Cm.d, PyData.hasDict, PyData.hasDictAll, this, Bool.or_self]
  | .fin w => by simp [Stm.d, PyData.hasDict, PyData.hasDictAll]
  | .keep b => by simp [Stm.d, PyData.hasDict, PyData.hasDictAll, blk_noD b]
  | .again b => by simp [Stm.d, PyData.hasDict, PyData.hasDictAll, blk_noD b]
  | .either a b => by simp [Stm.d, PyData.hasDict, PyData.hasDictAll, blk_noD a, blk_noD b]
  | .call p s a b => by simp [Stm.d, PyData.hasDict, PyData.hasDictAll, blk_noD a, blk_noD b]
theorem blk_noD : ∀ b : List Stm, PyData.hasDictAll (blkD b) = false
  | [] => by simp [blkD, PyData.hasDictAll]
  | z :: r => by simp [blkD, PyData.hasDictAll, stm_noD z, blk_noD r]
end
theorem all_noD {α : Type} (f : α → PyData) (h : ∀ a, (f a).hasDict = false) : ∀ l : List α, PyData.hasDictAll (l.map f) = false
  | [] => by simp only [List.map_nil, PyData.hasDictAll]
  | a :: r => by simp only [List.map_cons, PyData.hasDictAll, h a, all_noD f h r, Bool.or_self]
theorem lth_noD : ∀ x : LTh, x.d.hasDict = false
  | .st z => stm_noD z
  | .shut => by simp [LTh.d, PyData.hasDict, PyData.hasDictAll]
  | .out p s a b w => by simp [LTh.d, PyData.hasDict, PyData.hasDictAll, stm_noD]
theorem ld_noD : ∀ x : Dd, x.ld.hasDict = false
  | .cmd c => stm_noD (.cmd c)
  | .hold => by simp [Dd.ld, PyData.hasDict, PyData.hasDictAll]
  | .back => by simp [Dd.ld, PyData.hasDict, PyData.hasDictAll]
theorem op_noD (o : Nat × Nat) : (opD o).hasDict = false := by simp [opD, PyData.hasDict, PyData.hasDictAll]
theorem bD_noD (b : List Stm) : (bD b).hasDict = false := by
  show (PyData.list (blkD b)).hasDict = false
  simp only [PyData.hasDict, blk_noD b]
section
variable {S : Addr → Prop} {H H' : Hp}
mutual
theorem Tr.stay (k : ∀ b o, ((∃ xs, o = HO.lst xs) ∧ S b) ∨ (∃ xs, o = HO.tup xs) → H b = some o → H' b = some o) : ∀ (d : PyData) (v : V), d.hasDict = false → Tr S H d v → Tr S H' d v
  | .none, _, _, h => h
  | .bool _, _, _, h => h
  | .int _, _, _, h => h
  | .str _, _, _, h => h
  | .list ds, v, n, ⟨a, xs, e, s, l, t⟩ => ⟨a, xs, e, s, k _ _ (.inl ⟨⟨_, rfl⟩, s⟩) l, TrAll.stay k ds xs (by simpa only [PyData.hasDict] using n) t⟩
  | .tuple ds, v, n, ⟨a, xs, e, l, t⟩ => ⟨a, xs, e, k _ _ (.inr ⟨_, rfl⟩) l, TrAll.stay k ds xs (by simpa only [PyData.hasDict] using n) t⟩
  | .dict ds, v, n, _ => by simp only [PyData.hasDict] at n; cases n
theorem TrAll.stay (k : ∀ b o, ((∃ xs, o = HO.lst xs) ∧ S b) ∨ (∃ xs, o = HO.tup xs) → H b = some o → H' b = some o) : ∀ (ds : List PyData) (vs : List V), PyData.hasDictAll ds = false → TrAll S H ds vs → TrAll S H' ds vs
  | [], _, _, h => h
  | d :: r, _, n, ⟨x, us, e, t, u⟩ => by
    simp only [PyData.hasDictAll, Bool.or_eq_false_iff] at n
    exact ⟨x, us, e, Tr.stay k d x n.1 t, TrAll.stay k r us n.2 u⟩
end
end
/-- where the law's state stands -/
structure LA where
  d : Addr
  aY : Addr
  aB : Addr
  aD : Addr
  aO : Addr
  S : Addr → Prop
  bs : List (List Stm)
def lkv0 (A : LA) (s : LSt) : List (L2.Key × V) := [(.inr "bodies", .ref A.aY), (.inr "bits", .ref A.aB), (.inr "extra", natV s.extra), (.inr "taken", natV s.taken), (.inr "way", .int s.way), (.inr "deeds", .ref A.aD), (.inr "opens", .ref A.aO)]
def lkv (A : LA) (s : LSt) (aT : Addr) : List (L2.Key × V) := lkv0 A s ++ [(.inr "todo", .ref aT)]
def LA.M (A : LA) : Addr → Prop := fun a => a = A.d ∨ a = A.aB ∨ a = A.aD ∨ a = A.aO
structure LV (A : LA) (s : LSt) (H : Hp) : Prop where
  dict : ∃ aT ts, H A.d = some (.dK (lkv A s aT)) ∧ H aT = some (.lst ts) ∧ TrAll A.S H (s.todo.map LTh.d) ts ∧ ¬ A.M aT
  bod : ∃ ys, H A.aY = some (.lst ys) ∧ TrAll A.S H (A.bs.map bD) ys
  bts : H A.aB = some (.lst (s.bits.map bitV))
  dds : ∃ ds, H A.aD = some (.lst ds) ∧ TrAll A.S H (s.deeds.map Dd.ld) ds
  ops : ∃ os, H A.aO = some (.lst os) ∧ TrAll A.S H (s.opens.map opD) os
  sep : [A.d, A.aY, A.aB, A.aD, A.aO].Nodup ∧ ∀ a, A.M a → ¬ A.S a
  tk : s.taken ≤ s.bits.length
section
variable {A : LA} {s s' : LSt} {H H' : Hp}
/-- what M holds is no tuple -/
theorem LV.noTup (X : LV A s H) {a : Addr} {xs : List V} (m : A.M a) : H a ≠ some (.tup xs) := fun e => by
  obtain ⟨aT, ts, hd, _⟩ := X.dict
  obtain ⟨ds, h2, _⟩ := X.dds
  obtain ⟨os, h3, _⟩ := X.ops
  rcases m with rfl | rfl | rfl | rfl
  · rw [hd] at e; cases e
  · rw [X.bts] at e; cases e
  · rw [h2] at e; cases e
  · rw [h3] at e; cases e
theorem LV.stay (X : LV A s H) (k : KpM A.M H H') : ∀ b o, ((∃ xs, o = HO.lst xs) ∧ A.S b) ∨ (∃ xs, o = HO.tup xs) → H b = some o → H' b = some o := fun b o h e => k b o (fun m => by
  rcases h with ⟨_, h⟩ | ⟨xs, rfl⟩
  · exact X.sep.2 b m h
  · exact X.noTup m e) e
theorem LV.tr (X : LV A s H) (k : KpM A.M H H') {d : PyData} {v : V} (n : d.hasDict = false) (t : Tr A.S H d v) : Tr A.S H' d v := Tr.stay (X.stay k) _ _ n t
theorem LV.trA (X : LV A s H) (k : KpM A.M H H') {d : List PyData} {v : List V} (n : PyData.hasDictAll d = false) (t : TrAll A.S H d v) : TrAll A.S H' d v := TrAll.stay (X.stay k) _ _ n t
theorem LV.nY (X : LV A s H) : ¬ A.M A.aY := fun m => by
  have n := X.sep.1
  simp only [List.nodup_cons, List.mem_cons, not_or] at n
  obtain ⟨⟨d1, _⟩, ⟨y1, y2, y3, _⟩, _⟩ := n
  rcases m with m | m | m | m
  · exact d1 m.symm
  · exact y1 m
  · exact y2 m
  · exact y3 m
theorem LV.ne (X : LV A s H) : A.d ≠ A.aB ∧ A.d ≠ A.aD ∧ A.d ≠ A.aO ∧ A.aB ≠ A.aD ∧ A.aB ≠ A.aO ∧ A.aD ≠ A.aO := by
  have n := X.sep.1
  simp only [List.nodup_cons, List.mem_cons, not_or] at n
  obtain ⟨⟨_, d2, d3, d4, _⟩, _, ⟨b1, b2, _⟩, ⟨c1, _⟩, _⟩ := n
  exact ⟨d2, d3, d4, b1, b2, c1⟩
theorem LV.next (X : LV A s H) (k : KpM A.M H H') (d' : ∃ aT ts, H' A.d = some (.dK (lkv A s' aT)) ∧ H' aT = some (.lst ts) ∧ TrAll A.S H' (s'.todo.map LTh.d) ts ∧ ¬ A.M aT) (b' : H' A.aB = some (.lst (s'.bits.map bitV)))
    (e' : ∃ ds, H' A.aD = some (.lst ds) ∧ TrAll A.S H' (s'.deeds.map Dd.ld) ds) (o' : ∃ os, H' A.aO = some (.lst os) ∧ TrAll A.S H' (s'.opens.map opD) os) (t' : s'.taken ≤ s'.bits.length) : LV A s' H' := by
  obtain ⟨ys, hy, ty⟩ := X.bod
  exact ⟨d', ⟨ys, k _ _ X.nY hy, X.trA k (all_noD _ bD_noD _) ty⟩, b', e', o', X.sep, t'⟩
theorem LV.same (X : LV A s H) (sm : Same H H') : LV A s H' := by
  obtain ⟨aT, ts, hd, ht, tt, nt⟩ := X.dict
  obtain ⟨ds, h2, t2⟩ := X.dds
  obtain ⟨os, h3, t3⟩ := X.ops
  exact X.next (KpM.of sm) ⟨aT, ts, sm _ _ hd, sm _ _ ht, tt.same sm, nt⟩ (sm _ _ X.bts) ⟨ds, sm _ _ h2, t2.same sm⟩ ⟨os, sm _ _ h3, t3.same sm⟩ X.tk
theorem LV.todoAt (X : LV A s H) {aT : Addr} (hd : H A.d = some (.dK (lkv A s aT))) : ∃ ts, H aT = some (.lst ts) ∧ TrAll A.S H (s.todo.map LTh.d) ts ∧ ¬ A.M aT := by
  obtain ⟨aT2, ts, hd2, r⟩ := X.dict
  rw [hd] at hd2
  have e := HO.dK.inj (Option.some.inj hd2)
  simp only [lkv, lkv0, List.cons_append, List.nil_append, List.cons.injEq, Prod.mk.injEq, V.ref.injEq, and_true, true_and] at e
  subst e
  exact ⟨ts, r⟩
/-- only the fields of the dict change: extra, taken, way -/
theorem LV.setD (X : LV A s H) {aT : Addr} (hd : H A.d = some (.dK (lkv A s aT))) {ex tk : Nat} {wy : Int} (ht : tk ≤ s.bits.length) : KpM A.M H (upd H A.d (.dK (lkv A { s with extra := ex, taken := tk, way := wy } aT))) ∧ LV A { s with extra := ex, taken := tk, way := wy } (upd H A.d (.dK (lkv A { s with extra := ex, taken := tk, way := wy } aT))) := by
  obtain ⟨ts, hT, tt, nt⟩ := X.todoAt hd
  obtain ⟨ds, h2, t2⟩ := X.dds
  obtain ⟨os, h3, t3⟩ := X.ops
  obtain ⟨n1, n2, n3, _⟩ := X.ne
  have k : KpM A.M H (upd H A.d (.dK (lkv A { s with extra := ex, taken := tk, way := wy } aT))) := KpM.upd (.inl rfl)
  refine ⟨k, X.next k ⟨aT, ts, upd_same, k _ _ nt hT, X.trA k (all_noD _ lth_noD _) tt, nt⟩ ?_ ⟨ds, ?_, X.trA k (all_noD _ ld_noD _) t2⟩ ⟨os, ?_, X.trA k (all_noD _ op_noD _) t3⟩ ht⟩
  · rw [upd_ne (Ne.symm n1)]; exact X.bts
  · rw [upd_ne (Ne.symm n2)]; exact h2
  · rw [upd_ne (Ne.symm n3)]; exact h3
/-- another list of what is to be done -/
theorem LV.setT (X : LV A s H) {aT' : Addr} {ts' : List V} {td : List LTh} (hT' : H aT' = some (.lst ts')) (tt' : TrAll A.S H (td.map LTh.d) ts') (nt' : ¬ A.M aT') : KpM A.M H (upd H A.d (.dK (lkv A s aT'))) ∧ LV A { s with todo := td } (upd H A.d (.dK (lkv A s aT'))) := by
  obtain ⟨ds, h2, t2⟩ := X.dds
  obtain ⟨os, h3, t3⟩ := X.ops
  obtain ⟨n1, n2, n3, _⟩ := X.ne
  have k : KpM A.M H (upd H A.d (.dK (lkv A s aT'))) := KpM.upd (.inl rfl)
  refine ⟨k, X.next k ⟨aT', ts', upd_same, k _ _ nt' hT', X.trA k (all_noD _ lth_noD _) tt', nt'⟩ ?_ ⟨ds, ?_, X.trA k (all_noD _ ld_noD _) t2⟩ ⟨os, ?_, X.trA k (all_noD _ op_noD _) t3⟩ X.tk⟩
  · rw [upd_ne (Ne.symm n1)]; exact X.bts
  · rw [upd_ne (Ne.symm n2)]; exact h2
  · rw [upd_ne (Ne.symm n3)]; exact h3
/-- one of the three lists changes -/
theorem LV.setB (X : LV A s H) {bits : List Bool} (ht : s.taken ≤ bits.length) : KpM A.M H (upd H A.aB (.lst (bits.map bitV))) ∧ LV A { s with bits := bits } (upd H A.aB (.lst (bits.map bitV))) := by
  obtain ⟨aT, ts, hd, hT, tt, nt⟩ := X.dict
  obtain ⟨ds, h2, t2⟩ := X.dds
  obtain ⟨os, h3, t3⟩ := X.ops
  obtain ⟨n1, n2, n3, n4, n5, n6⟩ := X.ne
  have k : KpM A.M H (upd H A.aB (.lst (bits.map bitV))) := KpM.upd (.inr (.inl rfl))
  refine ⟨k, X.next k ⟨aT, ts, ?_, k _ _ nt hT, X.trA k (all_noD _ lth_noD _) tt, nt⟩ upd_same ⟨ds, ?_, X.trA k (all_noD _ ld_noD _) t2⟩ ⟨os, ?_, X.trA k (all_noD _ op_noD _) t3⟩ ht⟩
  · rw [upd_ne n1]; exact hd
  · rw [upd_ne (Ne.symm n4)]; exact h2
  · rw [upd_ne (Ne.symm n5)]; exact h3
theorem LV.setE (X : LV A s H) {ds' : List V} {dl : List Dd} (t' : TrAll A.S H (dl.map Dd.ld) ds') : KpM A.M H (upd H A.aD (.lst ds')) ∧ LV A { s with deeds := dl } (upd H A.aD (.lst ds')) := by
  obtain ⟨aT, ts, hd, hT, tt, nt⟩ := X.dict
  obtain ⟨os, h3, t3⟩ := X.ops
  obtain ⟨n1, n2, n3, n4, n5, n6⟩ := X.ne
  have k : KpM A.M H (upd H A.aD (.lst ds')) := KpM.upd (.inr (.inr (.inl rfl)))
  refine ⟨k, X.next k ⟨aT, ts, ?_, k _ _ nt hT, X.trA k (all_noD _ lth_noD _) tt, nt⟩ ?_ ⟨ds', upd_same, X.trA k (all_noD _ ld_noD _) t'⟩ ⟨os, ?_, X.trA k (all_noD _ op_noD _) t3⟩ X.tk⟩
  · rw [upd_ne n2]; exact hd
  · rw [upd_ne n4]; exact X.bts
  · rw [upd_ne (Ne.symm n6)]; exact h3
theorem LV.setO (X : LV A s H) {os' : List V} {ol : List (Nat × Nat)} (t' : TrAll A.S H (ol.map opD) os') : KpM A.M H (upd H A.aO (.lst os')) ∧ LV A { s with opens := ol } (upd H A.aO (.lst os')) := by
  obtain ⟨aT, ts, hd, hT, tt, nt⟩ := X.dict
  obtain ⟨ds, h2, t2⟩ := X.dds
  obtain ⟨n1, n2, n3, n4, n5, n6⟩ := X.ne
  have k : KpM A.M H (upd H A.aO (.lst os')) := KpM.upd (.inr (.inr (.inr rfl)))
  refine ⟨k, X.next k ⟨aT, ts, ?_, k _ _ nt hT, X.trA k (all_noD _ lth_noD _) tt, nt⟩ ?_ ⟨ds, ?_, X.trA k (all_noD _ ld_noD _) t2⟩ ⟨os', upd_same, X.trA k (all_noD _ op_noD _) t'⟩ X.tk⟩
  · rw [upd_ne n3]; exact hd
  · rw [upd_ne n5]; exact X.bts
  · rw [upd_ne n6]; exact h2
end
section
variable {A : LA} {s : LSt} {aT : Addr}
theorem lg_bodies : valV (lkv A s aT) (.inr "bodies") = some (.ref A.aY) := by rfl
theorem lg_bits : valV (lkv A s aT) (.inr "bits") = some (.ref A.aB) := by rfl
theorem lg_extra : valV (lkv A s aT) (.inr "extra") = some (natV s.extra) := by rfl
theorem lg_taken : valV (lkv A s aT) (.inr "taken") = some (natV s.taken) := by rfl
theorem lg_way : valV (lkv A s aT) (.inr "way") = some (.int s.way) := by rfl
theorem lg_deeds : valV (lkv A s aT) (.inr "deeds") = some (.ref A.aD) := by rfl
theorem lg_opens : valV (lkv A s aT) (.inr "opens") = some (.ref A.aO) := by rfl
theorem lg_todo : valV (lkv A s aT) (.inr "todo") = some (.ref aT) := by rfl
theorem lp_extra (n : Nat) : putK (lkv A s aT) (.inr "extra") (natV n) = lkv A { s with extra := n } aT := by rfl
theorem lp_taken (n : Nat) : putK (lkv A s aT) (.inr "taken") (natV n) = lkv A { s with taken := n } aT := by rfl
theorem lp_way (n : Int) : putK (lkv A s aT) (.inr "way") (.int n) = lkv A { s with way := n } aT := by rfl
theorem lp_todo (n : Addr) : putK (lkv A s aT) (.inr "todo") (.ref n) = lkv A s n := by rfl
theorem lp_deeds : putK (lkv A s aT) (.inr "deeds") (.ref A.aD) = lkv A s aT := by rfl
theorem lk_len : (lkv A s aT).length < sizeLine := by show 8 < sizeLine; decide
end

--SPLIT
/-! ### how long the text of a block is -/
theorem wt_int {i : Int} (h : i.natAbs < 1000) : (PyData.int i).weight ≤ 10 := by
  simp only [PyData.weight]
  split
  · omega
  · rename_i h0
    have : i.natAbs ≠ 0 := fun e => h0 (by simp only [beq_iff_eq]; omega)
    have := (Nat.log2_lt this (k := 10)).mpr (by omega)
    omega
theorem cm_small {c : Cm} (h : c.ok) : ∀ n ∈ c.nums, n.natAbs < 1000 := fun n hn => by
  have lim : ∀ {i : Nat} {z : Int} {l : Int × Int}, c.nums[i]? = some z → c.lims[i]? = some l → l.1 ≤ z ∧ z ≤ l.2 := fun g1 g2 => h _ _ _ g1 g2
  obtain ⟨i, hi⟩ := List.getElem?_of_mem hn
  have hl : c.nums.length = c.lims.length := by cases c <;> rfl
  have hlt := (List.getElem?_eq_some_iff.mp hi).1
  have hq : c.lims[i]? = some c.lims[i] := List.getElem?_eq_getElem (by omega)
  obtain ⟨a, b⟩ := lim hi hq
  have : ∀ l ∈ c.lims, -9 ≤ l.1 ∧ l.2 ≤ 9 := by cases c <;> simp [Cm.lims]
  obtain ⟨p, q⟩ := this _ (List.mem_of_getElem? hq)
  omega
theorem cm_wt {c : Cm} (h : c.ok) : (c.d).weight + 1 ≤ 40 := by
  have s := cm_small h
  have all : ∀ ns : List Int, (∀ n ∈ ns, n.natAbs < 1000) → PyData.weightAll (ns.map PyData.int) ≤ 11 * ns.length := fun ns => by
    induction ns with
    | nil => intro _; simp [PyData.weightAll]
    | cons n r ih =>
      intro hh
      have h1 := wt_int (hh n List.mem_cons_self)
      have h2 := ih fun m hm => hh m (List.mem_cons_of_mem _ hm)
      simp only [List.map_cons, PyData.weightAll, List.length_cons]
      omega
  have h2 := all c.nums s
  have hw : c.word.cps.size ≤ 8 := by cases c <;> (simp only [Cm.word]; decide +kernel)
  have hw2 : c.nums.length ≤ 2 := by cases c <;> simp [Cm.nums]
  simp only [Cm.d, PyData.weight, PyData.weightAll]
  omega
mutual
theorem stm_wt {many : Nat} (hm : many ≤ 900) : ∀ (z : Stm) (l : Nat), z.ok many l → z.d.weight + 1 ≤ 40 * z.cnt
  | .cmd c, l, h => by simp only [Stm.d, Stm.cnt]; exact cm_wt h
  | .fin w, l, _ => by
    simp only [Stm.d, PyData.weight, PyData.weightAll, Stm.cnt]
    have : (("end" : Str)).cps.size = 3 := by decide +kernel
    have l1 : Nat.log2 1 = 0 := by decide +kernel
    cases w <;> simp only [Bool.false_eq_true, if_true, if_false] <;> simp <;> omega
  | .keep b, l, h => by
    have h1 := blk_wt hm b (l + 1) h.2.2
    have : (("keep" : Str)).cps.size = 4 := by decide +kernel
    simp only [Stm.d, PyData.weight, PyData.weightAll, Stm.cnt]
    omega
  | .again b, l, h => by
    have h1 := blk_wt hm b (l + 1) h.2.2
    have : (("again" : Str)).cps.size = 5 := by decide +kernel
    simp only [Stm.d, PyData.weight, PyData.weightAll, Stm.cnt]
    omega
  | .either a b, l, h => by
    have h1 := blk_wt hm a (l + 1) h.2.1.2
    have h2 := blk_wt hm b (l + 1) h.2.2.2
    have : (("either" : Str)).cps.size = 6 := by decide +kernel
    simp only [Stm.d, PyData.weight, PyData.weightAll, Stm.cnt]
    omega
  | .call p s a b, l, h => by
    have h1 := blk_wt hm a (l + 1) h.2.2.1.2
    have h2 := blk_wt hm b (l + 1) h.2.2.2.2
    have h3 := wt_int (i := (p : Int)) (by have := h.2.1; omega)
    have : (("call" : Str)).cps.size = 4 := by decide +kernel
    simp only [Stm.d, PyData.weightAll, Stm.cnt, PyData.weight] at h3 ⊢
    omega
theorem blk_wt {many : Nat} (hm : many ≤ 900) : ∀ (b : List Stm) (l : Nat), okB many b l → PyData.weightAll (blkD b) ≤ 40 * cntB b
  | [], _, _ => by simp [blkD, PyData.weightAll]
  | z :: r, l, h => by
    have h1 := stm_wt hm z l h.1
    have h2 := blk_wt hm r l h.2
    simp only [blkD, PyData.weightAll, cntB]
    omega
end
theorem ints_sh {ns : List Int} (h : ∀ n ∈ ns, n.natAbs < 1000) : PyData.intsShortAll 13 (ns.map PyData.int) = true := PyData.intsShortAll_ints ns fun n hn => Nat.lt_of_lt_of_le (h n hn) (by decide)
theorem show_int {i : Int} (h : i.natAbs < 1000) : (PyData.int i).showable = true := by
  simp only [PyData.showable, decide_eq_true_eq]
  exact log2_small (Nat.lt_of_lt_of_le h (by decide +kernel))
theorem one_sh {i : Int} (h : i.natAbs < 1000) : (PyData.int i).intsShort 13 = true := by
  simp only [PyData.intsShort, decide_eq_true_eq]
  exact PyData.shown_int_le (Nat.lt_of_lt_of_le h (by decide))
theorem ints_show : ∀ {ns : List Int}, (∀ n ∈ ns, n.natAbs < 1000) → PyData.showableAll (ns.map PyData.int) = true
  | [], _ => by simp [PyData.showableAll]
  | n :: r, h => by simp only [List.map_cons, PyData.showableAll, show_int (h n List.mem_cons_self), ints_show fun m hm => h m (List.mem_cons_of_mem _ hm), Bool.and_self]
mutual
theorem stm_sh {many : Nat} (hm : many ≤ 900) : ∀ (z : Stm) (l : Nat), z.ok many l → z.d.intsShort 13 = true ∧ z.d.showable = true
  | .cmd c, l, h => by
    simp only [Stm.d, Cm.d, PyData.intsShort, PyData.intsShortAll, PyData.showable, PyData.showableAll, ints_sh (cm_small h), ints_show (cm_small h), Bool.and_self, and_self]
  | .fin w, l, _ => by
    have h1 : ((if w then 1 else 0 : Int)).natAbs < 1000 := by cases w <;> decide
    simp only [Stm.d, PyData.intsShort, PyData.intsShortAll, PyData.showable, PyData.showableAll, Bool.and_true, Bool.true_and]
    exact ⟨by have := one_sh h1; simpa only [PyData.intsShort] using this, by have := show_int h1; simpa only [PyData.showable] using this⟩
  | .keep b, l, h => by
    have h1 := blk_sh hm b (l + 1) h.2.2
    simp only [Stm.d, PyData.intsShort, PyData.intsShortAll, PyData.showable, PyData.showableAll, h1.1, h1.2, Bool.and_self, and_self]
  | .again b, l, h => by
    have h1 := blk_sh hm b (l + 1) h.2.2
    simp only [Stm.d, PyData.intsShort, PyData.intsShortAll, PyData.showable, PyData.showableAll, h1.1, h1.2, Bool.and_self, and_self]
  | .either a b, l, h => by
    have h1 := blk_sh hm a (l + 1) h.2.1.2
    have h2 := blk_sh hm b (l + 1) h.2.2.2
    simp only [Stm.d, PyData.intsShort, PyData.intsShortAll, PyData.showable, PyData.showableAll, h1.1, h1.2, h2.1, h2.2, Bool.and_self, and_self]
  | .call p s a b, l, h => by
    have h1 := blk_sh hm a (l + 1) h.2.2.1.2
    have h2 := blk_sh hm b (l + 1) h.2.2.2.2
    have hp : ((p : Int)).natAbs < 1000 := by have := h.2.1; omega
    have h3 := one_sh hp
    have h4 := show_int hp
    simp only [PyData.intsShort] at h3
    simp only [PyData.showable] at h4
    simp only [Stm.d, PyData.intsShort, PyData.intsShortAll, PyData.showable, PyData.showableAll, h1.1, h1.2, h2.1, h2.2, h3, h4, Bool.and_self, and_self]
theorem blk_sh {many : Nat} (hm : many ≤ 900) : ∀ (b : List Stm) (l : Nat), okB many b l → PyData.intsShortAll 13 (blkD b) = true ∧ PyData.showableAll (blkD b) = true
  | [], _, _ => by simp [blkD, PyData.intsShortAll, PyData.showableAll]
  | z :: r, l, h => by
    have h1 := stm_sh hm z l h.1
    have h2 := blk_sh hm r l h.2
    simp only [blkD, PyData.intsShortAll, PyData.showableAll, h1.1, h1.2, h2.1, h2.2, Bool.and_self, and_self]
end
/-- what str() of a statement's first block wants -/
theorem shown_blk {many l : Nat} {a b : List Stm} (hm : many ≤ 900) (h : (Stm.either a b).ok many l) (hl : l ≤ 3) (hc : cntB a ≤ 100) : (PyData.list (blkD a)).showable = true ∧ (PyData.list (blkD a)).hasDict = false ∧ (PyData.list (blkD a)).depth ≤ 40 ∧ (PyData.list (blkD a)).shown.length ≤ sizeLine ∧ (PyData.list (blkD a)).canLay0 = true := by
  have h1 := blk_sh hm a (l + 1) h.2.1.2
  have hw := blk_wt hm a (l + 1) h.2.1.2
  have ft : Fit (PyData.list (blkD a)) 13 := (fit_stm (.either a b) l 12 h (by omega)).2.2.1
  obtain ⟨lay, dep⟩ := Fit.lay _ _ ft
  refine ⟨by simp only [PyData.showable]; exact h1.2, by simp only [PyData.hasDict]; exact blk_noD a, by omega, ?_, lay⟩
  refine PyData.shown_fits_of_layable0 (B := 13) (by decide) (by decide) ?_ (by simp only [PyData.intsShort]; exact h1.1)
  simp only [PyData.layable0, lay, Bool.true_and, Bool.and_eq_true, decide_eq_true_eq, PyData.weight]
  refine ⟨by omega, decide_eq_true ?_⟩
  exact Nat.le_trans (m := 4000) (by omega) (by decide +kernel)

--SPLIT
theorem dgetS {H : Hp} {a : Addr} {kvs : List (L2.Key × V)} {x : Str} {v : V} (e : H a = some (.dK kvs)) (h : valV kvs (.inr x) = some v) : DGet H a (.str x) (some v) := by
  rw [← h]
  exact DGet.k (k := .inr x) e
theorem dputS {H : Hp} {a : Addr} {kvs kvs' : List (L2.Key × V)} {x : Str} {v : V} (e : H a = some (.dK kvs)) (hl : kvs.length < sizeLine) (h : putK kvs (.inr x) v = kvs') : DPut H a (.str x) v (upd H a (.dK kvs')) := by
  rw [← h]
  exact DPut.k (k := .inr x) e hl
def sp__law_bit : Sp := fun vs H Q _ => ∃ (A : LA) (s : LSt) (z : Stm) (v : V), vs = [.ref A.d, v] ∧ LV A s H ∧ Tr A.S H z.d v ∧ (∃ many l, many ≤ 900 ∧ z.ok many l ∧ l ≤ 3 ∧ z.cnt ≤ 100) ∧ s.bits.length ≤ 10000 ∧ (bitL z s = none → ∀ H', KpM A.M H H' → LV A s H' → Q (.int 2) H') ∧
  ∀ w s', bitL z s = some (w, s') → ∀ H', KpM A.M H H' → LV A s' H' → Q (bitV w) H'
theorem ok__law_bit (T : Top w K mg) : FnG P w K mg base CX0 1 T.a__law_bit T.d__law_bit ["_law_state", "_law_task_here"] sp__law_bit := by
  refine fun_okG T.F__law_bit sc__law_bit (fun vs H Q E h => ?_) (fun cdv A1 outer sh H vs Q E hgd hr h => ?_)
  · obtain ⟨A, s, z, v, rfl, _⟩ := h
    rfl
  · obtain ⟨A, s, z, v, rfl, X, tv, ⟨many, lv, hmany, hz, hlv, hcz⟩, hbl, qn, q⟩ := h
    refine ⟨_, (pss_cons (ps_set (i := 2) sc__law_bit.nd rfl (Or.inl rfl) (pe_dget (hu_of hr) (pv 0) pe_str (fun _ _ => rfl)))
      (C8.pss_cut (ps_if (pt_cmpR op_eq (pe_dget (hu_of hr) (pv 0) pe_str (fun _ _ => rfl)) (pe_callB (k_len K) (by rfl) T.z_len bt_len (pa_cons (pv 2) pa_nil)) (nomark _)) (pss_cons (ps_if (pt_cmpR op_eq (pe_dget (hu_of hr) (pv 0) pe_str (fun _ _ => rfl)) pe_int (nomark _)) (pss_one (ps_ret pe_int)) pss_nil)
        (pss_cons (ps_daug (hu_of hr) (pv 0) pe_str pe_int in_sub (fun _ _ _ => rfl))
        (pss_one (ps_expr (pe_bm PySem.F.plainAttrs_list PySem.F.slot_list_append PySem.F.type_list_append mt_append (pv 2) (pa_cons (pe_callTy call_intB (by rfl) T.z_int bt_int (pa_cons (pe_and (pe_cmpR op_eq (pe_ix (k_ixT K) (pv 1) pe_int (fun _ _ => rfl)) pe_str (nomark _)) (pe_one (pe_cmpR op_in_str pe_str (pe_callTy (call_strG hgd (hu64 hr)) (by rfl) T.z_str bt_str (pa_cons (pe_ix (k_ixT K) (pv 1) pe_int (fun _ _ => rfl)) pa_nil)) rfl))) pa_nil)) pa_nil)))))) pss_nil)
      (pss_cons (ps_daug (hu_of hr) (pv 0) pe_str pe_int in_add (fun _ _ _ => rfl))
      (pss_one (ps_ret (pe_ix (k_ixL K) (pv 2) (pe_op op_sub (pe_dget (hu_of hr) (pv 0) pe_str (fun _ _ => rfl)) pe_int) (fun _ _ => rfl))))))), ?_⟩
    obtain ⟨aT, ts, hd, hT, tT, nT⟩ := X.dict
    refine ⟨_, rfl, A.d, _, rfl, dgetS hd lg_bits, ?_⟩
    refine ⟨fun σ J => ∃ s1 : LSt, σ = [some (.ref A.d), some v, some (.ref A.aB)] ∧ KpM A.M H J ∧ LV A s1 J ∧ s1.taken < s1.bits.length ∧ bitL z s = some (s1.bits.getD s1.taken false, { s1 with taken := s1.taken + 1 }), ?_, fun σ J hm => ?_⟩
    · refine ⟨_, rfl, A.d, _, rfl, dgetS hd lg_taken, _, rfl, A.aB, _, rfl, .inl (SqL.of X.bts), rfl, _, rfl, ?_⟩
      by_cases e : s.taken = s.bits.length
      · refine iteP (by rw [List.length_map, e]) ?_
        refine ⟨_, rfl, A.d, _, rfl, dgetS hd lg_extra, rfl, _, rfl, ?_⟩
        by_cases e0 : s.extra = 0
        · refine iteP (by rw [e0]; rfl) ?_
          exact qn (by unfold bitL; rw [if_pos e, if_pos e0]) H (KpM.of (Same.refl _)) X
        · refine iteN (fun h => e0 (by have := V.int.inj h; omega)) ?_
          refine ⟨_, rfl, A.d, _, rfl, dgetS hd lg_extra, _, _, rfl, rfl, ?_⟩
          have ee : ((s.extra : Nat) : Int) - 1 = ((s.extra - 1 : Nat) : Int) := by omega
          refine ⟨upd H A.d (.dK (lkv A { s with extra := s.extra - 1 } aT)), dputS hd lk_len (by rw [ee]; exact lp_extra _), ?_⟩
          obtain ⟨k1, X1⟩ := X.setD hd (ex := s.extra - 1) (tk := s.taken) (wy := s.way) X.tk
          have hd1 : (upd H A.d (.dK (lkv A { s with extra := s.extra - 1 } aT))) A.d = some (.dK (lkv A { s with extra := s.extra - 1 } aT)) := upd_same
          have tv1 := X.tr k1 (stm_noD z) tv
          have k1 : KpM A.M H (upd H A.d (.dK (lkv A { s with extra := s.extra - 1 } aT))) := k1
          have X1 : LV A { s with extra := s.extra - 1 } (upd H A.d (.dK (lkv A { s with extra := s.extra - 1 } aT))) := X1
          have tv1 : Tr A.S (upd H A.d (.dK (lkv A { s with extra := s.extra - 1 } aT))) z.d v := tv1
          generalize upd H A.d (.dK (lkv A { s with extra := s.extra - 1 } aT)) = H1 at *
          obtain ⟨t, xs, rfl, ht, hs⟩ := (by rw [Stm.d_eq] at tv1; exact tv1 : ∃ a xs, v = .ref a ∧ H1 a = some (.tup xs) ∧ TrAll A.S H1 (.str z.word :: z.rest) xs)
          obtain ⟨x0, us, rfl, hx0, hus⟩ := hs
          have hx0 : x0 = .str z.word := hx0
          subst hx0
          refine ⟨_, rfl, .inl ⟨rfl, _, SqL.of X1.bts⟩, ?_⟩
          refine ⟨_, rfl, t, _, 0, _, rfl, rfl, SqT.of ht, atI_nat (j := 0) rfl, rfl, ?_⟩
          obtain ⟨k2, X2⟩ := X1.setB (bits := s.bits ++ [chL z]) (by rw [List.length_append]; have := X.tk; show s.taken ≤ _; omega)
          have len2 : s.bits.length < sizeLine := Nat.lt_of_le_of_lt hbl (by decide)
          have fin : ∃ s1 : LSt, [some (V.ref A.d), some (V.ref t), some (V.ref A.aB)] = [some (V.ref A.d), some (V.ref t), some (V.ref A.aB)] ∧ KpM A.M H (upd H1 A.aB (.lst ((s.bits ++ [chL z]).map bitV))) ∧ LV A s1 (upd H1 A.aB (.lst ((s.bits ++ [chL z]).map bitV))) ∧ s1.taken < s1.bits.length ∧ bitL z s = some (s1.bits.getD s1.taken false, { s1 with taken := s1.taken + 1 }) := by
            refine ⟨{ s with extra := s.extra - 1, bits := s.bits ++ [chL z] }, rfl, k1.trans k2, X2, ?_, ?_⟩
            · show s.taken < (s.bits ++ [chL z]).length
              rw [List.length_append, List.length_singleton]
              omega
            · unfold bitL
              rw [if_pos e, if_neg e0]
              show _ = some ((s.bits ++ [chL z]).getD s.taken false, _)
              rw [e, List.getD_eq_getElem?_getD, List.getElem?_append_right (Nat.le_refl _), Nat.sub_self]
              rfl
          rw [List.map_append] at fin
          by_cases hw : z.word = "either"
          · have hz2 : ∃ a b, z = .either a b := by
              cases z with
              | either a b => exact ⟨a, b, rfl⟩
              | cmd c => exact absurd hw (by cases c <;> (simp only [Stm.word, Cm.word]; decide))
              | _ => exact absurd hw (by simp only [Stm.word]; decide)
            obtain ⟨a, b, rfl⟩ := hz2
            refine ⟨true, congrArg V.bl (decide_eq_true (congrArg V.str hw)), iteT ?_⟩
            obtain ⟨x1, us1, rfl, hx1, _⟩ := hus
            obtain ⟨la, ys, rfl, sla, hla, tys⟩ := hx1
            have hca : cntB a ≤ 100 := by
              have : 1 + (cntB a + cntB b) ≤ 100 := hcz
              omega
            obtain ⟨g1, g2, g3, g4, g5⟩ := shown_blk hmany hz hlv hca
            refine ⟨_, rfl, t, _, 1, _, rfl, rfl, SqT.of ht, atI_nat (j := 1) rfl, la, .list (blkD a), rfl, .lst (SqL.of hla) (TrAll.dp _ _ (by simpa [PyData.canLay0] using g5) tys), g1, g2, g3, g4, _, _, rfl, rfl, ?_⟩
            exact ⟨chL (.either a b), rfl, A.aB, _, _, rfl, rfl, X1.bts, by rw [List.length_map]; exact len2, fin⟩
          · refine ⟨false, congrArg V.bl (decide_eq_false fun h => hw (V.str.inj h)), iteF ?_⟩
            have hk : chL z = false := by
              cases z with
              | either a b => exact absurd rfl hw
              | _ => rfl
            rw [hk] at fin
            exact ⟨false, rfl, A.aB, _, _, rfl, rfl, X1.bts, by rw [List.length_map]; exact len2, fin⟩
      · refine iteN (fun h => e (by have := V.int.inj h; rw [List.length_map] at this; omega)) ?_
        have tk := X.tk
        exact ⟨s, rfl, KpM.of (Same.refl _), X, by omega, by unfold bitL; rw [if_neg e]⟩
    · obtain ⟨s1, rfl, k1, X1, lt1, e1⟩ := hm
      obtain ⟨aT1, ts1, hd1, _⟩ := X1.dict
      have ee : ((s1.taken : Nat) : Int) + 1 = ((s1.taken + 1 : Nat) : Int) := by omega
      refine ⟨_, rfl, A.d, _, rfl, dgetS hd1 lg_taken, _, _, rfl, rfl, upd J A.d (.dK (lkv A { s1 with taken := s1.taken + 1 } aT1)), dputS hd1 lk_len (by rw [ee]; exact lp_taken _), ?_⟩
      obtain ⟨k2, X2⟩ := X1.setD hd1 (ex := s1.extra) (tk := s1.taken + 1) (wy := s1.way) lt1
      have hd2 : (upd J A.d (.dK (lkv A { s1 with taken := s1.taken + 1 } aT1))) A.d = some (.dK (lkv A { s1 with taken := s1.taken + 1 } aT1)) := upd_same
      have k2 : KpM A.M J (upd J A.d (.dK (lkv A { s1 with taken := s1.taken + 1 } aT1))) := k2
      have X2 : LV A { s1 with taken := s1.taken + 1 } (upd J A.d (.dK (lkv A { s1 with taken := s1.taken + 1 } aT1))) := X2
      generalize upd J A.d (.dK (lkv A { s1 with taken := s1.taken + 1 } aT1)) = J2 at *
      have hb : s1.bits[s1.taken]? = some (s1.bits.getD s1.taken false) := by
        rw [List.getD_eq_getElem?_getD, List.getElem?_eq_getElem lt1]
        rfl
      refine ⟨_, rfl, _, rfl, A.d, _, rfl, dgetS hd2 lg_taken, _, _, rfl, rfl, A.aB, _, _, _, rfl, rfl, SqL.of X2.bts, at_of (j := s1.taken) (by show ((s1.taken + 1 : Nat) : Int) - 1 = _; omega) (show (s1.bits.map bitV)[s1.taken]? = some (bitV (s1.bits.getD s1.taken false)) by rw [List.getElem?_map, hb]; rfl), ?_⟩
      exact q _ _ e1 J2 (k1.trans k2) X2

--SPLIT
theorem strN {a b : Str} (h : ¬ a = b) : ¬ V.str a = V.str b := fun e => h (V.str.inj e)
theorem cm_words (c : Cm) : ¬ c.word = "either" ∧ ¬ c.word = "again" ∧ ¬ c.word = "keep" ∧ ¬ c.word = "call" ∧ ¬ c.word = "end" ∧ ¬ c.word = "out" := by
  cases c <;> (simp only [Cm.word]; decide)
theorem pop_lst (us : List V) (v : V) : (us ++ [v])[(us ++ [v]).length - 1]? = some v ∧ (us ++ [v]).dropLast = us := by
  refine ⟨?_, List.dropLast_concat⟩
  rw [List.length_append, List.length_singleton, Nat.add_sub_cancel, List.getElem?_append_right (Nat.le_refl _), Nat.sub_self]
  rfl
theorem opd_lay : ∀ l : List (Nat × Nat), PyData.canLayAll0 (l.map opD) = true ∧ PyData.depthAll (l.map opD) ≤ 2
  | [] => by simp [PyData.canLayAll0, PyData.depthAll]
  | o :: r => by
    obtain ⟨h1, h2⟩ := opd_lay r
    have d1 : (opD o).canLay0 = true := by simp [opD, PyData.canLay0, PyData.canLayAll0]
    have d2 : (opD o).depth ≤ 2 := by simp [opD, PyData.depth, PyData.depthAll]
    simp only [List.map_cons, PyData.canLayAll0, PyData.depthAll, h1, d1, Bool.and_true, true_and]
    omega
theorem opd_sh (o : Nat × Nat) : SeqAt.shaped (opD o) = true := by
  simp [SeqAt.shaped, opD, PyData.canLay0, PyData.canLayAll0, PyData.depth, PyData.depthAll]
theorem opds_sh (l : List (Nat × Nat)) : SeqAt.shaped (.list (l.map opD)) = true := by
  obtain ⟨h1, h2⟩ := opd_lay l
  simp only [SeqAt.shaped, PyData.canLay0, PyData.depth, h1, Bool.true_and]
  exact decide_eq_true (by omega)
theorem opd_eq (a o : Nat × Nat) : PyData.eqv (opD a) (opD o) = decide (a = o) := by
  obtain ⟨a1, a2⟩ := a
  obtain ⟨o1, o2⟩ := o
  by_cases h : (a1, a2) = (o1, o2)
  · rw [decide_eq_true h]
    cases h
    simp [opD, PyData.eqv, PyData.eqvAll]
  · rw [decide_eq_false h]
    have h2 : ¬ (a1 = o1 ∧ a2 = o2) := fun e => h (by rw [e.1, e.2])
    simp [opD, PyData.eqv, PyData.eqvAll]
    intro e1 e2
    exact h2 ⟨by omega, by omega⟩
theorem opd_mem (l : List (Nat × Nat)) (o : Nat × Nat) : ((l.map opD).any fun z => PyData.eqv z (opD o)) = decide (o ∈ l) := by
  rw [List.any_map]
  induction l with
  | nil => simp
  | cons a r ih =>
    rw [List.any_cons, ih]
    show (PyData.eqv (opD a) (opD o) || _) = _
    rw [opd_eq]
    by_cases h : a = o
    · simp [h]
    · have h' : ¬ o = a := fun e => h e.symm
      simp [h, h']
def LTh.isOut : LTh → Bool
  | .out _ _ _ _ _ => true
  | _ => false
def LTh.isShut : LTh → Bool
  | .shut => true
  | _ => false
theorem cutO_is : ∀ {td : List LTh} {ds ds' : List Dd} {p : Nat} {sv : Bool} {a b : List Stm} {r : List LTh}, cutO td ds = some ((p, sv, a, b), r, ds') → ∃ (pre : List LTh) (w : Bool), td = pre ++ .out p sv a b w :: r ∧ (∀ x ∈ pre, x.isOut = false) ∧ ds' = ds ++ (pre.filter LTh.isShut).map (fun _ => Dd.back)
  | [], _, _, _, _, _, _, _, h => by cases h
  | .out p0 sv0 a0 b0 w :: q, ds, ds', p, sv, a, b, r, h => by
    have h := Option.some.inj h
    cases h
    exact ⟨[], w, rfl, (by intro x hx; cases hx), by simp⟩
  | .shut :: q, ds, ds', p, sv, a, b, r, h => by
    have h2 : cutO q (ds ++ [.back]) = some ((p, sv, a, b), r, ds') := h
    obtain ⟨pre, w, e1, e2, e3⟩ := cutO_is h2
    refine ⟨.shut :: pre, w, by rw [e1]; rfl, fun x hx => ?_, ?_⟩
    · rcases List.mem_cons.mp hx with rfl | hx
      · rfl
      · exact e2 x hx
    · rw [e3, List.append_assoc]
      rfl
  | .st z :: q, ds, ds', p, sv, a, b, r, h => by
    have h2 : cutO q ds = some ((p, sv, a, b), r, ds') := h
    obtain ⟨pre, w, e1, e2, e3⟩ := cutO_is h2
    refine ⟨.st z :: pre, w, by rw [e1]; rfl, fun x hx => ?_, ?_⟩
    · rcases List.mem_cons.mp hx with rfl | hx
      · rfl
      · exact e2 x hx
    · rw [e3]
      rfl
def LTh.word : LTh → Str
  | .st z => z.word
  | .shut => "shut"
  | .out _ _ _ _ _ => "out"
theorem lth_word {S : Addr → Prop} {H : Hp} : ∀ {x : LTh} {v : V}, Tr S H x.d v → ∃ t us, v = .ref t ∧ H t = some (.tup (.str x.word :: us))
  | .st z, v, t => by
    have t : Tr S H z.d v := t
    rw [Stm.d_eq] at t
    obtain ⟨a, xs, e, h, x0, us, e2, h0, _⟩ := t
    have h0 : x0 = .str z.word := h0
    subst e2 h0
    exact ⟨a, us, e, h⟩
  | .shut, v, ⟨a, xs, e, h, x0, us, e2, h0, _⟩ => by
    have h0 : x0 = .str "shut" := h0
    subst e2 h0
    exact ⟨a, us, e, h⟩
  | .out _ _ _ _ _, v, ⟨a, xs, e, h, x0, us, e2, h0, _⟩ => by
    have h0 : x0 = .str "out" := h0
    subst e2 h0
    exact ⟨a, us, e, h⟩
theorem stm_word2 (z : Stm) : ¬ z.word = "out" ∧ ¬ z.word = "shut" := by
  cases z with
  | cmd c => cases c <;> (simp only [Stm.word, Cm.word]; decide)
  | _ => simp only [Stm.word]; decide
theorem lth_out (x : LTh) : (x.word = "out") ↔ x.isOut = true := by
  cases x with
  | st z => exact ⟨fun h => absurd h (stm_word2 z).1, fun h => by cases h⟩
  | shut => exact ⟨fun h => absurd h (by decide), fun h => by cases h⟩
  | out => exact ⟨fun _ => rfl, fun _ => rfl⟩
theorem lth_shut (x : LTh) : (x.word = "shut") ↔ x.isShut = true := by
  cases x with
  | st z => exact ⟨fun h => absurd h (stm_word2 z).2, fun h => by cases h⟩
  | out => exact ⟨fun h => absurd h (by simp only [LTh.word]; decide), fun h => by cases h⟩
  | shut => exact ⟨fun _ => rfl, fun _ => rfl⟩
def StOk (z : Stm) : Prop := ∃ many l, many ≤ 900 ∧ z.ok many l ∧ l ≤ 3 ∧ z.cnt ≤ 100
def LTh.ok : LTh → Prop
  | .st z => StOk z
  | .shut => True
  | .out p sv a b _ => StOk (.call p sv a b)
structure LSz (n : Nat) (s : LSt) : Prop where
  bits : s.bits.length ≤ 10000
  todo : s.todo.length + s.deeds.length ≤ n
  opens : s.opens.length ≤ n
def sp__law_task : Sp := fun vs H Q _ => ∃ (A : LA) (s : LSt) (x : LTh) (v : V), vs = [.ref A.d, v] ∧ LV A s H ∧ Tr A.S H x.d v ∧ x.ok ∧ LSz 200000 s ∧ (∀ b ∈ A.bs, b.length ≤ 8) ∧ (∀ p sv a b, x = .st (.call p sv a b) → p < A.bs.length) ∧ (∀ w, x = .st (.fin w) → ∃ r, cutO s.todo s.deeds = some r) ∧ (∀ p sv a b w, x = .out p sv a b w → s.opens ≠ []) ∧
  (taskL A.bs x s = none → ∀ H', KpM A.M H H' → LV A s H' → Q .non H') ∧
  ∀ blk s', taskL A.bs x s = some (blk, s') → ∀ (r : Addr) (us : List V) (H' : Hp), KpM A.M H H' → LV A s' H' → H' r = some (.lst us) → TrAll A.S H' (blk.map LTh.d) us → Q (.ref r) H'
set_option maxHeartbeats 1000000 in
theorem ok__law_task (T : Top w K mg) : FnG P w K mg base CX0 2 T.a__law_task T.d__law_task ["_law_state", "_law_task_here"] sp__law_task := by
  refine fun_okG T.F__law_task sc__law_task (fun vs H Q E h => ?_) (fun cdv A1 outer sh H vs Q E hgd hr h => ?_)
  · obtain ⟨A, s, x, v, rfl, _⟩ := h
    rfl
  · obtain ⟨A, s, x, v, rfl, X, tv, hx, hz, hbs, hcall, hfin, hout, qn, q⟩ := h
    refine ⟨_, (pss_cons (ps_set (i := 2) sc__law_task.nd rfl (Or.inl rfl) (pe_ix (k_ixT K) (pv 1) pe_int (fun _ _ => rfl)))
      (pss_cons (ps_if (PW.pt (pw_or (pt_cmpR op_eq (pv 2) pe_str (nomark _)) (pw_or1 (pt_cmpR op_eq (pv 2) pe_str (nomark _))))) (pss_cons (ps_set (i := 3) sc__law_task.nd rfl (Or.inl rfl) (pe_callG hgd (ok__law_bit T) hr (by rfl) T.g__law_bit T.F__law_bit.kp (b__law_bit T) (pa_cons (pv 0) (pa_cons (pv 1) pa_nil))))
        (pss_cons (ps_if (pt_cmpR op_eq (pv 3) pe_int (nomark _)) (pss_one (ps_ret pe_non)) pss_nil)
        (pss_cons (ps_if (pt_cmpR op_eq (pv 2) pe_str (nomark _)) (pss_one (ps_ret (pe_ix (k_ixT K) (pv 1) (pe_op op_add pe_int (pv 3)) (fun _ _ => rfl)))) pss_nil)
        (pss_one (ps_ret (pe_ix (k_ixL K) (pe_lst (pa_cons (pe_lst pa_nil) (pa_cons (pe_op op_cat (pe_ix (k_ixT K) (pv 1) pe_int (fun _ _ => rfl)) (pe_lst (pa_cons (pv 1) pa_nil))) pa_nil))) (pv 3) (fun _ _ => rfl))))))) pss_nil)
      (pss_cons (ps_if (pt_cmpR op_eq (pv 2) pe_str (nomark _)) (pss_cons (ps_expr (pe_bm PySem.F.plainAttrs_list PySem.F.slot_list_append PySem.F.type_list_append mt_append (pe_dget (hu_of hr) (pv 0) pe_str (fun _ _ => rfl)) (pa_cons (pe_tup (pa_cons pe_str pa_nil)) pa_nil)))
        (pss_one (ps_ret (pe_op op_cat (pe_ix (k_ixT K) (pv 1) pe_int (fun _ _ => rfl)) (pe_lst (pa_cons (pe_tup (pa_cons pe_str pa_nil)) pa_nil)))))) pss_nil)
      (pss_cons (ps_if (pt_cmpR op_eq (pv 2) pe_str (nomark _)) (pss_cons (ps_if (pt_cmpR (op_inD (hu65 hr)) (pe_tup (pa_cons (pe_ix (k_ixT K) (pv 1) pe_int (fun _ _ => rfl)) (pa_cons (pe_dget (hu_of hr) (pv 0) pe_str (fun _ _ => rfl)) pa_nil))) (pe_dget (hu_of hr) (pv 0) pe_str (fun _ _ => rfl)) rfl) (pss_one (ps_ret pe_non)) pss_nil)
        (pss_cons (ps_expr (pe_bm PySem.F.plainAttrs_list PySem.F.slot_list_append PySem.F.type_list_append mt_append (pe_dget (hu_of hr) (pv 0) pe_str (fun _ _ => rfl)) (pa_cons (pe_tup (pa_cons (pe_ix (k_ixT K) (pv 1) pe_int (fun _ _ => rfl)) (pa_cons (pe_dget (hu_of hr) (pv 0) pe_str (fun _ _ => rfl)) pa_nil))) pa_nil)))
        (pss_cons (ps_daug (hu_of hr) (pv 0) pe_str (pe_slice (k_slL K) (pe_lst (pa_cons (pe_tup (pa_cons pe_str pa_nil)) pa_nil)) po_none (po_some (pe_callTy call_intB (by rfl) T.z_int bt_int (pa_cons (pe_ix (k_ixT K) (pv 1) pe_int (fun _ _ => rfl)) pa_nil)))) in_addL (fun _ _ _ => rfl))
        (pss_one (ps_ret (pe_op op_cat (pe_ix (k_ixL K) (pe_dget (hu_of hr) (pv 0) pe_str (fun _ _ => rfl)) (pe_ix (k_ixT K) (pv 1) pe_int (fun _ _ => rfl)) (fun _ _ => rfl)) (pe_lst (pa_cons (pe_tup (pa_cons pe_str (pa_cons (pv 1) (pa_cons pe_int pa_nil)))) pa_nil)))))))) pss_nil)
      (pss_cons (ps_if (pt_cmpR op_eq (pv 2) pe_str (nomark _)) (pss_cons (ps_set (i := 4) sc__law_task.nd rfl (Or.inl rfl) (pe_dget (hu_of hr) (pv 0) pe_str (fun _ _ => rfl)))
        (pss_cons (ps_set (i := 5) sc__law_task.nd rfl (Or.inl rfl) (pe_bm PySem.F.plainAttrs_list PySem.F.slot_list_index PySem.F.type_list_index mt_index (pe_lc (own := [("_law_waits", 6)]) (g := (gName 6)) (tt := tYes) rfl sc__law_task.nd (k_piL K (pv 4)) (blkOk_by (N := N__law_task) (sc := defScope s__law_task) (by decide +kernel)) (fun _ _ _ _ _ => (pg_name (i := 6) sc__law_task.nd rfl (Or.inl rfl))) (fun _ _ _ _ _ => pts_nil) (fun _ _ _ _ _ => (pe_ix (k_ixT K) (pv 6) pe_int (fun _ _ => rfl)))) (pa_cons pe_str pa_nil)))
        (pss_cons (ps_daug (hu_of hr) (pv 0) pe_str (pe_lc (own := [("_law_waits", 6)]) (g := (gName 6)) rfl sc__law_task.nd (k_piL K (pe_slice (k_slL K) (pv 4) po_none (po_some (pv 5)))) (blkOk_by (N := N__law_task) (sc := defScope s__law_task) (by decide +kernel)) (fun _ _ _ _ _ => (pg_name (i := 6) sc__law_task.nd rfl (Or.inl rfl))) (fun _ _ _ _ _ => (pts_one (pt_cmpR op_eq (pe_ix (k_ixT K) (pv 6) pe_int (fun _ _ => rfl)) pe_str (nomark _)))) (fun _ _ _ _ _ => (pv 6))) in_addL (fun _ _ _ => rfl))
        (pss_cons (ps_dput (hu_of hr) (pv 0) pe_str (pe_slice (k_slL K) (pv 4) (po_some (pe_op op_add (pv 5) pe_int)) po_none) rfl)
        (pss_one (ps_ret (pe_lst (pa_cons (pe_tup (pa_cons pe_str (pa_cons (pe_ix (k_ixT K) (pe_ix (k_ixL K) (pv 4) (pv 5) (fun _ _ => rfl)) pe_int (fun _ _ => rfl)) (pa_cons (pe_ix (k_ixT K) (pv 1) pe_int (fun _ _ => rfl)) pa_nil)))) pa_nil)))))))) pss_nil)
      (pss_cons (ps_if (pt_cmpR op_eq (pv 2) pe_str (nomark _)) (pss_cons (ps_expr (pe_bm0 PySem.F.plainAttrs_list PySem.F.slot_list_pop PySem.F.type_list_pop mt_pop (pe_dget (hu_of hr) (pv 0) pe_str (fun _ _ => rfl))))
        (pss_cons (ps_dput (hu_of hr) (pv 0) pe_str (pe_ix (k_ixT K) (pv 1) pe_int (fun _ _ => rfl)) rfl)
        (pss_cons (ps_daug (hu_of hr) (pv 0) pe_str (pe_slice (k_slL K) (pe_lst (pa_cons (pe_tup (pa_cons pe_str pa_nil)) pa_nil)) po_none (po_some (pe_callTy call_intB (by rfl) T.z_int bt_int (pa_cons (pe_ix (k_ixT K) (pe_ix (k_ixT K) (pv 1) pe_int (fun _ _ => rfl)) pe_int (fun _ _ => rfl)) pa_nil)))) in_addL (fun _ _ _ => rfl))
        (pss_one (ps_ret (pe_ix (k_ixL K) (pe_ix (k_ixT K) (pe_ix (k_ixT K) (pv 1) pe_int (fun _ _ => rfl)) pe_int (fun _ _ => rfl)) (pe_ix (k_ixT K) (pv 1) pe_int (fun _ _ => rfl)) (fun _ _ => rfl))))))) pss_nil)
      (pss_cons (ps_expr (pe_bm PySem.F.plainAttrs_list PySem.F.slot_list_append PySem.F.type_list_append mt_append (pe_dget (hu_of hr) (pv 0) pe_str (fun _ _ => rfl)) (pa_cons (pv 1) pa_nil)))
      (pss_one (ps_ret (pe_lst pa_nil)))))))))), ?_⟩
    obtain ⟨aT, ts, hd, hT, tT, nT⟩ := X.dict
    have dsz : ∀ {J : Hp} {ds : List V}, J A.aD = some (.lst ds) → TrAll A.S H (s.deeds.map Dd.ld) ds → ds.length < sizeLine := fun _ t => by
      rw [t.len, List.length_map]
      have := hz.todo
      exact Nat.lt_of_le_of_lt (show s.deeds.length ≤ 200000 by omega) (by decide)
    cases x with
    | shut =>
      obtain ⟨t, xs, rfl, ht, x0, us, rfl, hx0, hus⟩ := id tv
      have hx0 : x0 = .str "shut" := hx0
      subst hx0
      refine ⟨_, rfl, t, _, 0, _, rfl, rfl, SqT.of ht, atI_nat (j := 0) rfl, ?_⟩
      refine ⟨_, rfl, rfl, _, rfl, iteN (by decide) ⟨_, rfl, rfl, _, rfl, iteN (by decide) ?_⟩⟩
      refine ⟨_, rfl, rfl, _, rfl, iteN (by decide) ⟨_, rfl, rfl, _, rfl, iteN (by decide) ⟨_, rfl, rfl, _, rfl, iteN (by decide) ⟨_, rfl, rfl, _, rfl, iteN (by decide) ?_⟩⟩⟩⟩
      obtain ⟨ds, h2, t2⟩ := X.dds
      refine ⟨_, rfl, A.d, _, rfl, dgetS hd lg_deeds, .inl ⟨rfl, _, SqL.of h2⟩, _, rfl, A.aD, ds, _, rfl, rfl, h2, dsz h2 t2, ?_⟩
      obtain ⟨k1, X1⟩ := X.setE (dl := s.deeds ++ [.back]) (ds' := ds ++ [.ref t]) (by rw [List.map_append]; exact t2.append (.one tv))
      refine ⟨small100 (n := 0) (by decide), fun r nr => ?_⟩
      have k2 := same_upd (o := .lst []) nr
      exact q _ _ rfl r [] _ (k1.trans (KpM.of k2)) (X1.same k2) upd_same rfl
    | out p sv a b w0 =>
      obtain ⟨t, xs, rfl, ht, x0, us, rfl, hx0, x1, us1, rfl, hx1, x2, us2, rfl, hx2, hx3⟩ := id tv
      have hx0 : x0 = .str "out" := hx0
      have hx2 : x2 = .int (wayN w0) := hx2
      have hx3 : us2 = [] := hx3
      subst hx0 hx2 hx3
      obtain ⟨tc, cs, rfl, htc, c0, cu0, rfl, hc0, c1, cu1, rfl, hc1, c2, cu2, rfl, hc2, c3, cu3, rfl, hc3, hc4⟩ := hx1
      have hc0 : c0 = .str "call" := hc0
      have hc1 : c1 = .int p := hc1
      have hc2 : c2 = .bl sv := hc2
      have hc4 : cu3 = [] := hc4
      subst hc0 hc1 hc2 hc4
      obtain ⟨lp, ps, rfl, slp, hlp, b0, bu0, rfl, hb0, b1, bu1, rfl, hb1, hb2⟩ := hc3
      have hb2 : bu1 = [] := hb2
      subst hb2
      obtain ⟨la, ya, rfl, sla, hla, tya⟩ := hb0
      obtain ⟨lb, yb, rfl, slb, hlb, tyb⟩ := hb1
      refine ⟨_, rfl, t, _, 0, _, rfl, rfl, SqT.of ht, atI_nat (j := 0) rfl, ?_⟩
      refine ⟨_, rfl, rfl, _, rfl, iteN (by decide) ⟨_, rfl, rfl, _, rfl, iteN (by decide) ?_⟩⟩
      refine ⟨_, rfl, rfl, _, rfl, iteN (by decide) ⟨_, rfl, rfl, _, rfl, iteN (by decide) ⟨_, rfl, rfl, _, rfl, iteN (by decide) ⟨_, rfl, rfl, _, rfl, iteP rfl ?_⟩⟩⟩⟩
      obtain ⟨os, h3, t3⟩ := X.ops
      have ol : os ≠ [] := fun e => by
        have := t3.len
        rw [e, List.length_map] at this
        exact hout _ _ _ _ _ rfl (List.length_eq_zero_iff.mp this.symm)
      obtain ⟨oi, ov, rfl⟩ : ∃ oi ov, os = oi ++ [ov] := ⟨os.dropLast, os.getLast ol, (List.dropLast_concat_getLast ol).symm⟩
      refine ⟨_, rfl, A.d, _, rfl, dgetS hd lg_opens, .inl ⟨rfl, _, SqL.of h3⟩, A.aO, _, ov, rfl, rfl, h3, (pop_lst oi ov).1, ?_⟩
      rw [(pop_lst oi ov).2]
      obtain ⟨k1, X1⟩ := X.setO (ol := s.opens.dropLast) (os' := oi) (by
        rw [List.map_dropLast]
        have := t3.take (s.opens.map opD).length.pred
        have l3 := t3.len
        rw [List.length_append, List.length_singleton] at l3
        rw [List.dropLast_eq_take, show (s.opens.map opD).length - 1 = oi.length by omega]
        have := t3.take oi.length
        rw [List.take_append_of_le_length (Nat.le_refl _), List.take_length] at this
        exact this)
      have hd1 := (by rw [upd_ne X.ne.2.2.1]; exact hd : (upd H A.aO (.lst oi)) A.d = some (.dK (lkv A s aT)))
      generalize upd H A.aO (.lst oi) = H1 at *
      have g1 := X.stay k1
      have ht1 := g1 _ _ (.inr ⟨_, rfl⟩) ht
      refine ⟨_, rfl, t, _, 2, _, rfl, rfl, SqT.of ht1, atI_nat (j := 2) rfl, _, rfl, A.d, upd H1 A.d (.dK (lkv A { s with way := wayN w0 } aT)), rfl, dputS hd1 lk_len (lp_way _), ?_⟩
      obtain ⟨k2, X2⟩ := X1.setD hd1 (ex := s.extra) (tk := s.taken) (wy := wayN w0) X.tk
      have hd2 : (upd H1 A.d (.dK (lkv A { s with way := wayN w0 } aT))) A.d = some (.dK (lkv A { s with way := wayN w0 } aT)) := upd_same
      have k2 : KpM A.M H1 (upd H1 A.d (.dK (lkv A { s with way := wayN w0 } aT))) := k2
      have X2 : LV A { s with opens := s.opens.dropLast, way := wayN w0 } (upd H1 A.d (.dK (lkv A { s with way := wayN w0 } aT))) := X2
      generalize upd H1 A.d (.dK (lkv A { s with way := wayN w0 } aT)) = H2 at *
      refine ⟨_, rfl, A.d, _, rfl, dgetS hd2 lg_deeds, ?_⟩
      refine ⟨small100 (n := 1) (by decide), fun e ne => ⟨small100 (n := 1) (by decide), fun l nl => ?_⟩⟩
      have s3 := same_upd (o := .tup [V.str "shut"]) ne
      have he : (upd H2 e (.tup [V.str "shut"])) e = some (.tup [V.str "shut"]) := upd_same
      generalize upd H2 e (.tup [V.str "shut"]) = H3 at *
      have s4 := same_upd (o := .lst [V.ref e]) nl
      have hl : (upd H3 l (.lst [V.ref e])) l = some (.lst [V.ref e]) := upd_same
      have he := s4 _ _ he
      generalize upd H3 l (.lst [V.ref e]) = H4 at *
      have k4 : KpM A.M H H4 := (k1.trans k2).trans (KpM.of (s3.trans s4))
      have g4 := X.stay k4
      have ht4 := g4 _ _ (.inr ⟨_, rfl⟩) ht
      have htc4 := g4 _ _ (.inr ⟨_, rfl⟩) htc
      refine ⟨_, rfl, t, _, 1, _, rfl, rfl, SqT.of ht4, atI_nat (j := 1) rfl, tc, _, 2, _, rfl, rfl, SqT.of htc4, atI_nat (j := 2) rfl, sv, rfl, _, rfl, l, _, rfl, SqL.of hl, fun u nu => ?_⟩
      rw [show cutV [V.ref e] none (some (if sv = true then 1 else 0)) = (backIf sv).map (fun _ => V.ref e) by cases sv <;> rfl]
      have s5 := same_upd (o := .lst ((backIf sv).map (fun _ => V.ref e))) nu
      have hu : (upd H4 u (.lst ((backIf sv).map (fun _ => V.ref e)))) u = some (.lst ((backIf sv).map (fun _ => V.ref e))) := upd_same
      have he := s5 _ _ he
      generalize upd H4 u _ = H5 at *
      have s35 := (s3.trans s4).trans s5
      have X5 := X2.same s35
      have hd5 := s35 _ _ hd2
      obtain ⟨ds, h2, t2⟩ := X5.dds
      have ld : ds.length ≤ 200000 := by
        rw [t2.len, List.length_map]
        have := hz.todo
        show s.deeds.length ≤ _
        omega
      obtain ⟨k6, X6⟩ := X5.setE (dl := s.deeds ++ backIf sv) (ds' := ds ++ (backIf sv).map (fun _ => V.ref e)) (by
        rw [List.map_append]
        refine t2.append ?_
        cases sv with
        | true => exact .one ⟨e, _, rfl, he, .one rfl⟩
        | false => exact rfl)
      have hd6 : (upd H5 A.aD (.lst (ds ++ (backIf sv).map (fun _ => V.ref e)))) A.d = some (.dK (lkv A { s with way := wayN w0 } aT)) := by rw [upd_ne X.ne.2.1]; exact hd5
      refine ⟨A.aD, u, ds, _, rfl, rfl, h2, hu, ?_, _, dputS hd6 lk_len lp_deeds, ?_⟩
      · have : ((backIf sv).map (fun _ => V.ref e)).length ≤ 1 := by cases sv <;> simp [backIf]
        exact Nat.le_of_lt (Nat.lt_of_le_of_lt (show ds.length + ((backIf sv).map (fun _ => V.ref e)).length ≤ 200001 by omega) (by decide))
      obtain ⟨k7, X7⟩ := X6.setD hd6 (ex := s.extra) (tk := s.taken) (wy := wayN w0) X.tk
      have k7 : KpM A.M _ (upd (upd H5 A.aD (.lst (ds ++ (backIf sv).map (fun _ => V.ref e)))) A.d (.dK (lkv A { s with way := wayN w0 } aT))) := k7
      have X7 : LV A { s with opens := s.opens.dropLast, way := wayN w0, deeds := s.deeds ++ backIf sv } (upd (upd H5 A.aD (.lst (ds ++ (backIf sv).map (fun _ => V.ref e)))) A.d (.dK (lkv A { s with way := wayN w0 } aT))) := X7
      have kk : KpM A.M H (upd (upd H5 A.aD (.lst (ds ++ (backIf sv).map (fun _ => V.ref e)))) A.d (.dK (lkv A { s with way := wayN w0 } aT))) := ((k4.trans (KpM.of s5)).trans k6).trans k7
      generalize upd (upd H5 A.aD (.lst (ds ++ (backIf sv).map (fun _ => V.ref e)))) A.d (.dK (lkv A { s with way := wayN w0 } aT)) = H7 at *
      have g7 := X.stay kk
      have ht7 := g7 _ _ (.inr ⟨_, rfl⟩) ht
      have htc7 := g7 _ _ (.inr ⟨_, rfl⟩) htc
      have hlp7 := g7 _ _ (.inl ⟨⟨_, rfl⟩, slp⟩) hlp
      have hla7 := g7 _ _ (.inl ⟨⟨_, rfl⟩, sla⟩) hla
      have hlb7 := g7 _ _ (.inl ⟨⟨_, rfl⟩, slb⟩) hlb
      have tya7 := X.trA kk (blk_noD a) tya
      have tyb7 := X.trA kk (blk_noD b) tyb
      refine ⟨_, rfl, t, _, 1, _, rfl, rfl, SqT.of ht7, atI_nat (j := 1) rfl, tc, _, 3, _, rfl, rfl, SqT.of htc7, atI_nat (j := 3) rfl, _, rfl, t, _, 2, _, rfl, rfl, SqT.of ht7, atI_nat (j := 2) rfl, lp, _, _, _, rfl, rfl, SqL.of hlp7, (by cases w0 <;> exact rfl : atI [V.ref la, V.ref lb] (wayN w0) = some (V.ref (if w0 then lb else la))), ?_⟩
      refine q ((if w0 then b else a).map LTh.st) _ rfl (if w0 then lb else la) (if w0 then yb else ya) H7 kk X7 ?_ ?_
      · cases w0
        · exact hla7
        · exact hlb7
      · rw [List.map_map]
        cases w0
        · rw [blkD_map] at tya7; exact tya7
        · rw [blkD_map] at tyb7; exact tyb7
    | st z =>
      cases z with
      | cmd c =>
        obtain ⟨w1, w2, w3, w4, w5, w6⟩ := cm_words c
        obtain ⟨t, xs, rfl, ht, x0, us, rfl, hx0, hus⟩ := id tv
        have hx0 : x0 = .str c.word := hx0
        subst hx0
        refine ⟨_, rfl, t, _, 0, _, rfl, rfl, SqT.of ht, atI_nat (j := 0) rfl, ?_⟩
        refine ⟨_, rfl, rfl, _, rfl, iteN (strN w1) ⟨_, rfl, rfl, _, rfl, iteN (strN w2) ?_⟩⟩
        refine ⟨_, rfl, rfl, _, rfl, iteN (strN w3) ⟨_, rfl, rfl, _, rfl, iteN (strN w4) ⟨_, rfl, rfl, _, rfl, iteN (strN w5) ⟨_, rfl, rfl, _, rfl, iteN (strN w6) ?_⟩⟩⟩⟩
        obtain ⟨ds, h2, t2⟩ := X.dds
        refine ⟨_, rfl, A.d, _, rfl, dgetS hd lg_deeds, .inl ⟨rfl, _, SqL.of h2⟩, _, rfl, A.aD, ds, _, rfl, rfl, h2, dsz h2 t2, ?_⟩
        obtain ⟨k1, X1⟩ := X.setE (dl := s.deeds ++ [.cmd c]) (ds' := ds ++ [.ref t]) (by rw [List.map_append]; exact t2.append (.one tv))
        refine ⟨small100 (n := 0) (by decide), fun r nr => ?_⟩
        have k2 := same_upd (o := .lst []) nr
        exact q _ _ rfl r [] _ (k1.trans (KpM.of k2)) (X1.same k2) upd_same rfl
      | fin w0 =>
        obtain ⟨t, xs, rfl, ht, x0, us, rfl, hx0, x1, us1, rfl, hx1, hx2⟩ := id tv
        have hx0 : x0 = .str "end" := hx0
        have hx1 : x1 = .int (wayN w0) := by cases w0 <;> exact hx1
        have hx2 : us1 = [] := hx2
        subst hx0 hx1 hx2
        refine ⟨_, rfl, t, _, 0, _, rfl, rfl, SqT.of ht, atI_nat (j := 0) rfl, ?_⟩
        refine ⟨_, rfl, rfl, _, rfl, iteN (by decide) ⟨_, rfl, rfl, _, rfl, iteN (by decide) ?_⟩⟩
        refine ⟨_, rfl, rfl, _, rfl, iteN (by decide) ⟨_, rfl, rfl, _, rfl, iteN (by decide) ⟨_, rfl, rfl, _, rfl, iteP rfl ?_⟩⟩⟩
        obtain ⟨⟨⟨p, sv, a, b⟩, r0, ds'⟩, hcut⟩ := hfin w0 rfl
        obtain ⟨pre, w1, etd, npre, eds⟩ := cutO_is hcut
        have lts := tT.len
        rw [List.length_map] at lts
        have ltd := congrArg List.length etd
        rw [List.length_append, List.length_cons] at ltd
        refine ⟨_, rfl, A.d, _, rfl, dgetS hd lg_todo, ?_⟩
        refine ⟨_, rfl, aT, rfl, ⟨_, SqL.of hT⟩, fun D nD => ?_⟩
        refine lc_list (xs := ts) (fun i J => Same H J ∧ J D = some (.lst (((s.todo.take i).map LTh.word).map V.str))) ⟨same_upd nD, upd_same⟩ (fun i J _ h => SqL.of (h.1 _ _ hT)) (fun i x J hx h => ?_) (fun J h => ?_)
        · obtain ⟨sm, hD⟩ := h
          obtain ⟨d, hd0, tx⟩ := tT.get hx
          rw [List.getElem?_map] at hd0
          cases hy : s.todo[i]? with
          | none => rw [hy] at hd0; cases hd0
          | some y =>
            rw [hy] at hd0
            have hd0 : y.d = d := Option.some.inj hd0
            subst hd0
            obtain ⟨ty, uy, rfl, hty⟩ := lth_word tx
            refine ⟨rfl, _, rfl, ty, _, 0, _, rfl, rfl, SqT.of (sm _ _ hty), atI_nat (j := 0) rfl, _, hD, ?_, same_new sm nD, ?_⟩
            · rw [List.length_map, List.length_map, List.length_take]
              have := hz.todo
              exact Nat.lt_of_le_of_lt (show min i s.todo.length ≤ 200000 by omega) (by decide)
            · rw [upd_same, List.take_add_one, hy, List.map_append, List.map_append]
              rfl
        · obtain ⟨sm, hD⟩ := h
          rw [lts, List.take_length] at hD
          have hjo : s.todo[pre.length]? = some (.out p sv a b w1) := by
            rw [etd, List.getElem?_append_right (Nat.le_refl _), Nat.sub_self]
            rfl
          have before : ∀ (m : Nat) (y : LTh), m < pre.length → s.todo[m]? = some y → y ∈ pre := fun m y hm e => by
            rw [etd, List.getElem?_append_left hm] at e
            exact List.mem_of_getElem? e
          refine ⟨.inl ⟨rfl, _, SqL.of hD⟩, D, (s.todo.map LTh.word).map V.str, .str "out", pre.length, .str "out", rfl, rfl, SqL.of hD, rfl, ?_, ?_, ?_, fun m z' hm e => ?_, ?_⟩
          · rw [List.all_map]
            exact List.all_eq_true.mpr fun _ _ => rfl
          · rw [List.getElem?_map, List.getElem?_map, hjo]
            rfl
          · exact beq_self_eq_true _
          · rw [List.getElem?_map, List.getElem?_map] at e
            cases hy : s.todo[m]? with
            | none => rw [hy] at e; cases e
            | some y =>
              rw [hy] at e
              have e : V.str y.word = z' := Option.some.inj e
              subst e
              have n1 := npre y (before m y hm hy)
              have n2 : ¬ y.word = "out" := fun h => by rw [(lth_out y).mp h] at n1; cases n1
              exact beq_eq_false_iff_ne.mpr n2
          · have XJ := X.same sm
            have hdJ := sm _ _ hd
            have hTJ := sm _ _ hT
            have tTJ := tT.same sm
            refine ⟨_, rfl, A.d, _, rfl, dgetS hdJ lg_deeds, ?_⟩
            refine ⟨_, rfl, _, rfl, pre.length, rfl, aT, ts, rfl, SqL.of hTJ, fun u nu => ?_⟩
            rw [cut_to]
            have s1 := same_upd (o := .lst (ts.take pre.length)) nu
            have hu : (upd J u (.lst (ts.take pre.length))) u = some (.lst (ts.take pre.length)) := upd_same
            generalize upd J u (.lst (ts.take pre.length)) = H1 at *
            refine ⟨u, rfl, ⟨_, SqL.of hu⟩, fun D2 nD2 => ?_⟩
            refine lc_list (xs := ts.take pre.length) (fun i J2 => Same H1 J2 ∧ ∃ zs, J2 D2 = some (.lst zs) ∧ TrAll (fun _ => False) J2 (((pre.take i).filter LTh.isShut).map fun _ => Dd.back.ld) zs) ⟨same_upd nD2, [], upd_same, by simp; rfl⟩ (fun i J2 _ h => SqL.of (h.1 _ _ hu)) (fun i x J2 hx2 h => ?_) (fun J2 h => ?_)
            · obtain ⟨sm2, zs, hD2, tz⟩ := h
              have hi := (List.getElem?_eq_some_iff.mp hx2).1
              rw [List.length_take] at hi
              have hx3 : ts[i]? = some x := by
                rw [List.getElem?_take_of_lt (by omega)] at hx2
                exact hx2
              obtain ⟨d, hd0, tx⟩ := tTJ.get hx3
              have hyp : s.todo[i]? = pre[i]? := by rw [etd, List.getElem?_append_left (by omega)]
              rw [List.getElem?_map, hyp] at hd0
              cases hy : pre[i]? with
              | none => rw [hy] at hd0; cases hd0
              | some y =>
                rw [hy] at hd0
                have hd0 : y.d = d := Option.some.inj hd0
                subst hd0
                have tx2 := tx.same (s1.trans sm2)
                obtain ⟨ty, uy, rfl, hty⟩ := lth_word tx2
                have et : (pre.take (i + 1)).filter LTh.isShut = (pre.take i).filter LTh.isShut ++ if y.isShut then [y] else [] := by
                  rw [List.take_add_one, hy, List.filter_append]
                  congr 1
                  cases e : y.isShut <;> simp [e]
                refine ⟨rfl, _, rfl, ty, _, 0, _, rfl, rfl, SqT.of hty, atI_nat (j := 0) rfl, rfl, _, rfl, ?_⟩
                by_cases e : y.isShut = true
                · refine iteP (congrArg V.str ((lth_shut y).mpr e)) ?_
                  have ez : zs.length ≤ 200000 := by
                    rw [tz.len, List.length_map]
                    have h1 : ((pre.take i).filter LTh.isShut).length ≤ (pre.take i).length := List.length_filter_le _ _
                    rw [List.length_take] at h1
                    have := hz.todo
                    omega
                  have ty2 : Tr (fun _ => False) J2 Dd.back.ld (.ref ty) := by
                    cases y with
                    | shut =>
                      obtain ⟨a', xs', e1, h1', x0', us', e2, h0', h3'⟩ := tx2
                      exact ⟨a', xs', e1, h1', x0', us', e2, h0', h3'⟩
                    | st z => cases e
                    | out => cases e
                  refine ⟨_, rfl, zs, hD2, Nat.lt_of_le_of_lt ez (by decide), same_new sm2 nD2, zs ++ [.ref ty], upd_same, ?_⟩
                  rw [et, if_pos e, List.map_append]
                  have up : ∀ b o', ((∃ xs, o' = HO.lst xs) ∧ False) ∨ (∃ xs, o' = HO.tup xs) → J2 b = some o' → (upd J2 D2 (.lst (zs ++ [.ref ty]))) b = some o' := fun b o' h e => by
                    rw [upd_ne (fun z => ?_)]
                    · exact e
                    · rw [z, hD2] at e
                      cases e
                      rcases h with ⟨_, h⟩ | ⟨_, h⟩
                      · exact h
                      · cases h
                  exact (TrAll.stay up _ _ (by rw [show (fun _ : LTh => Dd.back.ld) = (fun _ : LTh => Dd.ld .back) from rfl]; exact all_noD _ (fun _ => ld_noD .back) _) tz).append (.one (Tr.stay up _ _ (ld_noD .back) ty2))
                · refine iteN (fun h => e ((lth_shut y).mp (V.str.inj h))) ?_
                  refine ⟨sm2, zs, hD2, ?_⟩
                  rw [et, if_neg e, List.append_nil]
                  exact tz
            · obtain ⟨sm2, zs, hD2, tz⟩ := h
              have lt1 : (ts.take pre.length).length = pre.length := by rw [List.length_take]; omega
              rw [lt1, List.take_length] at tz
              have X2 := XJ.same (s1.trans sm2)
              have hd2 := (s1.trans sm2) _ _ hdJ
              have hT2 := (s1.trans sm2) _ _ hTJ
              have tT2 := tTJ.same (s1.trans sm2)
              obtain ⟨ds, h2, t2⟩ := X2.dds
              have ez : ds.length + zs.length ≤ 400000 := by
                rw [t2.len, tz.len, List.length_map, List.length_map]
                have h1 : (pre.filter LTh.isShut).length ≤ pre.length := List.length_filter_le _ _
                have := hz.todo
                omega
              obtain ⟨k3, X3⟩ := X2.setE (dl := ds') (ds' := ds ++ zs) (by
                rw [eds, List.map_append, List.map_map]
                exact t2.append (TrAll.mono (fun _ h => h.elim) _ _ tz))
              have hd3 := (by rw [upd_ne X.ne.2.1]; exact hd2 : (upd J2 A.aD (.lst (ds ++ zs))) A.d = some (.dK (lkv A s aT)))
              refine ⟨A.aD, D2, ds, zs, rfl, rfl, h2, hD2, Nat.le_of_lt (Nat.lt_of_le_of_lt ez (by decide)), _, dputS hd3 lk_len lp_deeds, ?_⟩
              obtain ⟨k4, X4⟩ := X3.setD hd3 (ex := s.extra) (tk := s.taken) (wy := s.way) X.tk
              have hd4 : (upd (upd J2 A.aD (.lst (ds ++ zs))) A.d (.dK (lkv A s aT))) A.d = some (.dK (lkv A s aT)) := upd_same
              have k4 : KpM A.M _ (upd (upd J2 A.aD (.lst (ds ++ zs))) A.d (.dK (lkv A s aT))) := k4
              have X4 : LV A { s with deeds := ds' } (upd (upd J2 A.aD (.lst (ds ++ zs))) A.d (.dK (lkv A s aT))) := X4
              have kk : KpM A.M H (upd (upd J2 A.aD (.lst (ds ++ zs))) A.d (.dK (lkv A s aT))) := ((KpM.of ((sm.trans s1).trans sm2)).trans k3).trans k4
              generalize upd (upd J2 A.aD (.lst (ds ++ zs))) A.d (.dK (lkv A s aT)) = H4 at *
              have hT4 := kk _ _ nT hT
              have tT4 := X.trA kk (all_noD _ lth_noD _) tT
              refine ⟨_, rfl, _, rfl, _, _, rfl, rfl, _, rfl, aT, ts, rfl, SqL.of hT4, fun u3 nu3 => ?_⟩
              rw [show ((pre.length : Nat) : Int) + 1 = ((pre.length + 1 : Nat) : Int) by omega, cut_from]
              have s5 := same_upd (o := .lst (ts.drop (pre.length + 1))) nu3
              have hu3 : (upd H4 u3 (.lst (ts.drop (pre.length + 1)))) u3 = some (.lst (ts.drop (pre.length + 1))) := upd_same
              have nM : ¬ A.M u3 := fun m => by
                obtain ⟨aT9, ts9, hd9, _⟩ := X4.dict
                obtain ⟨ds9, h29, _⟩ := X4.dds
                obtain ⟨os9, h39, _⟩ := X4.ops
                rcases m with rfl | rfl | rfl | rfl
                · rw [nu3] at hd9; cases hd9
                · have := X4.bts; rw [nu3] at this; cases this
                · rw [nu3] at h29; cases h29
                · rw [nu3] at h39; cases h39
              generalize upd H4 u3 (.lst (ts.drop (pre.length + 1))) = H5 at *
              have X5 := X4.same s5
              have hd5 := s5 _ _ hd4
              have tT5 := tT4.same s5
              refine ⟨_, rfl, A.d, upd H5 A.d (.dK (lkv A s u3)), rfl, dputS hd5 lk_len (lp_todo _), ?_⟩
              obtain ⟨k6, X6⟩ := X5.setT (td := r0) hu3 (by
                have := tT5.drop (pre.length + 1)
                rw [← List.map_drop, etd, ← List.drop_drop, List.drop_left] at this
                exact this) nM
              have k6 : KpM A.M H5 (upd H5 A.d (.dK (lkv A s u3))) := k6
              have X6 : LV A { s with todo := r0, deeds := ds' } (upd H5 A.d (.dK (lkv A s u3))) := X6
              have kk6 := (kk.trans (KpM.of s5)).trans k6
              generalize upd H5 A.d (.dK (lkv A s u3)) = H6 at *
              have hT6 := kk6 _ _ nT hT
              have tT6 := X.trA kk6 (all_noD _ lth_noD _) tT
              have ht6 := X.stay kk6 _ _ (.inr ⟨_, rfl⟩) ht
              obtain ⟨vo, hvo, tvo⟩ := tT6.get' (i := pre.length) (d := (LTh.out p sv a b w1).d) (by rw [List.getElem?_map, hjo]; rfl)
              obtain ⟨to, xo, rfl, hto, o0, ou0, rfl, ho0, o1, ou1, rfl, ho1, _⟩ := tvo
              refine ⟨_, rfl, _, rfl, aT, ts, _, _, rfl, rfl, SqL.of hT6, at_of (j := pre.length) rfl hvo, to, _, 1, _, rfl, rfl, SqT.of hto, atI_nat (j := 1) rfl, _, rfl, t, _, 1, _, rfl, rfl, SqT.of ht6, atI_nat (j := 1) rfl, small100 (n := 3) (by decide), fun e ne => ⟨small100 (n := 1) (by decide), fun l nl => ?_⟩⟩
              have s7 := same_upd (o := .tup [V.str "out", o1, .int (wayN w0)]) ne
              have he : (upd H6 e (.tup [V.str "out", o1, .int (wayN w0)])) e = some (.tup [V.str "out", o1, .int (wayN w0)]) := upd_same
              generalize upd H6 e (.tup [V.str "out", o1, .int (wayN w0)]) = H7 at *
              have s8 := same_upd (o := .lst [V.ref e]) nl
              refine q [.out p sv a b w0] { s with todo := r0, deeds := ds' } (by show (cutO s.todo s.deeds).map _ = _; rw [hcut]; rfl) l [.ref e] _ (kk6.trans (KpM.of (s7.trans s8))) (X6.same (s7.trans s8)) upd_same ?_
              exact .one ⟨e, _, rfl, s8 _ _ he, .cons rfl (.cons (ho1.same (s7.trans s8)) (.one rfl))⟩
      | keep b =>
        obtain ⟨t, xs, rfl, ht, x0, us, rfl, hx0, x1, us1, rfl, hx1, hx2⟩ := id tv
        have hx0 : x0 = .str "keep" := hx0
        have hx2 : us1 = [] := hx2
        subst hx0 hx2
        obtain ⟨la, ya, rfl, sla, hla, tya⟩ := hx1
        refine ⟨_, rfl, t, _, 0, _, rfl, rfl, SqT.of ht, atI_nat (j := 0) rfl, ?_⟩
        refine ⟨_, rfl, rfl, _, rfl, iteN (by decide) ⟨_, rfl, rfl, _, rfl, iteN (by decide) ?_⟩⟩
        refine ⟨_, rfl, rfl, _, rfl, iteP rfl ?_⟩
        obtain ⟨ds, h2, t2⟩ := X.dds
        refine ⟨_, rfl, A.d, _, rfl, dgetS hd lg_deeds, .inl ⟨rfl, _, SqL.of h2⟩, small100 (n := 1) (by decide), fun e ne => ?_⟩
        have s1 := same_upd (o := .tup [V.str "hold"]) ne
        have he : (upd H e (.tup [V.str "hold"])) e = some (.tup [V.str "hold"]) := upd_same
        generalize upd H e (.tup [V.str "hold"]) = H1 at *
        have X1 := X.same s1
        have h21 := s1 _ _ h2
        refine ⟨A.aD, ds, _, rfl, rfl, h21, dsz h21 t2, ?_⟩
        obtain ⟨k2, X2⟩ := X1.setE (dl := s.deeds ++ [.hold]) (ds' := ds ++ [.ref e]) (by rw [List.map_append]; exact (t2.same s1).append (.one ⟨e, _, rfl, he, .one rfl⟩))
        have k2 := (KpM.of (M := A.M) s1).trans k2
        generalize upd H1 A.aD (.lst (ds ++ [.ref e])) = H2 at *
        have g2 := X.stay k2
        have ht2 := g2 _ _ (.inr ⟨_, rfl⟩) ht
        have hla2 := g2 _ _ (.inl ⟨⟨_, rfl⟩, sla⟩) hla
        have tya2 := X.trA k2 (blk_noD b) tya
        refine ⟨_, rfl, t, _, 1, _, rfl, rfl, SqT.of ht2, atI_nat (j := 1) rfl, small100 (n := 1) (by decide), fun e2 ne2 => ⟨small100 (n := 1) (by decide), fun l nl => ?_⟩⟩
        have s3 := same_upd (o := .tup [V.str "shut"]) ne2
        have he2 : (upd H2 e2 (.tup [V.str "shut"])) e2 = some (.tup [V.str "shut"]) := upd_same
        generalize upd H2 e2 (.tup [V.str "shut"]) = H3 at *
        have s4 := same_upd (o := .lst [V.ref e2]) nl
        have hl : (upd H3 l (.lst [V.ref e2])) l = some (.lst [V.ref e2]) := upd_same
        generalize upd H3 l (.lst [V.ref e2]) = H4 at *
        refine ⟨la, l, ya, _, rfl, rfl, (s3.trans s4) _ _ hla2, hl, ?_, fun r nr => ?_⟩
        · rw [tya.len, blkD_len]
          obtain ⟨_, _, _, hk, _⟩ := hx
          exact Nat.le_of_lt (small1000 (n := b.length + [V.ref e2].length) (by have := hk.2.1; rw [List.length_singleton]; omega))
        · have s5 := same_upd (o := .lst (ya ++ [V.ref e2])) nr
          have s35 := (s3.trans s4).trans s5
          refine q _ _ rfl r _ _ (k2.trans (KpM.of s35)) (X2.same s35) upd_same ?_
          rw [List.map_append, List.map_map]
          refine TrAll.append ?_ (.one ⟨e2, _, rfl, (s4.trans s5) _ _ he2, .one rfl⟩)
          have := tya2.same s35
          rw [blkD_map] at this
          exact this
      | again b =>
        obtain ⟨t, xs, rfl, ht, x0, us, rfl, hx0, x1, us1, rfl, hx1, hx2⟩ := id tv
        have hx0 : x0 = .str "again" := hx0
        have hx2 : us1 = [] := hx2
        subst hx0 hx2
        obtain ⟨la, ya, rfl, sla, hla, tya⟩ := hx1
        refine ⟨_, rfl, t, _, 0, _, rfl, rfl, SqT.of ht, atI_nat (j := 0) rfl, ?_⟩
        refine ⟨_, rfl, rfl, _, rfl, iteN (by decide) ⟨_, rfl, rfl, _, rfl, iteP rfl ?_⟩⟩
        refine ⟨_, rfl, _, rfl, A, s, .again b, .ref t, rfl, X, tv, hx, hz.bits, fun hn H1 k1 X1 => ?_, fun w s' hw H1 k1 X1 => ?_⟩
        · refine ⟨_, rfl, rfl, _, rfl, iteP rfl ?_⟩
          exact qn (by show (bitL (.again b) s).map _ = _; rw [hn]; rfl) H1 k1 X1
        · refine ⟨_, rfl, rfl, _, rfl, iteN (by cases w <;> decide) ?_⟩
          refine ⟨_, rfl, rfl, _, rfl, iteN (by decide) ?_⟩
          have g1 := X.stay k1
          refine ⟨small100 (n := 0) (by decide), fun e ne => ?_⟩
          have s2 := same_upd (o := .lst []) ne
          have he : (upd H1 e (.lst [])) e = some (.lst []) := upd_same
          generalize upd H1 e (.lst []) = H2 at *
          have ht2 := s2 _ _ (g1 _ _ (.inr ⟨_, rfl⟩) ht)
          have hla2 := s2 _ _ (g1 _ _ (.inl ⟨⟨_, rfl⟩, sla⟩) hla)
          have tya2 := (X.trA k1 (blk_noD b) tya).same s2
          have tv2 := (X.tr k1 (stm_noD (.again b)) tv).same s2
          refine ⟨_, rfl, t, _, 1, _, rfl, rfl, SqT.of ht2, atI_nat (j := 1) rfl, _, rfl, small100 (n := 1) (by decide), fun l nl => ?_⟩
          have s3 := same_upd (o := .lst [V.ref t]) nl
          have hl : (upd H2 l (.lst [V.ref t])) l = some (.lst [V.ref t]) := upd_same
          generalize upd H2 l (.lst [V.ref t]) = H3 at *
          refine ⟨la, l, ya, _, rfl, rfl, s3 _ _ hla2, hl, ?_, fun r nr => ?_⟩
          · rw [tya.len, blkD_len]
            obtain ⟨_, _, _, hk, _⟩ := hx
            exact Nat.le_of_lt (small1000 (n := b.length + [V.ref t].length) (by have := hk.2.1; rw [List.length_singleton]; omega))
          have s4 := same_upd (o := .lst (ya ++ [V.ref t])) nr
          have hr : (upd H3 r (.lst (ya ++ [V.ref t]))) r = some (.lst (ya ++ [V.ref t])) := upd_same
          generalize upd H3 r (.lst (ya ++ [V.ref t])) = H4 at *
          refine ⟨small100 (n := 2) (by decide), fun o no => ?_⟩
          have s5 := same_upd (o := .lst [V.ref e, .ref r]) no
          have ho : (upd H4 o (.lst [V.ref e, .ref r])) o = some (.lst [V.ref e, .ref r]) := upd_same
          generalize upd H4 o (.lst [V.ref e, .ref r]) = H5 at *
          have s25 := (s3.trans s4).trans s5
          have k5 := k1.trans (KpM.of (M := A.M) (s2.trans s25))
          refine ⟨_, rfl, o, _, _, _, rfl, rfl, SqL.of ho, (by cases w <;> exact rfl : atI [V.ref e, V.ref r] (if w = true then 1 else 0) = some (V.ref (if w then r else e))), ?_⟩
          refine q (if w then b.map LTh.st ++ [.st (.again b)] else []) s' (by show (bitL (.again b) s).map _ = _; rw [hw]; rfl) (if w then r else e) (if w then ya ++ [.ref t] else []) H5 k5 (X1.same (s2.trans s25)) ?_ ?_
          · cases w
            · exact s25 _ _ he
            · exact s5 _ _ hr
          · cases w
            · exact rfl
            · show TrAll _ _ (List.map LTh.d (b.map LTh.st ++ [.st (.again b)])) _
              rw [List.map_append, List.map_map]
              refine TrAll.append ?_ (.one (tv2.same s25))
              have := tya2.same s25
              rw [blkD_map] at this
              exact this
      | either a b =>
        obtain ⟨t, xs, rfl, ht, x0, us, rfl, hx0, x1, us1, rfl, hx1, x2, us2, rfl, hx2, hx3⟩ := id tv
        have hx0 : x0 = .str "either" := hx0
        have hx3 : us2 = [] := hx3
        subst hx0 hx3
        obtain ⟨la, ya, rfl, sla, hla, tya⟩ := hx1
        obtain ⟨lb, yb, rfl, slb, hlb, tyb⟩ := hx2
        refine ⟨_, rfl, t, _, 0, _, rfl, rfl, SqT.of ht, atI_nat (j := 0) rfl, ?_⟩
        refine ⟨_, rfl, rfl, _, rfl, iteP rfl ?_⟩
        refine iteT ?_
        refine ⟨_, rfl, _, rfl, A, s, .either a b, .ref t, rfl, X, tv, hx, hz.bits, fun hn H1 k1 X1 => ?_, fun w s' hw H1 k1 X1 => ?_⟩
        · refine ⟨_, rfl, rfl, _, rfl, iteP rfl ?_⟩
          exact qn (by show (bitL (.either a b) s).map _ = _; rw [hn]; rfl) H1 k1 X1
        · refine ⟨_, rfl, rfl, _, rfl, iteN (by cases w <;> decide) ?_⟩
          refine ⟨_, rfl, rfl, _, rfl, iteP rfl ?_⟩
          have g1 := X.stay k1
          have ht1 := g1 _ _ (.inr ⟨_, rfl⟩) ht
          have hla1 := g1 _ _ (.inl ⟨⟨_, rfl⟩, sla⟩) hla
          have hlb1 := g1 _ _ (.inl ⟨⟨_, rfl⟩, slb⟩) hlb
          have tya1 := X.trA k1 (blk_noD a) tya
          have tyb1 := X.trA k1 (blk_noD b) tyb
          refine ⟨_, rfl, _, rfl, _, _, rfl, rfl, t, _, _, _, rfl, rfl, SqT.of ht1, (by cases w <;> exact rfl : atI [V.str "either", V.ref la, V.ref lb] (1 + if w = true then 1 else 0) = some (V.ref (if w then lb else la))), ?_⟩
          refine q ((if w then b else a).map LTh.st) s' (by show (bitL (.either a b) s).map _ = _; rw [hw]; rfl) (if w then lb else la) (if w then yb else ya) H1 k1 X1 ?_ ?_
          · cases w
            · exact hla1
            · exact hlb1
          · rw [List.map_map]
            cases w
            · rw [blkD_map] at tya1; exact tya1
            · rw [blkD_map] at tyb1; exact tyb1
      | call p sv a b =>
        obtain ⟨t, xs, rfl, ht, x0, us, rfl, hx0, x1, us1, rfl, hx1, x2, us2, rfl, hx2, x3, us3, rfl, hx3, hx4⟩ := id tv
        have hx0 : x0 = .str "call" := hx0
        have hx1 : x1 = .int p := hx1
        have hx2 : x2 = .bl sv := hx2
        have hx4 : us3 = [] := hx4
        subst hx0 hx1 hx2 hx4
        refine ⟨_, rfl, t, _, 0, _, rfl, rfl, SqT.of ht, atI_nat (j := 0) rfl, ?_⟩
        refine ⟨_, rfl, rfl, _, rfl, iteN (by decide) ⟨_, rfl, rfl, _, rfl, iteN (by decide) ?_⟩⟩
        refine ⟨_, rfl, rfl, _, rfl, iteN (by decide) ⟨_, rfl, rfl, _, rfl, iteP rfl ?_⟩⟩
        obtain ⟨os, h3, t3⟩ := X.ops
        refine ⟨_, rfl, t, _, 1, _, rfl, rfl, SqT.of ht, atI_nat (j := 1) rfl, _, rfl, A.d, _, rfl, dgetS hd lg_taken, small100 (n := 2) (by decide), fun e ne => ?_⟩
        have s1 := same_upd (o := .tup [V.int (p : Int), natV s.taken]) ne
        have he : (upd H e (.tup [V.int (p : Int), natV s.taken])) e = some (.tup [V.int (p : Int), natV s.taken]) := upd_same
        generalize upd H e (.tup [V.int (p : Int), natV s.taken]) = H1 at *
        have X1 := X.same s1
        have hd1 := s1 _ _ hd
        have h31 := s1 _ _ h3
        have t31 := t3.same s1
        refine ⟨_, rfl, A.d, _, rfl, dgetS hd1 lg_opens, opD (p, s.taken), s.opens.map opD, .tup (SqT.of he) (.cons (.int _) (.cons (.int _) .nil)), .lst (SqL.of h31) (TrAll.dp _ _ (opd_lay _).1 t31), opd_sh _, opds_sh _, ?_⟩
        refine ⟨_, rfl, ?_⟩
        rw [opd_mem]
        by_cases hm : (p, s.taken) ∈ s.opens
        · rw [decide_eq_true hm]
          refine iteT ?_
          exact qn (by show (if (p, s.taken) ∈ s.opens then none else _) = none; rw [if_pos hm]) H1 (KpM.of s1) X1
        · rw [decide_eq_false hm]
          refine iteF ?_
          have ht1 := s1 _ _ ht
          refine ⟨_, rfl, A.d, _, rfl, dgetS hd1 lg_opens, .inl ⟨rfl, _, SqL.of h31⟩, _, rfl, t, _, 1, _, rfl, rfl, SqT.of ht1, atI_nat (j := 1) rfl, _, rfl, A.d, _, rfl, dgetS hd1 lg_taken, small100 (n := 2) (by decide), fun e2 ne2 => ?_⟩
          have s2 := same_upd (o := .tup [V.int (p : Int), natV s.taken]) ne2
          have he2 : (upd H1 e2 (.tup [V.int (p : Int), natV s.taken])) e2 = some (.tup [V.int (p : Int), natV s.taken]) := upd_same
          generalize upd H1 e2 (.tup [V.int (p : Int), natV s.taken]) = H2 at *
          have X2 := X1.same s2
          have hd2 := s2 _ _ hd1
          have h32 := s2 _ _ h31
          have t32 := t31.same s2
          have lo : os.length ≤ 200000 := by
            rw [t3.len, List.length_map]
            exact hz.opens
          refine ⟨A.aO, os, _, rfl, rfl, h32, Nat.lt_of_le_of_lt lo (by decide), ?_⟩
          obtain ⟨k3, X3⟩ := X2.setO (ol := s.opens ++ [(p, s.taken)]) (os' := os ++ [.ref e2]) (by rw [List.map_append]; exact t32.append (.one ⟨e2, _, rfl, he2, .cons rfl (.one rfl)⟩))
          have hd3 := (by rw [upd_ne X.ne.2.2.1]; exact hd2 : (upd H2 A.aO (.lst (os ++ [.ref e2]))) A.d = some (.dK (lkv A s aT)))
          generalize upd H2 A.aO (.lst (os ++ [.ref e2])) = H3 at *
          refine ⟨_, rfl, A.d, _, rfl, dgetS hd3 lg_deeds, ?_⟩
          refine ⟨small100 (n := 1) (by decide), fun g ng => ⟨small100 (n := 1) (by decide), fun l nl => ?_⟩⟩
          have s4 := same_upd (o := .tup [V.str "hold"]) ng
          have hg : (upd H3 g (.tup [V.str "hold"])) g = some (.tup [V.str "hold"]) := upd_same
          generalize upd H3 g (.tup [V.str "hold"]) = H4 at *
          have s5 := same_upd (o := .lst [V.ref g]) nl
          have hl : (upd H4 l (.lst [V.ref g])) l = some (.lst [V.ref g]) := upd_same
          have hg := s5 _ _ hg
          generalize upd H4 l (.lst [V.ref g]) = H5 at *
          have k5 : KpM A.M H H5 := ((KpM.of (s1.trans s2)).trans k3).trans (KpM.of (s4.trans s5))
          have ht5 := X.stay k5 _ _ (.inr ⟨_, rfl⟩) ht
          refine ⟨_, rfl, t, _, 2, _, rfl, rfl, SqT.of ht5, atI_nat (j := 2) rfl, sv, rfl, _, rfl, l, _, rfl, SqL.of hl, fun u nu => ?_⟩
          rw [show cutV [V.ref g] none (some (if sv = true then 1 else 0)) = (holdIf sv).map (fun _ => V.ref g) by cases sv <;> rfl]
          have s6 := same_upd (o := .lst ((holdIf sv).map (fun _ => V.ref g))) nu
          have hu : (upd H5 u (.lst ((holdIf sv).map (fun _ => V.ref g)))) u = some (.lst ((holdIf sv).map (fun _ => V.ref g))) := upd_same
          have hg := s6 _ _ hg
          generalize upd H5 u _ = H6 at *
          have s46 := (s4.trans s5).trans s6
          have X6 := X3.same s46
          have hd6 := s46 _ _ hd3
          obtain ⟨ds, h2, t2⟩ := X6.dds
          have ld : ds.length ≤ 200000 := by
            rw [t2.len, List.length_map]
            have := hz.todo
            show s.deeds.length ≤ _
            omega
          obtain ⟨k7, X7⟩ := X6.setE (dl := s.deeds ++ holdIf sv) (ds' := ds ++ (holdIf sv).map (fun _ => V.ref g)) (by
            rw [List.map_append]
            refine t2.append ?_
            cases sv with
            | true => exact .one ⟨g, _, rfl, hg, .one rfl⟩
            | false => exact rfl)
          have hd7 : (upd H6 A.aD (.lst (ds ++ (holdIf sv).map (fun _ => V.ref g)))) A.d = some (.dK (lkv A s aT)) := by rw [upd_ne X.ne.2.1]; exact hd6
          refine ⟨A.aD, u, ds, _, rfl, rfl, h2, hu, ?_, _, dputS hd7 lk_len lp_deeds, ?_⟩
          · have : ((holdIf sv).map (fun _ => V.ref g)).length ≤ 1 := by cases sv <;> simp [holdIf]
            exact Nat.le_of_lt (Nat.lt_of_le_of_lt (show ds.length + ((holdIf sv).map (fun _ => V.ref g)).length ≤ 200001 by omega) (by decide))
          obtain ⟨k8, X8⟩ := X7.setD hd7 (ex := s.extra) (tk := s.taken) (wy := s.way) X.tk
          have hd8 : (upd (upd H6 A.aD (.lst (ds ++ (holdIf sv).map (fun _ => V.ref g)))) A.d (.dK (lkv A s aT))) A.d = some (.dK (lkv A s aT)) := upd_same
          have k8 : KpM A.M _ (upd (upd H6 A.aD (.lst (ds ++ (holdIf sv).map (fun _ => V.ref g)))) A.d (.dK (lkv A s aT))) := k8
          have X8 : LV A { s with opens := s.opens ++ [(p, s.taken)], deeds := s.deeds ++ holdIf sv } (upd (upd H6 A.aD (.lst (ds ++ (holdIf sv).map (fun _ => V.ref g)))) A.d (.dK (lkv A s aT))) := X8
          have kk : KpM A.M H (upd (upd H6 A.aD (.lst (ds ++ (holdIf sv).map (fun _ => V.ref g)))) A.d (.dK (lkv A s aT))) := ((k5.trans (KpM.of s6)).trans k7).trans k8
          generalize upd (upd H6 A.aD (.lst (ds ++ (holdIf sv).map (fun _ => V.ref g)))) A.d (.dK (lkv A s aT)) = H8 at *
          have ht8 := X.stay kk _ _ (.inr ⟨_, rfl⟩) ht
          have tv8 := X.tr kk (stm_noD (.call p sv a b)) tv
          obtain ⟨ys, hy, ty⟩ := X8.bod
          have hp := hcall p sv a b rfl
          obtain ⟨bv, hbv, tbv⟩ := ty.get' (i := p) (d := bD (A.bs[p])) (by rw [List.getElem?_map, List.getElem?_eq_getElem hp]; rfl)
          obtain ⟨lb, yb, rfl, slb, hlb, tyb⟩ := tbv
          refine ⟨_, rfl, A.d, _, rfl, dgetS hd8 lg_bodies, _, rfl, t, _, 1, _, rfl, rfl, SqT.of ht8, atI_nat (j := 1) rfl, A.aY, ys, _, _, rfl, rfl, SqL.of hy, at_of (j := p) rfl hbv, _, rfl, small100 (n := 3) (by decide), fun o no => ⟨small100 (n := 1) (by decide), fun l2 nl2 => ?_⟩⟩
          have s9 := same_upd (o := .tup [V.str "out", .ref t, .int 0]) no
          have ho : (upd H8 o (.tup [V.str "out", .ref t, .int 0])) o = some (.tup [V.str "out", .ref t, .int 0]) := upd_same
          generalize upd H8 o (.tup [V.str "out", .ref t, .int 0]) = H9 at *
          have s10 := same_upd (o := .lst [V.ref o]) nl2
          have hl2 : (upd H9 l2 (.lst [V.ref o])) l2 = some (.lst [V.ref o]) := upd_same
          generalize upd H9 l2 (.lst [V.ref o]) = H10 at *
          refine ⟨lb, l2, yb, _, rfl, rfl, (s9.trans s10) _ _ hlb, hl2, ?_, fun r nr => ?_⟩
          · rw [tyb.len, blkD_len]
            have := hbs _ (List.getElem_mem hp)
            exact Nat.le_of_lt (small1000 (n := (A.bs[p]).length + [V.ref o].length) (by rw [List.length_singleton]; omega))
          · have s11 := same_upd (o := .lst (yb ++ [V.ref o])) nr
            have s911 := (s9.trans s10).trans s11
            refine q _ _ (by show (if (p, s.taken) ∈ s.opens then none else _) = some _; rw [if_neg hm]) r _ _ (kk.trans (KpM.of s911)) (X8.same s911) upd_same ?_
            rw [List.map_append, List.map_map]
            refine TrAll.append ?_ (.one ⟨o, _, rfl, (s10.trans s11) _ _ ho, .cons rfl (.cons (tv8.same s911) (.one rfl))⟩)
            have t9 := tyb.same s911
            rw [blkD_map] at t9
            have eb : A.bs.getD p [] = A.bs[p] := by rw [List.getD_eq_getElem?_getD, List.getElem?_eq_getElem hp]; rfl
            rw [eb]
            exact t9

--SPLIT
/-! ### what holds while the law's machine runs -/
def LTh.okM (many : Nat) : LTh → Prop
  | .st z => ∃ l, z.ok many l ∧ l ≤ 3 ∧ z.cnt ≤ 100
  | .shut => True
  | .out p sv a b _ => ∃ l, (Stm.call p sv a b).ok many l ∧ l ≤ 3 ∧ (Stm.call p sv a b).cnt ≤ 100
theorem LTh.okM.ok {many : Nat} (hm : many ≤ 900) : ∀ {x : LTh}, x.okM many → x.ok
  | .st z, ⟨l, h⟩ => ⟨many, l, hm, h⟩
  | .shut, _ => trivial
  | .out _ _ _ _ _, ⟨l, h⟩ => ⟨many, l, hm, h⟩
def LastO (x : LTh) : Prop := ∃ p w, x = .out p false [] [] w
def LastOk (td : List LTh) : Prop := td = [] ∨ (∃ p, td = [.st (.call p false [] [])]) ∨ ∃ x, td.getLast? = some x ∧ LastO x
def outN (td : List LTh) : Nat := (td.filter LTh.isOut).length
structure InvL (bs : List (List Stm)) (n : Nat) (s : LSt) : Prop where
  ok : ∀ x ∈ s.todo, x.okM bs.length
  bits : s.bits.length ≤ 100 + n
  todo : s.todo.length + s.deeds.length ≤ 1 + 10 * n
  opens : s.opens.length ≤ n
  cnt : outN s.todo = s.opens.length
  last : LastOk s.todo
theorem cnt_mem : ∀ {b : List Stm} {z : Stm}, z ∈ b → z.cnt ≤ cntB b
  | x :: r, z, h => by
    rw [cntB]
    rcases List.mem_cons.mp h with rfl | h
    · omega
    · have := cnt_mem h
      omega
theorem blk_okM {many l : Nat} {b : List Stm} (h : okB many b l) (hl : l ≤ 3) (hc : cntB b ≤ 100) : ∀ x ∈ b.map LTh.st, x.okM many := fun x hx => by
  obtain ⟨z, hz, rfl⟩ := List.mem_map.mp hx
  obtain ⟨i, hi⟩ := List.getElem?_of_mem hz
  exact ⟨l, okB_get h hi, hl, Nat.le_trans (cnt_mem hz) hc⟩
theorem outN_app (a b : List LTh) : outN (a ++ b) = outN a + outN b := by
  unfold outN
  rw [List.filter_append, List.length_append]
theorem outN_st (b : List Stm) : outN (b.map LTh.st) = 0 := by
  unfold outN
  rw [List.length_eq_zero_iff, List.filter_eq_nil_iff]
  intro x hx
  obtain ⟨z, _, rfl⟩ := List.mem_map.mp hx
  exact Bool.false_ne_true
theorem outN_none {l : List LTh} (h : ∀ x ∈ l, x.isOut = false) : outN l = 0 := by
  unfold outN
  rw [List.length_eq_zero_iff, List.filter_eq_nil_iff]
  intro x hx
  rw [h x hx]
  exact Bool.false_ne_true
theorem cutO_some : ∀ {r : List LTh} {ds : List Dd}, (∃ x ∈ r, x.isOut = true) → ∃ q, cutO r ds = some q
  | [], ds, ⟨x, hx, _⟩ => by cases hx
  | .out p sv a b w :: r, ds, _ => ⟨_, rfl⟩
  | .shut :: r, ds, ⟨x, hx, h⟩ => by
    rcases List.mem_cons.mp hx with rfl | hx
    · cases h
    · exact cutO_some (r := r) (ds := ds ++ [.back]) ⟨x, hx, h⟩
  | .st z :: r, ds, ⟨x, hx, h⟩ => by
    rcases List.mem_cons.mp hx with rfl | hx
    · cases h
    · exact cutO_some (r := r) (ds := ds) ⟨x, hx, h⟩
theorem last_app {blk r : List LTh} (h : LastOk (x :: r)) (hr : r ≠ []) : LastOk (blk ++ r) := by
  rcases h with h | ⟨p, h⟩ | ⟨y, h, ho⟩
  · cases h
  · cases h
    exact absurd rfl hr
  · right; right
    refine ⟨y, ?_, ho⟩
    cases r with
    | nil => exact absurd rfl hr
    | cons z r =>
      rw [List.getLast?_cons_cons] at h
      rw [List.getLast?_append, h]
      rfl
theorem last_nil {x : LTh} (h : LastOk [x]) : (∃ p, x = .st (.call p false [] [])) ∨ LastO x := by
  rcases h with h | ⟨p, h⟩ | ⟨y, h, ho⟩
  · cases h
  · cases h
    exact .inl ⟨p, rfl⟩
  · have : x = y := by simpa using h
    subst this
    exact .inr ho
theorem fin_cut {r : List LTh} {w : Bool} (ds : List Dd) (h : LastOk (.st (.fin w) :: r)) : ∃ q, cutO r ds = some q := by
  cases r with
  | nil =>
    rcases last_nil h with ⟨p, e⟩ | ⟨p, w, e⟩ <;> cases e
  | cons y r =>
    rcases h with h | ⟨p, h⟩ | ⟨x, h, p, w, ho⟩
    · cases h
    · cases h
    · rw [List.getLast?_cons_cons] at h
      exact cutO_some ⟨x, List.mem_of_getLast? h, by rw [ho]; rfl⟩
theorem bitL_sz {z : Stm} {s s' : LSt} {w : Bool} (h : bitL z s = some (w, s')) : s'.bits.length ≤ s.bits.length + 1 ∧ s'.todo = s.todo ∧ s'.deeds = s.deeds ∧ s'.opens = s.opens ∧ s'.way = s.way := by
  unfold bitL at h
  split at h
  · split at h
    · cases h
    · have h := Option.some.inj h
      cases h
      exact ⟨by simp, rfl, rfl, rfl, rfl⟩
  · have h := Option.some.inj h
    cases h
    exact ⟨by simp, rfl, rfl, rfl, rfl⟩
theorem inv_step {bs : List (List Stm)} (hbs : ∀ b ∈ bs, b.length ≤ 8 ∧ cntB b ≤ 12 ∧ okB bs.length b 0) {n : Nat} {s s' : LSt} {x : LTh} {r blk : List LTh} (I : InvL bs n s) (e : s.todo = x :: r) (h : taskL bs x { s with todo := r } = some (blk, s')) : InvL bs (n + 1) { s' with todo := blk ++ s'.todo } := by
  have hx := I.ok x (by rw [e]; exact List.mem_cons_self)
  have hr : ∀ y ∈ r, y.okM bs.length := fun y hy => I.ok y (by rw [e]; exact List.mem_cons_of_mem _ hy)
  have i1 := I.bits
  have i2 := I.todo
  have i3 := I.opens
  have i4 := I.cnt
  have i5 := I.last
  rw [e] at i2 i4 i5
  rw [List.length_cons] at i2
  -- a thing that is no fin, no call, no out
  have plain : ∀ {blk : List LTh} {s' : LSt}, s'.todo = r → blk.length ≤ 9 → s'.deeds.length ≤ s.deeds.length + 1 → s'.bits.length ≤ s.bits.length + 1 → s'.opens = s.opens → outN blk = 0 → outN (x :: r) = outN r → r ≠ [] → (∀ y ∈ blk, y.okM bs.length) → InvL bs (n + 1) { s' with todo := blk ++ s'.todo } := fun {blk s'} a1 a2 a3 a4 a5 a6 a7 a8 a9 => by
    refine ⟨fun y hy => ?_, by show s'.bits.length ≤ _; omega, ?_, by show s'.opens.length ≤ _; rw [a5]; omega, ?_, ?_⟩
    · have hy : y ∈ blk ++ s'.todo := hy
      rw [a1] at hy
      exact (List.mem_append.mp hy).elim (a9 y) (hr y)
    · show (blk ++ s'.todo).length + s'.deeds.length ≤ _
      rw [List.length_append, a1]
      omega
    · show outN (blk ++ s'.todo) = s'.opens.length
      rw [outN_app, a6, a1, a5, ← a7, i4]
      omega
    · show LastOk (blk ++ s'.todo)
      rw [a1]
      exact last_app i5 a8
  have notlast : ∀ (z : Stm), x = .st z → (∀ p, z ≠ .call p false [] []) → r ≠ [] := fun z ez nz hr0 => by
    subst ez
    rw [hr0] at i5
    rcases last_nil i5 with ⟨p, e⟩ | ⟨p, w, e⟩
    · exact nz p (by injection e)
    · cases e
  cases x with
  | shut =>
    have h := Option.some.inj h
    cases h
    refine plain rfl (by decide) (by simp) (by simp) rfl rfl rfl (fun h0 => ?_) (fun y hy => by cases hy)
    rw [h0] at i5
    rcases last_nil i5 with ⟨p, e⟩ | ⟨p, w, e⟩ <;> cases e
  | out p sv a b w =>
    have h := Option.some.inj h
    cases h
    obtain ⟨l, hz, hl, hc⟩ := hx
    have c1 : 1 + (cntB a + cntB b) ≤ 100 := hc
    have oka := blk_okM hz.2.2.1.2 (by have := hz.1; omega) (by omega)
    have okb := blk_okM hz.2.2.2.2 (by have := hz.1; omega) (by omega)
    have la := hz.2.2.1.1
    have lb := hz.2.2.2.1
    have i4 : outN r + 1 = s.opens.length := by
      rw [← i4]
      rfl
    refine ⟨fun y hy => ?_, by show s.bits.length ≤ _; omega, ?_, ?_, ?_, ?_⟩
    · have hy : y ∈ (if w then b else a).map LTh.st ++ r := hy
      rcases List.mem_append.mp hy with hy | hy
      · cases w
        · exact oka y hy
        · exact okb y hy
      · exact hr y hy
    · show ((if w then b else a).map LTh.st ++ r).length + (s.deeds ++ backIf sv).length ≤ _
      have : ((if w then b else a)).length ≤ 8 := by cases w <;> assumption
      have h2 : (backIf sv).length ≤ 1 := by cases sv <;> simp [backIf]
      rw [List.length_append, List.length_append, List.length_map]
      omega
    · show s.opens.dropLast.length ≤ _
      rw [List.length_dropLast]
      omega
    · show outN ((if w then b else a).map LTh.st ++ r) = s.opens.dropLast.length
      rw [outN_app, outN_st, List.length_dropLast]
      omega
    · show LastOk ((if w then b else a).map LTh.st ++ r)
      by_cases h0 : r = []
      · rw [h0] at i5 ⊢
        rcases last_nil i5 with ⟨p', e⟩ | ⟨p', w', e⟩
        · cases e
        · cases e
          left
          cases w <;> rfl
      · exact last_app i5 h0
  | st z =>
    obtain ⟨l, hz, hl, hc⟩ := hx
    cases z with
    | cmd c =>
      have h := Option.some.inj h
      cases h
      exact plain rfl (by decide) (by simp) (by simp) rfl rfl rfl (notlast _ rfl (fun p e => by cases e)) (fun y hy => by cases hy)
    | keep b =>
      have h := Option.some.inj h
      cases h
      have c1 : 1 + cntB b ≤ 100 := hc
      refine plain rfl ?_ (by simp) (by simp) rfl ?_ rfl (notlast _ rfl (fun p e => by cases e)) (fun y hy => ?_)
      · rw [List.length_append, List.length_map]
        have := hz.2.1
        show b.length + 1 ≤ 9
        omega
      · rw [outN_app, outN_st]
        rfl
      · rcases List.mem_append.mp hy with hy | hy
        · exact blk_okM hz.2.2 (by have := hz.1; omega) (by omega) y hy
        · rw [List.mem_singleton.mp hy]
          trivial
    | again b =>
      have c1 : 1 + cntB b ≤ 100 := hc
      have h : (bitL (.again b) { s with todo := r }).map _ = some (blk, s') := h
      rw [Option.map_eq_some_iff] at h
      obtain ⟨⟨w, s2⟩, hb, eq⟩ := h
      obtain ⟨j1, j2, j3, j4, j5⟩ := bitL_sz hb
      have e1 := congrArg Prod.fst eq
      have e2 := congrArg Prod.snd eq
      dsimp only at e1 e2
      subst e2
      subst e1
      refine plain j2 ?_ (by rw [j3]; show s.deeds.length ≤ _; omega) j1 j4 ?_ rfl (notlast _ rfl (fun p e => by cases e)) (fun y hy => ?_)
      · cases w
        · exact Nat.zero_le _
        · show (b.map LTh.st ++ [LTh.st (.again b)]).length ≤ 9
          rw [List.length_append, List.length_map]
          have := hz.2.1
          show b.length + 1 ≤ 9
          omega
      · cases w
        · rfl
        · show outN (b.map LTh.st ++ [LTh.st (.again b)]) = 0
          rw [outN_app, outN_st]
          rfl
      · cases w
        · cases hy
        · have hy : y ∈ b.map LTh.st ++ [LTh.st (.again b)] := hy
          rcases List.mem_append.mp hy with hy | hy
          · exact blk_okM hz.2.2 (by have := hz.1; omega) (by omega) y hy
          · rw [List.mem_singleton.mp hy]
            exact ⟨l, hz, hl, hc⟩
    | either a b =>
      have c1 : 1 + (cntB a + cntB b) ≤ 100 := hc
      have h : (bitL (.either a b) { s with todo := r }).map _ = some (blk, s') := h
      rw [Option.map_eq_some_iff] at h
      obtain ⟨⟨w, s2⟩, hb, eq⟩ := h
      obtain ⟨j1, j2, j3, j4, j5⟩ := bitL_sz hb
      have e1 := congrArg Prod.fst eq
      have e2 := congrArg Prod.snd eq
      dsimp only at e1 e2
      subst e2
      subst e1
      refine plain j2 ?_ (by rw [j3]; show s.deeds.length ≤ _; omega) j1 j4 (outN_st _) rfl (notlast _ rfl (fun p e => by cases e)) (fun y hy => ?_)
      · rw [List.length_map]
        have h1 := hz.2.1.1
        have h2 := hz.2.2.1
        cases w
        · show a.length ≤ 9; omega
        · show b.length ≤ 9; omega
      · cases w
        · exact blk_okM hz.2.1.2 (by have := hz.1; omega) (by omega) y hy
        · exact blk_okM hz.2.2.2 (by have := hz.1; omega) (by omega) y hy
    | fin w =>
      have h : (cutO r s.deeds).map _ = some (blk, s') := h
      rw [Option.map_eq_some_iff] at h
      obtain ⟨⟨⟨p, sv, a, b⟩, r', ds'⟩, hcut, eq⟩ := h
      obtain ⟨pre, w1, er, npre, eds⟩ := cutO_is hcut
      have e1 := congrArg Prod.fst eq
      have e2 := congrArg Prod.snd eq
      dsimp only at e1 e2
      subst e2
      subst e1
      have lr : r.length = pre.length + (r'.length + 1) := by rw [er, List.length_append, List.length_cons]
      have lds : ds'.length ≤ s.deeds.length + pre.length := by
        rw [eds, List.length_append, List.length_map]
        have : (pre.filter LTh.isShut).length ≤ pre.length := List.length_filter_le _ _
        omega
      have ho : LTh.okM bs.length (.out p sv a b w1) := hr _ (by rw [er]; simp)
      refine ⟨fun y hy => ?_, by show s.bits.length ≤ _; omega, ?_, by show s.opens.length ≤ _; omega, ?_, ?_⟩
      · have hy : y ∈ [LTh.out p sv a b w] ++ r' := hy
        rcases List.mem_append.mp hy with hy | hy
        · rw [List.mem_singleton.mp hy]
          exact ho
        · exact hr y (by rw [er]; simp [hy])
      · show ([LTh.out p sv a b w] ++ r').length + ds'.length ≤ _
        rw [List.length_append, List.length_singleton]
        omega
      · show outN ([LTh.out p sv a b w] ++ r') = s.opens.length
        rw [← i4]
        have : outN (LTh.st (.fin w) :: r) = outN r := rfl
        have e1 : outN (pre ++ LTh.out p sv a b w1 :: r') = 1 + outN r' := by
          rw [outN_app, outN_none npre, Nat.zero_add, show LTh.out p sv a b w1 :: r' = [LTh.out p sv a b w1] ++ r' from rfl, outN_app]
          rfl
        rw [this, er, e1, outN_app]
        rfl
      · show LastOk ([LTh.out p sv a b w] ++ r')
        have nr : r ≠ [] := fun h0 => by rw [h0] at lr; simp at lr
        right; right
        rcases i5 with h0 | ⟨p0, h0⟩ | ⟨y, hy, ho⟩
        · cases h0
        · cases h0
        · have hy2 : r.getLast? = some y := by
            cases r with
            | nil => exact absurd rfl nr
            | cons q r2 => rw [List.getLast?_cons_cons] at hy; exact hy
          rw [er, List.getLast?_append] at hy2
          cases r' with
          | nil =>
            have hy3 : LTh.out p sv a b w1 = y := by simpa using hy2
            obtain ⟨p2, w2, ey⟩ := ho
            rw [ey] at hy3
            cases hy3
            exact ⟨_, rfl, _, _, rfl⟩
          | cons q r2 =>
            refine ⟨y, ?_, ho⟩
            rw [List.getLast?_cons_cons] at hy2
            show (LTh.out p sv a b w :: q :: r2).getLast? = some y
            rw [List.getLast?_cons_cons]
            cases eq2 : (q :: r2).getLast? with
            | none => simp at eq2
            | some y2 =>
              rw [eq2] at hy2
              exact hy2
    | call p sv a b =>
      have h : (if (p, s.taken) ∈ s.opens then none else some _) = some (blk, s') := h
      split at h
      · cases h
      · have h := Option.some.inj h
        have e1 := congrArg Prod.fst h
        have e2 := congrArg Prod.snd h
        dsimp only at e1 e2
        subst e2
        subst e1
        have hp : p < bs.length := hz.2.1
        have eb : bs.getD p [] = bs[p] := by rw [List.getD_eq_getElem?_getD, List.getElem?_eq_getElem hp]; rfl
        obtain ⟨b1, b2, b3⟩ := hbs _ (List.getElem_mem hp)
        refine ⟨fun y hy => ?_, by show s.bits.length ≤ _; omega, ?_, ?_, ?_, ?_⟩
        · have hy : y ∈ ((bs.getD p []).map LTh.st ++ [LTh.out p sv a b false]) ++ r := hy
          rcases List.mem_append.mp hy with hy | hy
          · rcases List.mem_append.mp hy with hy | hy
            · rw [eb] at hy
              exact blk_okM b3 (by omega) (by omega) y hy
            · rw [List.mem_singleton.mp hy]
              exact ⟨l, hz, hl, hc⟩
          · exact hr y hy
        · show (((bs.getD p []).map LTh.st ++ [LTh.out p sv a b false]) ++ r).length + (s.deeds ++ holdIf sv).length ≤ _
          have h2 : (holdIf sv).length ≤ 1 := by cases sv <;> simp [holdIf]
          rw [List.length_append, List.length_append, List.length_append, List.length_map, List.length_singleton, eb]
          omega
        · show (s.opens ++ [(p, s.taken)]).length ≤ _
          rw [List.length_append, List.length_singleton]
          omega
        · show outN (((bs.getD p []).map LTh.st ++ [LTh.out p sv a b false]) ++ r) = (s.opens ++ [(p, s.taken)]).length
          rw [outN_app, outN_app, outN_st, List.length_append, ← i4]
          show 0 + 1 + outN r = outN r + 1
          omega
        · show LastOk (((bs.getD p []).map LTh.st ++ [LTh.out p sv a b false]) ++ r)
          by_cases h0 : r = []
          · rw [h0] at i5 ⊢
            rcases last_nil i5 with ⟨p', e⟩ | ⟨p', w', e⟩
            · cases e
              right; right
              rw [List.append_nil]
              exact ⟨_, List.getLast?_concat, _, _, rfl⟩
            · cases e
          · exact last_app i5 h0
def initL (p : Nat) (bits : List Bool) (ex : Nat) : LSt := ⟨bits, ex, 0, 0, [], [], [.st (.call p false [] [])]⟩
theorem inv_init {bs : List (List Stm)} {p ex : Nat} {bits : List Bool} (hp : p < bs.length) (hb : bits.length ≤ 100) : InvL bs 0 (initL p bits ex) := by
  refine ⟨fun x hx => ?_, by show bits.length ≤ _; omega, Nat.le_refl 1, Nat.le_refl 0, rfl, .inr (.inl ⟨p, rfl⟩)⟩
  rw [List.mem_singleton.mp hx]
  exact ⟨0, ⟨by decide, hp, ⟨by decide, trivial⟩, by decide, trivial⟩, by decide, by show 1 + (0 + 0) ≤ 100; decide⟩

--SPLIT
/-- how the law tells it -/
def tellL : LRes → Str × Int × List Dd × List Bool
  | .never s => ("never", -2, s.deeds, s.bits)
  | .short s => ("short", s.bits.length, s.deeds, s.bits)
  | .fin s => if s.todo ≠ [] then ("long", 0, [], []) else if s.taken < s.bits.length then ("rest", s.taken, s.deeds, s.bits) else ("run", s.way, s.deeds, s.bits)
/-- what the law's machine hands back -/
structure ToldL (S : Addr → Prop) (H0 H : Hp) (q : Addr) (r : Str × Int × List Dd × List Bool) : Prop where
  ex : ∃ aD aB ds, H q = some (.tup [.str r.1, .int r.2.1, .ref aD, .ref aB]) ∧ H aD = some (.lst ds) ∧ TrAll (fun _ => False) H (r.2.2.1.map Dd.ld) ds ∧ H aB = some (.lst (r.2.2.2.map bitV)) ∧ H0 aD = none ∧ H0 aB = none
theorem ld_flat {S : Addr → Prop} {H : Hp} : ∀ {x : Dd} {v : V}, Tr S H x.ld v → Tr (fun _ => False) H x.ld v
  | .cmd c, v, t => by
    obtain ⟨b, rfl, hb⟩ := (by obtain ⟨b, xs, e, hb, x, us, e2, hx, hu⟩ := t; have hx : x = .str c.word := hx; subst hx; have hu := TrAll.ints hu; subst hu; exact ⟨b, e, by rw [hb, e2]⟩ : ∃ b, v = .ref b ∧ H b = some (.tup (V.str c.word :: c.nums.map V.int)))
    exact ⟨b, _, rfl, hb, .cons rfl (TrAll.ofInts _)⟩
  | .hold, v, ⟨a, xs, e, h, x0, us, e2, h0, h3⟩ => ⟨a, xs, e, h, x0, us, e2, h0, h3⟩
  | .back, v, ⟨a, xs, e, h, x0, us, e2, h0, h3⟩ => ⟨a, xs, e, h, x0, us, e2, h0, h3⟩
theorem lds_flat {S : Addr → Prop} {H : Hp} : ∀ {l : List Dd} {vs : List V}, TrAll S H (l.map Dd.ld) vs → TrAll (fun _ => False) H (l.map Dd.ld) vs
  | [], _, h => h
  | x :: r, _, ⟨v, us, e, t, q⟩ => ⟨v, us, e, ld_flat t, lds_flat q⟩
theorem lth_call (x : LTh) : (x.word = "call") ↔ x.isCall = true := by
  cases x with
  | st z =>
    cases z with
    | cmd c => exact ⟨fun h => absurd h (by cases c <;> (simp only [LTh.word, Stm.word, Cm.word]; decide)), fun h => by cases h⟩
    | call => exact ⟨fun _ => rfl, fun _ => rfl⟩
    | _ => exact ⟨fun h => absurd h (by simp only [LTh.word, Stm.word]; decide), fun h => by cases h⟩
  | shut => exact ⟨fun h => absurd h (by simp only [LTh.word]; decide), fun h => by cases h⟩
  | out => exact ⟨fun h => absurd h (by simp only [LTh.word]; decide), fun h => by cases h⟩
theorem LV.fresh {A : LA} {s : LSt} {J : Hp} (X : LV A s J) {u : Addr} (nu : J u = none) : ¬ A.M u := fun m => by
  obtain ⟨aT9, ts9, hd9, _⟩ := X.dict
  obtain ⟨ds9, h29, _⟩ := X.dds
  obtain ⟨os9, h39, _⟩ := X.ops
  rcases m with rfl | rfl | rfl | rfl
  · rw [nu] at hd9; cases hd9
  · have := X.bts; rw [nu] at this; cases this
  · rw [nu] at h29; cases h29
  · rw [nu] at h39; cases h39
def sp__law_run : Sp := fun vs H Q _ => ∃ (S : Addr → Prop) (aY aI : Addr) (bs : List (List Stm)) (bits : List Bool) (p ex : Nat), vs = [.ref aY, .int p, .ref aI, .int ex] ∧ (∃ ys, H aY = some (.lst ys) ∧ TrAll S H (bs.map bD) ys) ∧ bs.length ≤ 3 ∧ (∀ b ∈ bs, b.length ≤ 8 ∧ cntB b ≤ 12 ∧ okB bs.length b 0) ∧ p < bs.length ∧ H aI = some (.lst (bits.map bitV)) ∧ bits.length ≤ 100 ∧
  ∀ (q : Addr) (H' : Hp), Same H H' → H q = none → ToldL S H H' q (tellL (runL bs 3000 (initL p bits ex))) → Q (.ref q) H'
set_option maxHeartbeats 1000000 in
theorem ok__law_run (T : Top w K mg) : FnG P w K mg base CX0 3 T.a__law_run T.d__law_run ["_law_bodies", "_law_procedure", "_law_bits_here", "_law_extra"] sp__law_run := by
  refine fun_okG T.F__law_run sc__law_run (fun vs H Q E h => ?_) (fun cdv A1 outer sh H vs Q E hgd hr h => ?_)
  · obtain ⟨S, aY, aI, bs, bits, p, ex, rfl, _⟩ := h
    rfl
  · obtain ⟨S, aY, aI, bs, bits, p, ex, rfl, ⟨ys, hY, tY⟩, hb3, hbs, hp, hI, hbl, q⟩ := h
    refine ⟨_, (pss_cons (ps_set (i := 4) sc__law_run.nd rfl (Or.inl rfl) (pe_disp (pps_cons pe_str (pv 0) (pps_cons pe_str (pe_callTy (k_list K) (by rfl) T.z_list bt_list (pa_cons (pv 2) pa_nil)) (pps_cons pe_str (pv 3) (pps_cons pe_str pe_int (pps_cons pe_str pe_int (pps_cons pe_str (pe_lst pa_nil) (pps_cons pe_str (pe_lst pa_nil) pps_nil))))))) rfl rfl (by simp) (by decide)))
      (pss_cons (ps_dput (hu_of hr) (pv 4) pe_str (pe_lst (pa_cons (pe_tup (pa_cons pe_str (pa_cons (pv 1) (pa_cons pe_bl (pa_cons (pe_lst (pa_cons (pe_lst pa_nil) (pa_cons (pe_lst pa_nil) pa_nil))) pa_nil))))) pa_nil)) rfl)
      (pss_cons (ps_for PassesOwn.never rfl (pi_range1 (by rfl) T.z_range (pa_cons pe_int pa_nil)) (pg_name (i := 5) sc__law_run.nd rfl (Or.inl rfl)) (pss_one (ps_if (pt_cmpR op_gt (pe_callB (k_len K) (by rfl) T.z_len bt_len (pa_cons (pe_dget (hu_of hr) (pv 4) pe_str (fun _ _ => rfl)) pa_nil)) pe_int (nomark _)) (pss_cons (ps_set (i := 6) sc__law_run.nd rfl (Or.inl rfl) (pe_ix (k_ixL K) (pe_dget (hu_of hr) (pv 4) pe_str (fun _ _ => rfl)) pe_int (fun _ _ => rfl)))
          (pss_cons (ps_dput (hu_of hr) (pv 4) pe_str (pe_slice (k_slL K) (pe_dget (hu_of hr) (pv 4) pe_str (fun _ _ => rfl)) (po_some pe_int) po_none) rfl)
          (pss_cons (ps_set (i := 7) sc__law_run.nd rfl (Or.inl rfl) (pe_callG hgd (ok__law_task T) hr (by rfl) T.g__law_task T.F__law_task.kp (b__law_task T) (pa_cons (pv 4) (pa_cons (pv 6) pa_nil))))
          (pss_cons (ps_if (PW.pt (pw_and (pt_cmpR op_isN (pv 7) pe_non (nomark _)) (pw_and1 (pt_cmpR op_eq (pe_ix (k_ixT K) (pv 6) pe_int (fun _ _ => rfl)) pe_str (nomark _))))) (pss_one (ps_ret (pe_tup (pa_cons pe_str (pa_cons (pe_un un_neg pe_int) (pa_cons (pe_dget (hu_of hr) (pv 4) pe_str (fun _ _ => rfl)) (pa_cons (pe_dget (hu_of hr) (pv 4) pe_str (fun _ _ => rfl)) pa_nil))))))) pss_nil)
          (pss_cons (ps_if (pt_cmpR op_isN (pv 7) pe_non (nomark _)) (pss_one (ps_ret (pe_tup (pa_cons pe_str (pa_cons (pe_callB (k_len K) (by rfl) T.z_len bt_len (pa_cons (pe_dget (hu_of hr) (pv 4) pe_str (fun _ _ => rfl)) pa_nil)) (pa_cons (pe_dget (hu_of hr) (pv 4) pe_str (fun _ _ => rfl)) (pa_cons (pe_dget (hu_of hr) (pv 4) pe_str (fun _ _ => rfl)) pa_nil))))))) pss_nil)
          (pss_one (ps_dput (hu_of hr) (pv 4) pe_str (pe_op op_cat (pv 7) (pe_dget (hu_of hr) (pv 4) pe_str (fun _ _ => rfl))) rfl))))))) pss_nil)))
      (pss_cons (ps_if (pt_cmpR op_gt (pe_callB (k_len K) (by rfl) T.z_len bt_len (pa_cons (pe_dget (hu_of hr) (pv 4) pe_str (fun _ _ => rfl)) pa_nil)) pe_int (nomark _)) (pss_one (ps_ret (pe_tup (pa_cons pe_str (pa_cons pe_int (pa_cons (pe_lst pa_nil) (pa_cons (pe_lst pa_nil) pa_nil))))))) pss_nil)
      (pss_cons (ps_if (pt_cmpR op_lt (pe_dget (hu_of hr) (pv 4) pe_str (fun _ _ => rfl)) (pe_callB (k_len K) (by rfl) T.z_len bt_len (pa_cons (pe_dget (hu_of hr) (pv 4) pe_str (fun _ _ => rfl)) pa_nil)) (nomark _)) (pss_one (ps_ret (pe_tup (pa_cons pe_str (pa_cons (pe_dget (hu_of hr) (pv 4) pe_str (fun _ _ => rfl)) (pa_cons (pe_dget (hu_of hr) (pv 4) pe_str (fun _ _ => rfl)) (pa_cons (pe_dget (hu_of hr) (pv 4) pe_str (fun _ _ => rfl)) pa_nil))))))) pss_nil)
      (pss_one (ps_ret (pe_tup (pa_cons pe_str (pa_cons (pe_dget (hu_of hr) (pv 4) pe_str (fun _ _ => rfl)) (pa_cons (pe_dget (hu_of hr) (pv 4) pe_str (fun _ _ => rfl)) (pa_cons (pe_dget (hu_of hr) (pv 4) pe_str (fun _ _ => rfl)) pa_nil)))))))))))), ?_⟩
    refine fun d nd => ?_
    have s1 := same_upd (o := .dK []) nd
    have hd1 : (upd H d (.dK [])) d = some (.dK []) := upd_same
    generalize upd H d (.dK []) = H1 at *
    refine ⟨_, rfl, _, rfl, aI, _, rfl, .inl (SqL.of (s1 _ _ hI)), fun aB nB => ?_⟩
    have s2 := same_upd (o := .lst (bits.map bitV)) nB
    have hB2 : (upd H1 aB (.lst (bits.map bitV))) aB = some (.lst (bits.map bitV)) := upd_same
    have nBd : aB ≠ d := Ne.symm (ne_of_none hd1 nB)
    generalize upd H1 aB (.lst (bits.map bitV)) = H2 at *
    refine ⟨_, rfl, small100 (n := 0) (by decide), fun aD nD => ?_⟩
    have s3 := same_upd (o := .lst []) nD
    have hD3 : (upd H2 aD (.lst [])) aD = some (.lst []) := upd_same
    have nDd : aD ≠ d := Ne.symm (ne_of_none (s2 _ _ hd1) nD)
    have nDB : aD ≠ aB := Ne.symm (ne_of_none hB2 nD)
    generalize upd H2 aD (.lst []) = H3 at *
    refine ⟨small100 (n := 0) (by decide), fun aO nO => ?_⟩
    have s4 := same_upd (o := .lst []) nO
    have hO4 : (upd H3 aO (.lst [])) aO = some (.lst []) := upd_same
    have hd3 := s3 _ _ (s2 _ _ hd1)
    have nOd : aO ≠ d := Ne.symm (ne_of_none hd3 nO)
    have nOB : aO ≠ aB := Ne.symm (ne_of_none (s3 _ _ hB2) nO)
    have nOD : aO ≠ aD := Ne.symm (ne_of_none hD3 nO)
    generalize upd H3 aO (.lst []) = H4 at *
    have s14 := ((s1.trans s2).trans s3).trans s4
    have hd4 := s4 _ _ hd3
    have hB4 := (s3.trans s4) _ _ hB2
    have hD4 := s4 _ _ hD3
    let A : LA := ⟨d, aY, aB, aD, aO, fun a => S a ∧ H a ≠ none, bs⟩
    let s0 : LSt := ⟨bits, ex, 0, 0, [], [], [.st (.call p false [] [])]⟩
    refine ⟨hd4, lkv0 A s0, rfl, (show 7 ≤ 15 by decide), ?_⟩
    rw [show mergeK [] (lkv0 A s0) = lkv0 A s0 from rfl]
    have s5 : Same H (upd H4 d (.dK (lkv0 A s0))) := same_new s14 nd
    have hd5 : (upd H4 d (.dK (lkv0 A s0))) d = some (.dK (lkv0 A s0)) := upd_same
    have hB5 : (upd H4 d (.dK (lkv0 A s0))) aB = some (.lst (bits.map bitV)) := by rw [upd_ne nBd]; exact hB4
    have hD5 : (upd H4 d (.dK (lkv0 A s0))) aD = some (.lst []) := by rw [upd_ne nDd]; exact hD4
    have hO5 : (upd H4 d (.dK (lkv0 A s0))) aO = some (.lst []) := by rw [upd_ne nOd]; exact hO4
    generalize upd H4 d (.dK (lkv0 A s0)) = H5 at *
    refine ⟨_, rfl, small100 (n := 0) (by decide), fun e1 n1 => ⟨small100 (n := 0) (by decide), fun e2 n2 => ⟨small100 (n := 2) (by decide), fun e3 n3 => ⟨small100 (n := 4) (by decide), fun t nt => ⟨small100 (n := 1) (by decide), fun l nl => ?_⟩⟩⟩⟩⟩
    have u1 := same_upd (o := .lst []) n1
    have h1 : (upd H5 e1 (.lst [])) e1 = some (.lst []) := upd_same
    generalize upd H5 e1 (.lst []) = H6 at *
    have u2 := same_upd (o := .lst []) n2
    have h2 : (upd H6 e2 (.lst [])) e2 = some (.lst []) := upd_same
    generalize upd H6 e2 (.lst []) = H7 at *
    have u3 := same_upd (o := .lst [.ref e1, .ref e2]) n3
    have h3 : (upd H7 e3 (.lst [V.ref e1, .ref e2])) e3 = some (.lst [V.ref e1, .ref e2]) := upd_same
    generalize upd H7 e3 (.lst [V.ref e1, .ref e2]) = H8 at *
    have u4 := same_upd (o := .tup [V.str "call", .int p, .bl false, .ref e3]) nt
    have h4 : (upd H8 t (.tup [V.str "call", .int p, .bl false, .ref e3])) t = some (.tup [V.str "call", .int p, .bl false, .ref e3]) := upd_same
    generalize upd H8 t (.tup [V.str "call", .int p, .bl false, .ref e3]) = H9 at *
    have u5 := same_upd (o := .lst [V.ref t]) nl
    have h5 : (upd H9 l (.lst [V.ref t])) l = some (.lst [V.ref t]) := upd_same
    have u14 := ((u1.trans u2).trans u3).trans u4
    have nld : l ≠ d := Ne.symm (ne_of_none (u14 _ _ hd5) nl)
    have nlB : l ≠ aB := Ne.symm (ne_of_none (u14 _ _ hB5) nl)
    have nlD : l ≠ aD := Ne.symm (ne_of_none (u14 _ _ hD5) nl)
    have nlO : l ≠ aO := Ne.symm (ne_of_none (u14 _ _ hO5) nl)
    generalize upd H9 l (.lst [V.ref t]) = H10 at *
    have u15 := u14.trans u5
    have hd10 := u15 _ _ hd5
    refine ⟨_, rfl, d, upd H10 d (.dK (lkv A s0 l)), rfl, dputS hd10 (show 7 < sizeLine by decide) rfl, ?_⟩
    have hM0 : ∀ a, A.M a → H a = none := by
      rintro a (rfl | rfl | rfl | rfl)
      · exact nd
      · exact s1.free nB
      · exact (s1.trans s2).free nD
      · exact ((s1.trans s2).trans s3).free nO
    have sH : Same H (upd H10 d (.dK (lkv A s0 l))) := same_new (s5.trans u15) nd
    have nYd : aY ≠ d := ne_of_none hY nd
    have nYB : aY ≠ aB := ne_of_none hY (s1.free nB)
    have nYD : aY ≠ aD := ne_of_none hY ((s1.trans s2).free nD)
    have nYO : aY ≠ aO := ne_of_none hY (((s1.trans s2).trans s3).free nO)
    let B : LA := ⟨d, aY, aB, aD, aO, fun a => (S a ∧ H a ≠ none) ∨ a = e1 ∨ a = e2 ∨ a = e3, bs⟩
    have hM0 : ∀ a, B.M a → H a = none := hM0
    have hs5 : ∀ a, B.M a → ∃ o, H5 a = some o := by
      rintro a (rfl | rfl | rfl | rfl)
      · exact ⟨_, hd5⟩
      · exact ⟨_, hB5⟩
      · exact ⟨_, hD5⟩
      · exact ⟨_, hO5⟩
    have nEx : ∀ a, B.M a → a ≠ e1 ∧ a ≠ e2 ∧ a ≠ e3 := fun a m => by
      obtain ⟨o, ho⟩ := hs5 a m
      exact ⟨ne_of_none ho n1, ne_of_none (u1 _ _ ho) n2, ne_of_none ((u1.trans u2) _ _ ho) n3⟩
    have fin : ∀ b o, H10 b = some o → b ≠ d → (upd H10 d (.dK (lkv B s0 l))) b = some o := fun b o h n => by rw [upd_ne n]; exact h
    have e1d : e1 ≠ d := fun z => (nEx d (.inl rfl)).1 z.symm
    have e2d : e2 ≠ d := fun z => (nEx d (.inl rfl)).2.1 z.symm
    have e3d : e3 ≠ d := fun z => (nEx d (.inl rfl)).2.2 z.symm
    have td : t ≠ d := Ne.symm (ne_of_none (((u1.trans u2).trans u3) _ _ hd5) nt)
    have X0 : LV B s0 (upd H10 d (.dK (lkv B s0 l))) := by
      refine ⟨⟨l, [.ref t], upd_same, fin _ _ h5 nld, .one ?_, ?_⟩, ⟨ys, sH _ _ hY, ?_⟩, fin _ _ (u15 _ _ hB5) nBd, ⟨[], fin _ _ (u15 _ _ hD5) nDd, rfl⟩, ⟨[], fin _ _ (u15 _ _ hO5) nOd, rfl⟩, ⟨?_, fun a m hS => ?_⟩, Nat.zero_le _⟩
      · refine ⟨t, _, rfl, fin _ _ (u5 _ _ h4) td, .cons rfl (.cons rfl (.cons rfl (.one ⟨e3, _, rfl, .inr (.inr (.inr rfl)), fin _ _ ((u4.trans u5) _ _ h3) e3d, .cons ?_ (.one ?_)⟩)))⟩
        · exact ⟨e1, [], rfl, .inr (.inl rfl), fin _ _ ((((u2.trans u3).trans u4).trans u5) _ _ h1) e1d, rfl⟩
        · exact ⟨e2, [], rfl, .inr (.inr (.inl rfl)), fin _ _ (((u3.trans u4).trans u5) _ _ h2) e2d, rfl⟩
      · rintro (m | m | m | m)
        · exact nld m
        · exact nlB m
        · exact nlD m
        · exact nlO m
      · exact (TrAll.mono (fun a h => .inl h) _ _ (TrAll.tracked _ _ tY)).same sH
      · simp only [List.nodup_cons, List.mem_cons, List.not_mem_nil, or_false, not_or, List.nodup_nil, and_true, not_false_eq_true]
        exact ⟨⟨Ne.symm nYd, Ne.symm nBd, Ne.symm nDd, Ne.symm nOd⟩, ⟨nYB, nYD, nYO⟩, ⟨Ne.symm nDB, Ne.symm nOB⟩, Ne.symm nOD⟩
      · obtain ⟨z1, z2, z3⟩ := nEx a m
        rcases hS with ⟨_, h⟩ | h | h | h
        · exact h (hM0 a m)
        · exact z1 h
        · exact z2 h
        · exact z3 h
    have sH : Same H (upd H10 d (.dK (lkv B s0 l))) := sH
    obtain ⟨H11, eH⟩ : ∃ J, J = upd H10 d (.dK (lkv B s0 l)) := ⟨_, rfl⟩
    have eA : upd H10 d (.dK (lkv A s0 l)) = H11 := eH.symm
    rw [eA]
    rw [← eH] at X0 sH
    clear eA eH fin
    have eB : B.bs = bs := rfl
    have edB : B.d = d := rfl
    have eDB : B.aD = aD := rfl
    have eBB : B.aB = aB := rfl
    generalize hBB : B = C at *
    have told : ∀ (J : Hp) (s : LSt) (w : Str) (z : Int) (r : Addr), KpM C.M H11 J → LV C s J → J r = none → tellL (runL bs 3000 (initL p bits ex)) = (w, z, s.deeds, s.bits) → Q (.ref r) (upd J r (.tup [.str w, .int z, .ref aD, .ref aB])) := fun J s w z r k X nr e => by
      have sm : Same H J := fun b o h => k b o (fun m => by rw [hM0 b m] at h; cases h) (sH b o h)
      have s2 := same_upd (o := .tup [V.str w, .int z, .ref aD, .ref aB]) nr
      obtain ⟨ds, h2, t2⟩ := X.dds
      refine q r _ (sm.trans s2) (sm.free nr) ?_
      rw [e]
      refine ⟨aD, aB, ds, upd_same, s2 _ _ (by rw [← eDB]; exact h2), (lds_flat t2).same s2, s2 _ _ (by rw [← eBB]; exact X.bts), hM0 _ (.inr (.inr (.inl eDB.symm))), hM0 _ (.inr (.inl eBB.symm))⟩
    refine ⟨3000, rfl, by decide, by decide, for_range (n := 3000) (fun i σ J => ∃ s y1 y2 y3, σ = [some (.ref aY), some (.int p), some (.ref aI), some (.int ex), some (.ref d), y1, y2, y3] ∧ KpM C.M H11 J ∧ LV C s J ∧ InvL bs i s ∧ runL bs 3000 (initL p bits ex) = runL bs (3000 - i) s) ?_ (fun i σ J hi h => ?_) (fun σ J h => ?_)⟩
    · exact ⟨s0, none, none, none, rfl, KpM.of (Same.refl _), X0, inv_init hp hbl, rfl⟩
    · obtain ⟨s, y1, y2, y3, rfl, k, X, I, er⟩ := h
      obtain ⟨aT, ts, hd, hT, tT, nT⟩ := X.dict
      rw [edB] at hd
      have lts := tT.len
      rw [List.length_map] at lts
      refine ⟨_, rfl, d, _, rfl, dgetS hd lg_todo, aT, ts, rfl, .inl (SqL.of hT), _, _, rfl, rfl, _, rfl, ?_⟩
      cases etd : s.todo with
      | nil =>
        rw [etd] at lts
        refine iteN (by rw [lts]; decide) ?_
        refine ⟨s, _, y2, y3, rfl, k, X, ⟨I.ok, by have := I.bits; omega, by have := I.todo; omega, by have := I.opens; omega, I.cnt, I.last⟩, ?_⟩
        rw [er]
        have done : ∀ n, runL bs n s = .fin s := fun n => by
          cases n with
          | zero => rfl
          | succ n => unfold runL; rw [etd]
        rw [done, done]
      | cons x r =>
        rw [etd] at lts tT
        rw [List.length_cons] at lts
        refine iteP (by rw [lts]; omega) ?_
        obtain ⟨v, vs, ets, tv, tvs⟩ := tT
        subst ets
        refine ⟨_, rfl, d, _, rfl, dgetS hd lg_todo, aT, _, 0, v, rfl, rfl, SqL.of hT, atI_nat (j := 0) rfl, ?_⟩
        refine ⟨_, rfl, d, _, rfl, dgetS hd lg_todo, 1, rfl, aT, _, rfl, SqL.of hT, fun u nu => ?_⟩
        rw [show (1 : Int) = ((1 : Nat) : Int) from rfl, cut_from]
        rw [show (v :: vs).drop 1 = vs from rfl]
        have s6 := same_upd (o := .lst vs) nu
        have hu : (upd J u (.lst vs)) u = some (.lst vs) := upd_same
        have nM : ¬ C.M u := fun m => by
          obtain ⟨aT9, ts9, hd9, _⟩ := X.dict
          obtain ⟨ds9, h29, _⟩ := X.dds
          obtain ⟨os9, h39, _⟩ := X.ops
          rcases m with rfl | rfl | rfl | rfl
          · rw [nu] at hd9; cases hd9
          · have := X.bts; rw [nu] at this; cases this
          · rw [nu] at h29; cases h29
          · rw [nu] at h39; cases h39
        generalize upd J u (.lst vs) = J1 at *
        have X1 := X.same s6
        have hd1 := s6 _ _ hd
        refine ⟨_, rfl, d, upd J1 d (.dK (lkv C s u)), rfl, dputS hd1 lk_len (lp_todo _), ?_⟩
        obtain ⟨k2, X2⟩ := X1.setT (td := r) hu (tvs.same s6) nM
        rw [edB] at k2 X2
        have tv2 := X1.tr k2 (lth_noD x) (tv.same s6)
        have hd2 : (upd J1 d (.dK (lkv C s u))) d = some (.dK (lkv C s u)) := upd_same
        have k3 := k.trans ((KpM.of s6).trans k2)
        generalize upd J1 d (.dK (lkv C s u)) = J2 at *
        have hokx := I.ok x (by rw [etd]; exact List.mem_cons_self)
        have i2 := I.todo
        rw [etd, List.length_cons] at i2
        have xo : x.ok := hokx.ok (by omega)
        have er2 : runL bs (3000 - i) s = match taskL bs x { s with todo := r } with
            | none => if x.isCall then .never { s with todo := r } else .short { s with todo := r }
            | some (blk, s') => runL bs (3000 - (i + 1)) { s' with todo := blk ++ s'.todo } := by
          rw [show 3000 - i = (3000 - (i + 1)) + 1 by omega]
          conv => lhs; unfold runL
          rw [etd]
          try rfl
        refine ⟨_, rfl, _, rfl, C, { s with todo := r }, x, v, by rw [edB]; rfl, X2, tv2, xo, ⟨by have := I.bits; show s.bits.length ≤ _; omega, by show r.length + s.deeds.length ≤ _; omega, by have := I.opens; show s.opens.length ≤ _; omega⟩, by rw [eB]; exact fun b hb => (hbs b hb).1, fun p' sv a b e => ?_, fun w e => ?_, fun p' sv a b w e => ?_, fun hn J3 k4 X3 => ?_, fun blk s' hs r2 us J3 k4 X3 hr2 tr2 => ?_⟩
        · rw [eB]
          subst e
          obtain ⟨l', hz, _⟩ := hokx
          exact hz.2.1
        · subst e
          exact fin_cut s.deeds (by rw [← etd]; exact I.last)
        · subst e
          intro h0
          have i4 := I.cnt
          rw [etd] at i4
          have h0 : s.opens = [] := h0
          rw [h0] at i4
          simp [outN, LTh.isOut] at i4
        · rw [eB] at hn
          rw [hn] at er2
          obtain ⟨t', us', rfl, ht'⟩ := lth_word (X2.tr k4 (lth_noD x) tv2)
          obtain ⟨aT3, ts3, hd3, _⟩ := X3.dict
          rw [edB] at hd3
          refine ⟨_, rfl, rfl, _, rfl, iteP rfl ?_⟩
          refine ⟨_, rfl, t', _, 0, _, rfl, rfl, SqT.of ht', atI_nat (j := 0) rfl, rfl, _, rfl, ?_⟩
          by_cases hc : x.isCall = true
          · refine iteP (congrArg V.str ((lth_call x).mpr hc)) ?_
            refine ⟨2, rfl, _, rfl, d, _, rfl, dgetS hd3 lg_deeds, _, rfl, d, _, rfl, dgetS hd3 lg_bits, small100 (n := 4) (by decide), fun r3 nr3 => ?_⟩
            rw [eDB, eBB]
            exact told J3 _ _ _ r3 (k3.trans k4) X3 nr3 (by rw [er, er2]; simp only [hc, if_true]; rfl)
          · refine iteN (fun h => hc ((lth_call x).mp (V.str.inj h))) ?_
            refine ⟨_, rfl, rfl, _, rfl, iteP rfl ?_⟩
            refine ⟨_, rfl, d, _, rfl, dgetS hd3 lg_bits, C.aB, _, rfl, .inl (SqL.of X3.bts), _, rfl, d, _, rfl, dgetS hd3 lg_deeds, _, rfl, d, _, rfl, dgetS hd3 lg_bits, small100 (n := 4) (by decide), fun r3 nr3 => ?_⟩
            rw [eDB, eBB, List.length_map]
            exact told J3 _ _ _ r3 (k3.trans k4) X3 nr3 (by rw [er, er2]; simp only [hc]; rfl)
        · rw [eB] at hs
          rw [hs] at er2
          refine ⟨_, rfl, rfl, _, rfl, iteN (fun h => by cases h) ?_⟩
          refine ⟨_, rfl, rfl, _, rfl, iteN (fun h => by cases h) ?_⟩
          obtain ⟨aT3, ts3, hd3, hT3, tT3, nT3⟩ := X3.dict
          rw [edB] at hd3
          have I2 := inv_step hbs I etd (by rw [← eB]; rw [eB]; exact hs)
          have lu := tr2.len
          have lt3 := tT3.len
          rw [List.length_map] at lu lt3
          have lz : us.length + ts3.length ≤ 100000 := by
            have := I2.todo
            have e1 : (blk ++ s'.todo).length + s'.deeds.length ≤ 1 + 10 * (i + 1) := this
            rw [List.length_append] at e1
            omega
          refine ⟨_, rfl, _, rfl, d, _, rfl, dgetS hd3 lg_todo, r2, aT3, us, ts3, rfl, rfl, hr2, hT3, Nat.le_of_lt (Nat.lt_of_le_of_lt lz (by decide)), fun u2 nu2 => ?_⟩
          have s7 := same_upd (o := .lst (us ++ ts3)) nu2
          have hu2 : (upd J3 u2 (.lst (us ++ ts3))) u2 = some (.lst (us ++ ts3)) := upd_same
          have nM2 := X3.fresh nu2
          generalize upd J3 u2 (.lst (us ++ ts3)) = J4 at *
          have X4 := X3.same s7
          have hd4 := s7 _ _ hd3
          refine ⟨_, rfl, d, upd J4 d (.dK (lkv C s' u2)), rfl, dputS hd4 lk_len (lp_todo _), ?_⟩
          obtain ⟨k5, X5⟩ := X4.setT (td := blk ++ s'.todo) hu2 (by rw [List.map_append]; exact (tr2.same s7).append (tT3.same s7)) nM2
          rw [edB] at k5 X5
          exact ⟨{ s' with todo := blk ++ s'.todo }, _, _, _, rfl, (k3.trans k4).trans ((KpM.of s7).trans k5), X5, I2, by rw [er, er2]⟩
    · obtain ⟨s, y1, y2, y3, rfl, k, X, I, er⟩ := h
      obtain ⟨aT, ts, hd, hT, tT, nT⟩ := X.dict
      rw [edB] at hd
      have lts := tT.len
      rw [List.length_map] at lts
      have er : runL bs 3000 (initL p bits ex) = .fin s := er
      refine ⟨_, rfl, d, _, rfl, dgetS hd lg_todo, aT, ts, rfl, .inl (SqL.of hT), _, _, rfl, rfl, _, rfl, ?_⟩
      by_cases etd : s.todo = []
      · refine iteN (by rw [lts, etd]; decide) ?_
        refine ⟨_, rfl, d, _, rfl, dgetS hd lg_taken, _, rfl, d, _, rfl, dgetS hd lg_bits, C.aB, _, rfl, .inl (SqL.of X.bts), _, _, rfl, rfl, _, rfl, ?_⟩
        rw [List.length_map]
        by_cases et : s.taken < s.bits.length
        · refine iteP (by omega) ?_
          refine ⟨_, rfl, d, _, rfl, dgetS hd lg_taken, _, rfl, d, _, rfl, dgetS hd lg_deeds, _, rfl, d, _, rfl, dgetS hd lg_bits, small100 (n := 4) (by decide), fun r3 nr3 => ?_⟩
          rw [eDB, eBB]
          exact told J _ _ _ r3 k X nr3 (by rw [er]; unfold tellL; simp only [etd, et, ne_eq, not_true_eq_false, if_true, if_false])
        · refine iteN (by omega) ?_
          refine ⟨_, rfl, d, _, rfl, dgetS hd lg_way, _, rfl, d, _, rfl, dgetS hd lg_deeds, _, rfl, d, _, rfl, dgetS hd lg_bits, small100 (n := 4) (by decide), fun r3 nr3 => ?_⟩
          rw [eDB, eBB]
          exact told J _ _ _ r3 k X nr3 (by rw [er]; unfold tellL; simp only [etd, et, ne_eq, not_true_eq_false, if_false])
      · refine iteP (by rw [lts]; have := List.length_pos_iff.mpr etd; omega) ?_
        refine ⟨small100 (n := 0) (by decide), fun f1 m1 => ⟨small100 (n := 0) (by decide), fun f2 m2 => ⟨small100 (n := 4) (by decide), fun r3 nr3 => ?_⟩⟩⟩
        have sm : Same H J := fun b o h => k b o (fun m => by rw [hM0 b m] at h; cases h) (sH b o h)
        have v1 := same_upd (o := .lst []) m1
        have g1 : (upd J f1 (.lst [])) f1 = some (.lst []) := upd_same
        generalize upd J f1 (.lst []) = J1 at *
        have v2 := same_upd (o := .lst []) m2
        have g2 : (upd J1 f2 (.lst [])) f2 = some (.lst []) := upd_same
        generalize upd J1 f2 (.lst []) = J2 at *
        have v3 := same_upd (o := .tup [V.str "long", .int 0, .ref f1, .ref f2]) nr3
        have sm2 := (sm.trans v1).trans v2
        refine q r3 _ (sm2.trans v3) (sm2.free nr3) ?_
        rw [er]
        have et : tellL (.fin s) = (("long" : Str), (0 : Int), ([] : List Dd), ([] : List Bool)) := by unfold tellL; simp only [etd, ne_eq, not_false_eq_true, if_true]
        rw [et]
        exact ⟨f1, f2, [], upd_same, (v2.trans v3) _ _ g1, rfl, v3 _ _ g2, sm.free m1, (sm.trans v1).free m2⟩

--SPLIT
/-! ### the law's machine and the program's -/
def thOf : LTh → Th
  | .st z => .st z
  | .shut => .back
  | .out p sv a b _ => .beh p sv a b
def outP : LTh → Option Nat
  | .out p _ _ _ _ => some p
  | _ => none
def outsP (td : List LTh) : List Nat := td.filterMap outP
def outF : LTh → Prop
  | .out _ _ _ _ w => w = false
  | _ => True
def begN (opens : List (Nat × Nat)) (q : Nat) : List Nat := ((opens.filter fun o => decide (o.1 = q)).map (·.2)).reverse
structure RelL (bs : List (List Stm)) (L : LSt) (e : ESt) : Prop where
  tk : e.taken = L.taken
  lf : e.left = L.todo.map thOf
  dd : e.deeds = L.deeds
  wy : e.way = L.way
  bl : e.begun.length = bs.length
  bg : ∀ q, q < bs.length → e.begun[q]? = some (begN L.opens q)
  op : L.opens.map (·.1) = (outsP L.todo).reverse
  asc : List.Pairwise (fun a b : Nat × Nat => a.2 ≤ b.2) L.opens
  le : ∀ o ∈ L.opens, o.2 ≤ L.taken
  of : ∀ x ∈ L.todo, outF x
theorem begN_snoc (os : List (Nat × Nat)) (p t q : Nat) : begN (os ++ [(p, t)]) q = if p = q then t :: begN os q else begN os q := by
  unfold begN
  rw [List.filter_append]
  by_cases h : p = q
  · rw [if_pos h, List.filter_cons_of_pos (by simpa using h)]
    simp
  · rw [if_neg h, List.filter_cons_of_neg (by simpa using h)]
    simp
theorem outsP_app (a b : List LTh) : outsP (a ++ b) = outsP a ++ outsP b := List.filterMap_append
theorem outsP_st : ∀ b : List Stm, outsP (b.map LTh.st) = []
  | [] => rfl
  | _ :: r => outsP_st r
/-- the newest present call of a procedure has the most bits taken -/
theorem beg_headR (p t : Nat) : ∀ rs : List (Nat × Nat), List.Pairwise (fun a b : Nat × Nat => a.2 ≤ b.2) rs.reverse → (∀ o ∈ rs.reverse, o.2 ≤ t) → (((begN rs.reverse p).head? = some t) ↔ (p, t) ∈ rs.reverse)
  | [], _, _ => by simp [begN]
  | (q, u) :: rs, asc, le => by
    rw [List.reverse_cons] at asc le ⊢
    rw [List.pairwise_append] at asc
    obtain ⟨a1, _, a3⟩ := asc
    have ih := beg_headR p t rs a1 (fun o ho => le o (List.mem_append_left _ ho))
    have lu : u ≤ t := le (q, u) (List.mem_append_right _ List.mem_cons_self)
    rw [begN_snoc]
    by_cases h : q = p
    · subst h
      rw [if_pos rfl, List.head?_cons]
      constructor
      · intro e
        have e := Option.some.inj e
        subst e
        simp
      · intro e
        rcases List.mem_append.mp e with e | e
        · have := a3 (q, t) e (q, u) List.mem_cons_self
          have : t ≤ u := this
          rw [show u = t by omega]
        · have := List.mem_singleton.mp e
          injection this with e1 e2
          rw [e2]
    · rw [if_neg h, ih]
      constructor
      · exact fun e => List.mem_append_left _ e
      · intro e
        rcases List.mem_append.mp e with e | e
        · exact e
        · have := List.mem_singleton.mp e
          injection this with e1 e2
          exact absurd e1.symm h
theorem beg_head {os : List (Nat × Nat)} (asc : List.Pairwise (fun a b : Nat × Nat => a.2 ≤ b.2) os) {p t : Nat} (le : ∀ o ∈ os, o.2 ≤ t) : ((begN os p).head? = some t) ↔ (p, t) ∈ os := by
  have := beg_headR p t os.reverse (by rw [List.reverse_reverse]; exact asc) (by rw [List.reverse_reverse]; exact le)
  rw [List.reverse_reverse] at this
  exact this
theorem unw_cut : ∀ {r : List LTh} {ds ds' : List Dd} {x : Nat × Bool × List Stm × List Stm} {r' : List LTh}, cutO r ds = some (x, r', ds') → unwL (r.map thOf) ds = some (x, r'.map thOf, ds')
  | [], _, _, _, _, h => by cases h
  | .out p sv a b w :: q, ds, ds', x, r', h => by
    have h := Option.some.inj h
    cases h
    rfl
  | .shut :: q, ds, ds', x, r', h => by
    have h2 : cutO q (ds ++ [.back]) = some (x, r', ds') := h
    exact unw_cut (r := q) (ds := ds ++ [.back]) h2
  | .st z :: q, ds, ds', x, r', h => by
    have h2 : cutO q ds = some (x, r', ds') := h
    exact unw_cut (r := q) (ds := ds) h2
theorem st_thOf (b : List Stm) : (b.map LTh.st).map thOf = b.map Th.st := by rw [List.map_map]; rfl
/-- the bits of a law's state grow at their end -/
theorem bitL_pre {z : Stm} {s s' : LSt} {w : Bool} (h : bitL z s = some (w, s')) (ht : s.taken ≤ s.bits.length) : s.bits <+: s'.bits ∧ s'.taken = s.taken + 1 ∧ s'.bits[s.taken]? = some w ∧ s'.taken ≤ s'.bits.length := by
  unfold bitL at h
  split at h
  · rename_i e
    split at h
    · cases h
    · have h := Option.some.inj h
      cases h
      refine ⟨⟨_, rfl⟩, rfl, ?_, by simp; omega⟩
      show (s.bits ++ [chL z])[s.taken]? = _
      rw [e, List.getElem?_append_right (Nat.le_refl _), Nat.sub_self]
      rfl
  · rename_i e
    have h := Option.some.inj h
    cases h
    have lt : s.taken < s.bits.length := by omega
    refine ⟨⟨[], by simp⟩, rfl, ?_, lt⟩
    show s.bits[s.taken]? = _
    rw [List.getD_eq_getElem?_getD, List.getElem?_eq_getElem lt]
    rfl
theorem task_pre {bs : List (List Stm)} {x : LTh} {s s' : LSt} {blk : List LTh} (h : taskL bs x s = some (blk, s')) (ht : s.taken ≤ s.bits.length) : s.bits <+: s'.bits ∧ s'.taken ≤ s'.bits.length := by
  have triv : s.bits <+: s.bits := ⟨[], by simp⟩
  match x, h with
  | .shut, h => have h := Option.some.inj h; cases h; exact ⟨triv, ht⟩
  | .out p sv a b w, h => have h := Option.some.inj h; cases h; exact ⟨triv, ht⟩
  | .st (.cmd c), h => have h := Option.some.inj h; cases h; exact ⟨triv, ht⟩
  | .st (.keep b), h => have h := Option.some.inj h; cases h; exact ⟨triv, ht⟩
  | .st (.fin w), h =>
    have h : (cutO s.todo s.deeds).map _ = some (blk, s') := h
    rw [Option.map_eq_some_iff] at h
    obtain ⟨q, _, e⟩ := h
    have e2 := congrArg Prod.snd e
    dsimp only at e2
    subst e2
    exact ⟨triv, ht⟩
  | .st (.again b), h =>
    have h : (bitL (.again b) s).map _ = some (blk, s') := h
    rw [Option.map_eq_some_iff] at h
    obtain ⟨⟨w, s2⟩, hb, e⟩ := h
    have e2 := congrArg Prod.snd e
    dsimp only at e2
    subst e2
    exact ⟨(bitL_pre hb ht).1, (bitL_pre hb ht).2.2.2⟩
  | .st (.either a b), h =>
    have h : (bitL (.either a b) s).map _ = some (blk, s') := h
    rw [Option.map_eq_some_iff] at h
    obtain ⟨⟨w, s2⟩, hb, e⟩ := h
    have e2 := congrArg Prod.snd e
    dsimp only at e2
    subst e2
    exact ⟨(bitL_pre hb ht).1, (bitL_pre hb ht).2.2.2⟩
  | .st (.call p sv a b), h =>
    have h : (if (p, s.taken) ∈ s.opens then none else some _) = some (blk, s') := h
    split at h
    · cases h
    · have h := Option.some.inj h
      have e2 := congrArg Prod.snd h
      dsimp only at e2
      subst e2
      exact ⟨triv, ht⟩
theorem run_pre {bs : List (List Stm)} : ∀ {n : Nat} {L s : LSt}, runL bs n L = .fin s → L.taken ≤ L.bits.length → L.bits <+: s.bits
  | 0, L, s, h, _ => by
    have h : LRes.fin L = .fin s := h
    injection h with h
    subst h
    exact ⟨[], by simp⟩
  | n + 1, L, s, h, ht => by
    unfold runL at h
    cases e : L.todo with
    | nil =>
      rw [e] at h
      dsimp only at h
      injection h with h
      subst h
      exact ⟨[], by simp⟩
    | cons x r =>
      rw [e] at h
      dsimp only at h
      cases et : taskL bs x { L with todo := r } with
      | none =>
        rw [et] at h
        dsimp only at h
        split at h <;> cases h
      | some res =>
        obtain ⟨blk, s'⟩ := res
        rw [et] at h
        dsimp only at h
        obtain ⟨p1, p2⟩ := task_pre et ht
        exact p1.trans (run_pre (L := { s' with todo := blk ++ s'.todo }) h p2)
theorem pre_get {a b : List Bool} (h : a <+: b) {i : Nat} {w : Bool} (e : a[i]? = some w) : b[i]? = some w := by
  obtain ⟨c, rfl⟩ := h
  rw [List.getElem?_append_left (List.getElem?_eq_some_iff.mp e).1]
  exact e
/-- a call that ends, in the program and in the law -/
theorem leave_rel {bs : List (List Stm)} {L : LSt} {e : ESt} {p : Nat} {sv : Bool} {a b : List Stm} {r : List LTh} {ds : List Dd} (w : Bool) (tk : e.taken = L.taken) (bl : e.begun.length = bs.length) (bg : ∀ q, q < bs.length → e.begun[q]? = some (begN L.opens q)) (hp : p < bs.length)
    (op : L.opens.map (·.1) = (p :: outsP r).reverse) (asc : List.Pairwise (fun a b : Nat × Nat => a.2 ≤ b.2) L.opens) (le : ∀ o ∈ L.opens, o.2 ≤ L.taken) (of : ∀ x ∈ r, outF x) :
    ∃ e', leaveE p sv a b w { e with left := r.map thOf, deeds := ds } = .go e' ∧ RelL bs { L with opens := L.opens.dropLast, way := wayN w, deeds := ds ++ backIf sv, todo := (if w then b else a).map LTh.st ++ r } e' := by
  have hne : L.opens ≠ [] := fun h => by rw [h] at op; simp at op
  obtain ⟨oi, o, eo⟩ : ∃ oi o, L.opens = oi ++ [o] := ⟨L.opens.dropLast, L.opens.getLast hne, (List.dropLast_concat_getLast hne).symm⟩
  rw [eo, List.map_append, List.reverse_cons] at op
  obtain ⟨op1, op2⟩ := List.append_inj' op rfl
  obtain ⟨q, t⟩ := o
  have eq : q = p := by simpa using op2
  subst eq
  have hb := bg q hp
  rw [eo, begN_snoc, if_pos rfl] at hb
  have hgo : leaveE q sv a b w { e with left := r.map thOf, deeds := ds } = .go { e with begun := e.begun.set q (begN oi q), deeds := ds ++ backIf sv, left := (if w then b else a).map Th.st ++ r.map thOf, way := wayN w } := by
    unfold leaveE
    dsimp only
    rw [hb]
    rfl
  refine ⟨_, hgo, tk, ?_, rfl, rfl, ?_, fun q' hq' => ?_, ?_, ?_, ?_, ?_⟩
  · show (if w then b else a).map Th.st ++ r.map thOf = ((if w then b else a).map LTh.st ++ r).map thOf
    rw [List.map_append, st_thOf]
  · show (e.begun.set q _).length = _
    rw [List.length_set]
    exact bl
  · show (e.begun.set q (begN oi q))[q']? = some (begN L.opens.dropLast q')
    rw [eo, List.dropLast_concat]
    by_cases h : q = q'
    · subst h
      rw [List.getElem?_set_self (by omega)]
    · rw [List.getElem?_set_ne h, bg q' hq', eo, begN_snoc, if_neg h]
  · show L.opens.dropLast.map _ = (outsP ((if w then b else a).map LTh.st ++ r)).reverse
    rw [eo, List.dropLast_concat, outsP_app, outsP_st, List.nil_append]
    exact op1
  · show List.Pairwise _ L.opens.dropLast
    rw [eo, List.pairwise_append] at asc
    rw [eo, List.dropLast_concat]
    exact asc.1
  · intro o ho
    have ho : o ∈ L.opens.dropLast := ho
    rw [eo, List.dropLast_concat] at ho
    exact le o (by rw [eo]; exact List.mem_append_left _ ho)
  · intro x hx
    have hx : x ∈ (if w then b else a).map LTh.st ++ r := hx
    rcases List.mem_append.mp hx with hx | hx
    · obtain ⟨z, _, rfl⟩ := List.mem_map.mp hx
      trivial
    · exact of x hx

--SPLIT
theorem step_again (bs : List (List Stm)) (F : List Bool) (b : List Stm) (s : ESt) : stepE bs F (.st (.again b)) s = takeE F s fun w s => .go (if w then enterE b { s with left := .st (.again b) :: s.left } else s) := rfl
theorem step_either (bs : List (List Stm)) (F : List Bool) (a b : List Stm) (s : ESt) : stepE bs F (.st (.either a b)) s = takeE F s fun w s => .go (enterE (if w then b else a) s) := rfl
theorem takeE_some {F : List Bool} {s : ESt} {f : Bool → ESt → Out} {w : Bool} (h : F[s.taken]? = some w) : takeE F s f = f w { s with taken := s.taken + 1 } := by
  unfold takeE
  rw [h]
theorem takeE_none {F : List Bool} {s : ESt} {f : Bool → ESt → Out} (h : F[s.taken]? = none) : takeE F s f = .no s.taken := by
  unfold takeE
  rw [h]
theorem rel_same {bs : List (List Stm)} {L : LSt} {e : ESt} {x : LTh} {r blk : List LTh} (R : RelL bs L e) (et : L.todo = x :: r) (nx : outP x = none) (o1 : outsP blk = []) (o2 : ∀ y ∈ blk, outF y) {B : List Bool} {ex tk : Nat} {ds : List Dd} (ht : L.taken ≤ tk) :
    RelL bs { L with bits := B, extra := ex, taken := tk, deeds := ds, todo := blk ++ r } { e with taken := tk, left := blk.map thOf ++ r.map thOf, deeds := ds } := by
  refine ⟨rfl, by show _ = (blk ++ r).map thOf; rw [List.map_append], rfl, R.wy, R.bl, R.bg, ?_, R.asc, fun o ho => Nat.le_trans (R.le o ho) ht, fun y hy => ?_⟩
  · have := R.op
    rw [et] at this
    show L.opens.map _ = (outsP (blk ++ r)).reverse
    rw [outsP_app, o1, List.nil_append, this]
    unfold outsP
    rw [List.filterMap_cons_none nx]
  · have hy : y ∈ blk ++ r := hy
    exact (List.mem_append.mp hy).elim (o2 y) fun h => R.of y (by rw [et]; exact List.mem_cons_of_mem _ h)
theorem outF_st (b : List Stm) : ∀ y ∈ b.map LTh.st, outF y := fun y hy => by
  obtain ⟨z, _, rfl⟩ := List.mem_map.mp hy
  trivial
theorem step_rel {bs : List (List Stm)} {F : List Bool} {L L' : LSt} {e : ESt} {x : LTh} {r blk : List LTh} (R : RelL bs L e) (et : L.todo = x :: r) (ht : L.taken ≤ L.bits.length) (hx : x.okM bs.length) (nf : ∀ w, x ≠ .st (.fin w)) (h : taskL bs x { L with todo := r } = some (blk, L')) (pre : L'.bits <+: F) :
    ∃ e', stepE bs F (thOf x) { e with left := r.map thOf } = .go e' ∧ RelL bs { L' with todo := blk ++ L'.todo } e' := by
  obtain ⟨t0, l0, g0, d0, w0⟩ := e
  obtain ⟨r1, r2, r3, r4, _⟩ := id R
  dsimp only at r1 r2 r3 r4
  subst r1 r2 r3 r4
  have wy := R.wy
  cases x with
  | shut =>
    have h := Option.some.inj h
    cases h
    refine ⟨_, rfl, ?_⟩
    have := rel_same (blk := []) (B := L.bits) (ex := L.extra) (ds := L.deeds ++ [.back]) R et rfl rfl (fun y hy => by cases hy) (Nat.le_refl _)
    exact this
  | out p sv a b w =>
    have h := Option.some.inj h
    cases h
    have hw : outF (.out p sv a b w) := R.of _ (by rw [et]; exact List.mem_cons_self)
    have hw : w = false := hw
    subst hw
    obtain ⟨l, hz, _⟩ := hx
    have op := R.op
    rw [et] at op
    obtain ⟨e', h1, h2⟩ := leave_rel (r := r) (ds := L.deeds) (a := a) (b := b) (sv := sv) false R.tk R.bl R.bg hz.2.1 op R.asc R.le (fun y hy => R.of y (by rw [et]; exact List.mem_cons_of_mem _ hy))
    refine ⟨e', h1, ?_⟩
    exact h2
  | st z =>
    cases z with
    | cmd c =>
      have h := Option.some.inj h
      cases h
      refine ⟨_, rfl, ?_⟩
      have := rel_same (blk := []) (B := L.bits) (ex := L.extra) (ds := L.deeds ++ [.cmd c]) R et rfl rfl (fun y hy => by cases hy) (Nat.le_refl _)
      exact this
    | fin w => exact absurd rfl (nf w)
    | keep b =>
      have h := Option.some.inj h
      cases h
      refine ⟨_, rfl, ?_⟩
      have := rel_same (blk := b.map LTh.st ++ [.shut]) (B := L.bits) (ex := L.extra) (ds := L.deeds ++ [.hold]) R et rfl (by rw [outsP_app, outsP_st]; rfl) (fun y hy => by
        rcases List.mem_append.mp hy with hy | hy
        · exact outF_st b y hy
        · rw [List.mem_singleton.mp hy]; trivial) (Nat.le_refl _)
      rw [List.map_append, st_thOf] at this
      rw [show (b.map Th.st ++ [LTh.shut].map thOf ++ r.map thOf) = b.map Th.st ++ .back :: r.map thOf by rw [List.append_assoc]; rfl] at this
      exact this
    | again b =>
      have h : (bitL (.again b) { L with todo := r }).map _ = some (blk, L') := h
      rw [Option.map_eq_some_iff] at h
      obtain ⟨⟨w, s2⟩, hb, eq⟩ := h
      obtain ⟨j1, j2, j3, j4, j5⟩ := bitL_sz hb
      obtain ⟨b1, b2, b3, b4⟩ := bitL_pre hb ht
      have e1 := congrArg Prod.fst eq
      have e2 := congrArg Prod.snd eq
      dsimp only at e1 e2
      subst e2
      subst e1
      have hF := pre_get pre b3
      have hF : F[L.taken]? = some w := hF
      have es : s2 = { L with bits := s2.bits, extra := s2.extra, taken := L.taken + 1, deeds := L.deeds, todo := r } := by
        obtain ⟨a1, a2, a3, a4, a5, a6, a7⟩ := s2
        dsimp only at j2 j3 j4 j5 b2
        rw [j2, j3, j4, j5, b2]
      cases w with
      | false =>
        refine ⟨⟨L.taken + 1, r.map thOf, g0, L.deeds, L.way⟩, ?_, ?_⟩
        · exact (step_again bs F b _).trans ((takeE_some (s := ⟨L.taken, r.map thOf, g0, L.deeds, L.way⟩) hF).trans rfl)
        · have := rel_same (blk := []) (B := s2.bits) (ex := s2.extra) (ds := L.deeds) (tk := L.taken + 1) R et rfl rfl (fun y hy => by cases hy) (Nat.le_succ _)
          rw [es]
          exact this
      | true =>
        refine ⟨⟨L.taken + 1, b.map Th.st ++ .st (.again b) :: r.map thOf, g0, L.deeds, L.way⟩, ?_, ?_⟩
        · exact (step_again bs F b _).trans ((takeE_some (s := ⟨L.taken, r.map thOf, g0, L.deeds, L.way⟩) hF).trans rfl)
        · have := rel_same (blk := b.map LTh.st ++ [.st (.again b)]) (B := s2.bits) (ex := s2.extra) (ds := L.deeds) (tk := L.taken + 1) R et rfl (by rw [outsP_app, outsP_st]; rfl) (fun y hy => by
            rcases List.mem_append.mp hy with hy | hy
            · exact outF_st b y hy
            · rw [List.mem_singleton.mp hy]; trivial) (Nat.le_succ _)
          rw [es]
          rw [List.map_append, st_thOf] at this
          rw [show (b.map Th.st ++ [LTh.st (.again b)].map thOf ++ r.map thOf) = b.map Th.st ++ .st (.again b) :: r.map thOf by rw [List.append_assoc]; rfl] at this
          exact this
    | either a b =>
      have h : (bitL (.either a b) { L with todo := r }).map _ = some (blk, L') := h
      rw [Option.map_eq_some_iff] at h
      obtain ⟨⟨w, s2⟩, hb, eq⟩ := h
      obtain ⟨j1, j2, j3, j4, j5⟩ := bitL_sz hb
      obtain ⟨b1, b2, b3, b4⟩ := bitL_pre hb ht
      have e1 := congrArg Prod.fst eq
      have e2 := congrArg Prod.snd eq
      dsimp only at e1 e2
      subst e2
      subst e1
      have hF := pre_get pre b3
      have hF : F[L.taken]? = some w := hF
      have es : s2 = { L with bits := s2.bits, extra := s2.extra, taken := L.taken + 1, deeds := L.deeds, todo := r } := by
        obtain ⟨a1, a2, a3, a4, a5, a6, a7⟩ := s2
        dsimp only at j2 j3 j4 j5 b2
        rw [j2, j3, j4, j5, b2]
      refine ⟨⟨L.taken + 1, (if w then b else a).map Th.st ++ r.map thOf, g0, L.deeds, L.way⟩, ?_, ?_⟩
      · exact (step_either bs F a b _).trans ((takeE_some (s := ⟨L.taken, r.map thOf, g0, L.deeds, L.way⟩) hF).trans rfl)
      · have := rel_same (blk := (if w then b else a).map LTh.st) (B := s2.bits) (ex := s2.extra) (ds := L.deeds) (tk := L.taken + 1) R et rfl (outsP_st _) (outF_st _) (Nat.le_succ _)
        rw [es]
        rw [st_thOf] at this
        exact this
    | call p sv a b =>
      have h : (if (p, L.taken) ∈ L.opens then none else some _) = some (blk, L') := h
      split at h
      · cases h
      · rename_i nm
        have h := Option.some.inj h
        have e1 := congrArg Prod.fst h
        have e2 := congrArg Prod.snd h
        dsimp only at e1 e2
        subst e2
        subst e1
        obtain ⟨l, hz, _⟩ := hx
        have hp : p < bs.length := hz.2.1
        have eb : bs.getD p [] = bs[p] := by rw [List.getD_eq_getElem?_getD, List.getElem?_eq_getElem hp]; rfl
        have hg := R.bg p hp
        have hd : ¬ (begN L.opens p).head? = some L.taken := by
          exact fun h => nm ((beg_head R.asc R.le).mp h)
        refine ⟨⟨L.taken, (bs[p]).map Th.st ++ .beh p sv a b :: r.map thOf, g0.set p (L.taken :: begN L.opens p), L.deeds ++ holdIf sv, L.way⟩, ?_, ?_⟩
        · show beginE bs p sv a b _ = _
          unfold beginE
          dsimp only
          rw [hg, List.getElem?_eq_getElem hp]
          dsimp only
          rw [if_neg hd]
          rfl
        · refine ⟨rfl, ?_, rfl, wy, ?_, fun q hq => ?_, ?_, ?_, fun o ho => ?_, fun y hy => ?_⟩
          · show (bs[p]).map Th.st ++ .beh p sv a b :: r.map thOf = (((bs.getD p []).map LTh.st ++ [LTh.out p sv a b false]) ++ r).map thOf
            rw [eb, List.map_append, List.map_append, st_thOf, List.append_assoc]
            rfl
          · show (g0.set p _).length = _
            rw [List.length_set]
            exact R.bl
          · show (g0.set p (L.taken :: begN L.opens p))[q]? = some (begN (L.opens ++ [(p, L.taken)]) q)
            rw [begN_snoc]
            by_cases h : p = q
            · subst h
              rw [if_pos rfl, List.getElem?_set_self (by have := R.bl; dsimp only at this; omega)]
            · rw [if_neg h, List.getElem?_set_ne h]
              exact R.bg q hq
          · show (L.opens ++ [(p, L.taken)]).map (·.1) = (outsP (((bs.getD p []).map LTh.st ++ [LTh.out p sv a b false]) ++ r)).reverse
            have op := R.op
            rw [et] at op
            rw [outsP_app, outsP_app, outsP_st, List.nil_append, List.map_append, op]
            show (outsP r).reverse ++ [p] = ([p] ++ outsP r).reverse
            rw [List.reverse_append]
            rfl
          · show List.Pairwise _ (L.opens ++ [(p, L.taken)])
            rw [List.pairwise_append]
            refine ⟨R.asc, by simp, fun o ho o2 ho2 => ?_⟩
            rw [List.mem_singleton.mp ho2]
            exact R.le o ho
          · have ho : o ∈ L.opens ++ [(p, L.taken)] := ho
            rcases List.mem_append.mp ho with ho | ho
            · exact R.le o ho
            · rw [List.mem_singleton.mp ho]
              exact Nat.le_refl _
          · have hy : y ∈ ((bs.getD p []).map LTh.st ++ [LTh.out p sv a b false]) ++ r := hy
            rcases List.mem_append.mp hy with hy | hy
            · rcases List.mem_append.mp hy with hy | hy
              · exact outF_st _ y hy
              · rw [List.mem_singleton.mp hy]; rfl
            · exact R.of y (by rw [et]; exact List.mem_cons_of_mem _ hy)

--SPLIT
theorem runE_cons' {bs : List (List Stm)} {bits : List Bool} {s s' : ESt} {x : Th} {r : List Th} {n : Nat} (h : s.left = x :: r) (e : stepE bs bits x { s with left := r } = .go s') : runE bs bits (n + 1) s = runE bs bits n s' := by
  conv => lhs; unfold runE
  rw [h]
  dsimp only
  rw [e]
theorem runE_done' {bs : List (List Stm)} {bits : List Bool} {s : ESt} (h : s.left = []) : ∀ n, runE bs bits n s = .go s
  | 0 => by unfold runE; rw [h]; rfl
  | n + 1 => by unfold runE; rw [h]
theorem runE_more {bs : List (List Stm)} {F : List Bool} : ∀ {m : Nat} {e e' : ESt}, runE bs F m e = .go e' → e'.left = [] → ∀ k, runE bs F (m + k) e = .go e'
  | 0, e, e', h, hl, k => by
    unfold runE at h
    split at h
    · injection h with h
      subst h
      exact runE_done' hl _
    · cases h
  | m + 1, e, e', h, hl, k => by
    cases el : e.left with
    | nil =>
      rw [runE_done' el] at h
      injection h with h
      subst h
      exact runE_done' el _
    | cons x r =>
      cases es : stepE bs F x { e with left := r } with
      | go s' =>
        rw [runE_cons' el es] at h
        rw [show m + 1 + k = (m + k) + 1 by omega, runE_cons' el es]
        exact runE_more h hl k
      | no i =>
        unfold runE at h
        rw [el] at h
        dsimp only at h
        rw [es] at h
        cases h
      | bad =>
        unfold runE at h
        rw [el] at h
        dsimp only at h
        rw [es] at h
        cases h
theorem sim {bs : List (List Stm)} (hbs : ∀ b ∈ bs, b.length ≤ 8 ∧ cntB b ≤ 12 ∧ okB bs.length b 0) : ∀ (n : Nat) (L : LSt) (e : ESt) (i : Nat), RelL bs L e → InvL bs i L → L.taken ≤ L.bits.length → ∀ s, runL bs n L = .fin s → s.todo = [] → ∃ m e', m ≤ n ∧ runE bs s.bits m e = .go e' ∧ RelL bs s e' := by
  intro n
  induction n using Nat.strongRecOn with
  | ind n ih =>
    intro L e i R I ht s h hs
    have done : L.todo = [] → L = s → ∃ m e', m ≤ n ∧ runE bs s.bits m e = .go e' ∧ RelL bs s e' := fun h1 h2 => by
      subst h2
      exact ⟨0, e, Nat.zero_le _, runE_done' (by rw [R.lf, h1]; rfl) 0, R⟩
    cases n with
    | zero =>
      have h : LRes.fin L = .fin s := h
      injection h with h
      exact done (by rw [h]; exact hs) h
    | succ n =>
      cases et : L.todo with
      | nil =>
        unfold runL at h
        rw [et] at h
        dsimp only at h
        injection h with h
        exact done et h
      | cons x r =>
        unfold runL at h
        rw [et] at h
        dsimp only at h
        cases ek : taskL bs x { L with todo := r } with
        | none =>
          rw [ek] at h
          dsimp only at h
          split at h <;> cases h
        | some res =>
          obtain ⟨blk, L'⟩ := res
          rw [ek] at h
          dsimp only at h
          obtain ⟨p1, p2⟩ := task_pre ek ht
          have I2 := inv_step hbs I et ek
          have el : e.left = thOf x :: r.map thOf := by rw [R.lf, et]; rfl
          by_cases hf : ∃ w, x = .st (.fin w)
          · obtain ⟨w, rfl⟩ := hf
            have ek2 : (cutO r L.deeds).map _ = some (blk, L') := ek
            rw [Option.map_eq_some_iff] at ek2
            obtain ⟨⟨⟨p, sv, a, b⟩, r', ds'⟩, hcut, eq⟩ := ek2
            have e1 := congrArg Prod.fst eq
            have e2 := congrArg Prod.snd eq
            dsimp only at e1 e2
            subst e2
            subst e1
            obtain ⟨pre, w1, er, npre, eds⟩ := cutO_is hcut
            cases n with
            | zero =>
              have h : LRes.fin _ = .fin s := h
              injection h with h
              rw [← h] at hs
              cases hs
            | succ n =>
              unfold runL at h
              have h : runL bs n { L with opens := L.opens.dropLast, way := wayN w, deeds := ds' ++ backIf sv, todo := (if w then b else a).map LTh.st ++ r' } = .fin s := h
              have okO : LTh.okM bs.length (.out p sv a b w1) := I.ok _ (by rw [et, er]; simp)
              obtain ⟨l, hz, _⟩ := okO
              have op := R.op
              rw [et, er] at op
              have op2 : L.opens.map (·.1) = (p :: outsP r').reverse := by
                rw [op]
                have e1 : outsP (LTh.st (.fin w) :: (pre ++ LTh.out p sv a b w1 :: r')) = outsP pre ++ p :: outsP r' := by
                  show outsP (pre ++ LTh.out p sv a b w1 :: r') = _
                  rw [outsP_app]
                  rfl
                have e2 : outsP pre = [] := by
                  unfold outsP
                  rw [List.filterMap_eq_nil_iff]
                  intro y hy
                  have := npre y hy
                  cases y with
                  | out => cases this
                  | _ => rfl
                rw [e1, e2, List.nil_append]
              obtain ⟨e', h1, h2⟩ := leave_rel (r := r') (ds := ds') (a := a) (b := b) (sv := sv) w R.tk R.bl R.bg hz.2.1 op2 R.asc R.le (fun y hy => R.of y (by rw [et, er]; simp [hy]))
              have hst : stepE bs s.bits (thOf (.st (.fin w))) { e with left := r.map thOf } = .go e' := by
                show unwindE w { e with left := r.map thOf } = _
                unfold unwindE
                dsimp only
                rw [R.dd, unw_cut hcut]
                exact h1
              have I3 := inv_step hbs I2 (x := .out p sv a b w) (r := r') rfl rfl
              obtain ⟨m, e2, hm, hr, hR⟩ := ih n (by omega) _ e' _ h2 I3 ht s h hs
              exact ⟨m + 1, e2, by omega, by rw [runE_cons' el hst]; exact hr, hR⟩
          · have pre := p1.trans (show L'.bits <+: L'.bits from ⟨[], by simp⟩)
            have pre2 : L'.bits <+: s.bits := run_pre (L := { L' with todo := blk ++ L'.todo }) h p2
            obtain ⟨e', h1, h2⟩ := step_rel R et ht (I.ok x (by rw [et]; exact List.mem_cons_self)) (fun w hw => hf ⟨w, hw⟩) ek pre2
            obtain ⟨m, e2, hm, hr, hR⟩ := ih n (by omega) _ e' _ h2 I2 p2 s h hs
            exact ⟨m + 1, e2, by omega, by rw [runE_cons' el h1]; exact hr, hR⟩
def initE' (bs : List (List Stm)) : ESt := ⟨0, [], bs.map fun _ => [], [], 0⟩
def startE' (p : Nat) (s : ESt) : ESt := { s with left := [.st (.call p false [] [])] }
theorem rel_init (bs : List (List Stm)) (p ex : Nat) (bits : List Bool) : RelL bs (initL p bits ex) (startE' p (initE' bs)) := by
  refine ⟨rfl, rfl, rfl, rfl, ?_, fun q hq => ?_, rfl, .nil, (fun o ho => by cases ho), fun x hx => ?_⟩
  · show (bs.map _).length = _
    rw [List.length_map]
  · show (bs.map fun _ => ([] : List Nat))[q]? = some (begN [] q)
    rw [List.getElem?_map, List.getElem?_eq_getElem hq]
    rfl
  · have hx : x ∈ [LTh.st (.call p false [] [])] := hx
    rw [List.mem_singleton.mp hx]
    trivial

--SPLIT
/-! ### holds and backs are balanced, and all commands are good -/
def shutW : LTh → Nat
  | .shut => 1
  | .out _ sv _ _ _ => if sv then 1 else 0
  | _ => 0
def shutN (td : List LTh) : Nat := (td.map shutW).sum
theorem shutN_app (a b : List LTh) : shutN (a ++ b) = shutN a + shutN b := by
  unfold shutN
  rw [List.map_append, List.sum_append]
theorem shutN_st (b : List Stm) : shutN (b.map LTh.st) = 0 := by
  induction b with
  | nil => rfl
  | cons z r ih =>
    show shutN ([LTh.st z] ++ r.map LTh.st) = 0
    rw [shutN_app, ih]
    rfl
theorem dep_app (xs ys : List Dd) (n : Nat) : depD (xs ++ ys) n = (depD xs n).bind (depD ys) := depD_append xs ys n
theorem dep_backs : ∀ (k n : Nat), depD (List.replicate k Dd.back) (n + k) = some n
  | 0, n => rfl
  | k + 1, n => by
    rw [List.replicate_succ, show n + (k + 1) = (n + k) + 1 by omega]
    exact dep_backs k n
structure DepL (L : LSt) : Prop where
  dep : depD L.deeds 0 = some (shutN L.todo)
  ok : ∀ d ∈ L.deeds, d.ok
theorem backs_map (pre : List LTh) : (pre.filter LTh.isShut).map (fun _ => Dd.back) = List.replicate (pre.filter LTh.isShut).length Dd.back := by
  rw [List.map_const']
theorem shut_pre : ∀ {pre : List LTh}, (∀ x ∈ pre, x.isOut = false) → shutN pre = (pre.filter LTh.isShut).length
  | [], _ => rfl
  | x :: r, h => by
    have ih := shut_pre (pre := r) fun y hy => h y (List.mem_cons_of_mem _ hy)
    show shutN ([x] ++ r) = _
    rw [shutN_app, ih]
    cases x with
    | shut => rw [List.filter_cons_of_pos rfl, List.length_cons]; show 1 + _ = _; omega
    | st z => rw [List.filter_cons_of_neg (by exact Bool.false_ne_true)]; show 0 + _ = _; omega
    | out => exact absurd (h _ List.mem_cons_self) (by simp [LTh.isOut])
theorem dep_step {bs : List (List Stm)} {L L' : LSt} {x : LTh} {r blk : List LTh} (D : DepL L) (et : L.todo = x :: r) (hx : x.okM bs.length) (h : taskL bs x { L with todo := r } = some (blk, L')) : DepL { L' with todo := blk ++ L'.todo } := by
  have d1 := D.dep
  have d2 := D.ok
  rw [et] at d1
  have dx : shutN (x :: r) = shutW x + shutN r := by
    show shutN ([x] ++ r) = _
    rw [shutN_app]
    rfl
  rw [dx] at d1
  -- deeds that grow by ds
  have mk : ∀ {ds : List Dd} {td : List LTh} {B : List Bool} {ex tk : Nat} {w : Int} {os : List (Nat × Nat)}, depD ds (shutW x + shutN r) = some (shutN td) → (∀ d ∈ ds, d.ok) → DepL ⟨B, ex, tk, w, L.deeds ++ ds, os, td⟩ := fun {ds td B ex tk w os} h1 h2 =>
    ⟨by show depD (L.deeds ++ ds) 0 = _; rw [dep_app, d1]; exact h1, fun d hd => (List.mem_append.mp hd).elim (d2 d) (h2 d)⟩
  have same : ∀ {td : List LTh} {B : List Bool} {ex tk : Nat} {w : Int} {os : List (Nat × Nat)}, shutN td = shutW x + shutN r → DepL ⟨B, ex, tk, w, L.deeds, os, td⟩ := fun {td B ex tk w os} h1 => ⟨by show depD L.deeds 0 = _; rw [d1, h1], d2⟩
  cases x with
  | shut =>
    have h := Option.some.inj h
    cases h
    refine mk (ds := [.back]) ?_ (fun d hd => by rw [List.mem_singleton.mp hd]; trivial)
    show depD [Dd.back] (1 + shutN r) = some (shutN r)
    rw [Nat.add_comm]
    rfl
  | out p sv a b w =>
    have h := Option.some.inj h
    cases h
    refine mk (ds := backIf sv) ?_ (fun d hd => ?_)
    · show depD (backIf sv) ((if sv then 1 else 0) + shutN r) = some (shutN ((if w then b else a).map LTh.st ++ r))
      rw [shutN_app, shutN_st, Nat.zero_add]
      cases sv
      · show some _ = _
        rw [show (if false = true then 1 else 0) + shutN r = shutN r by simp]
      · show depD [Dd.back] (1 + shutN r) = _
        rw [Nat.add_comm]
        rfl
    · cases sv
      · cases hd
      · rw [List.mem_singleton.mp hd]; trivial
  | st z =>
    have zx : shutW (.st z) = 0 := rfl
    cases z with
    | cmd c =>
      have h := Option.some.inj h
      cases h
      obtain ⟨l, hz, _⟩ := hx
      refine mk (ds := [.cmd c]) ?_ (fun d hd => by rw [List.mem_singleton.mp hd]; exact hz)
      show some (0 + shutN r) = some (shutN r)
      rw [Nat.zero_add]
    | keep b =>
      have h := Option.some.inj h
      cases h
      refine mk (ds := [.hold]) ?_ (fun d hd => by rw [List.mem_singleton.mp hd]; trivial)
      show some (0 + shutN r + 1) = some (shutN ((b.map LTh.st ++ [.shut]) ++ r))
      rw [shutN_app, shutN_app, shutN_st]
      show some (0 + shutN r + 1) = some (0 + 1 + shutN r)
      congr 1
      omega
    | again b =>
      have h : (bitL (.again b) { L with todo := r }).map _ = some (blk, L') := h
      rw [Option.map_eq_some_iff] at h
      obtain ⟨⟨w, s2⟩, hb, eq⟩ := h
      obtain ⟨j1, j2, j3, j4, j5⟩ := bitL_sz hb
      have e1 := congrArg Prod.fst eq
      have e2 := congrArg Prod.snd eq
      dsimp only at e1 e2
      subst e2
      subst e1
      obtain ⟨a1, a2, a3, a4, a5, a6, a7⟩ := s2
      dsimp only at j2 j3
      subst j2 j3
      refine same ?_
      cases w
      · show shutN ([] ++ a7) = 0 + shutN a7
        rw [shutN_app]; rfl
      · show shutN ((b.map LTh.st ++ [.st (.again b)]) ++ a7) = 0 + shutN a7
        rw [shutN_app, shutN_app, shutN_st]; rfl
    | either a b =>
      have h : (bitL (.either a b) { L with todo := r }).map _ = some (blk, L') := h
      rw [Option.map_eq_some_iff] at h
      obtain ⟨⟨w, s2⟩, hb, eq⟩ := h
      obtain ⟨j1, j2, j3, j4, j5⟩ := bitL_sz hb
      have e1 := congrArg Prod.fst eq
      have e2 := congrArg Prod.snd eq
      dsimp only at e1 e2
      subst e2
      subst e1
      obtain ⟨a1, a2, a3, a4, a5, a6, a7⟩ := s2
      dsimp only at j2 j3
      subst j2 j3
      refine same ?_
      show shutN ((if w then b else a).map LTh.st ++ a7) = 0 + shutN a7
      rw [shutN_app, shutN_st]
    | fin w =>
      have h : (cutO r L.deeds).map _ = some (blk, L') := h
      rw [Option.map_eq_some_iff] at h
      obtain ⟨⟨⟨p, sv, a, b⟩, r', ds'⟩, hcut, eq⟩ := h
      obtain ⟨pre, w1, er, npre, eds⟩ := cutO_is hcut
      have e1 := congrArg Prod.fst eq
      have e2 := congrArg Prod.snd eq
      dsimp only at e1 e2
      subst e2
      subst e1
      rw [eds]
      refine mk ?_ (fun d hd => ?_)
      · show depD _ (0 + shutN r) = some (shutN ([LTh.out p sv a b w] ++ r'))
        rw [backs_map, er, shutN_app, shut_pre npre]
        have e1 : shutN (LTh.out p sv a b w1 :: r') = shutN ([LTh.out p sv a b w] ++ r') := by
          show shutN ([LTh.out p sv a b w1] ++ r') = _
          rw [shutN_app, shutN_app]
          rfl
        rw [e1, show 0 + ((pre.filter LTh.isShut).length + shutN ([LTh.out p sv a b w] ++ r')) = shutN ([LTh.out p sv a b w] ++ r') + (pre.filter LTh.isShut).length by omega]
        exact dep_backs _ _
      · obtain ⟨_, _, rfl⟩ := List.mem_map.mp hd
        trivial
    | call p sv a b =>
      have h : (if (p, L.taken) ∈ L.opens then none else some _) = some (blk, L') := h
      split at h
      · cases h
      · have h := Option.some.inj h
        have e1 := congrArg Prod.fst h
        have e2 := congrArg Prod.snd h
        dsimp only at e1 e2
        subst e2
        subst e1
        refine mk (ds := holdIf sv) ?_ (fun d hd => ?_)
        · show depD (holdIf sv) (0 + shutN r) = some (shutN (((bs.getD p []).map LTh.st ++ [LTh.out p sv a b false]) ++ r))
          rw [shutN_app, shutN_app, shutN_st, Nat.zero_add, Nat.zero_add]
          cases sv
          · show some (shutN r) = some (0 + shutN r)
            rw [Nat.zero_add]
          · show some (shutN r + 1) = some (1 + shutN r)
            rw [Nat.add_comm]
        · cases sv
          · cases hd
          · rw [List.mem_singleton.mp hd]; trivial
theorem dep_run {bs : List (List Stm)} (hbs : ∀ b ∈ bs, b.length ≤ 8 ∧ cntB b ≤ 12 ∧ okB bs.length b 0) : ∀ {n : Nat} {L s : LSt} {i : Nat}, InvL bs i L → DepL L → runL bs n L = .fin s → DepL s ∧ InvL bs (i + n) s
  | 0, L, s, i, I, D, h => by
    have h : LRes.fin L = .fin s := h
    injection h with h
    subst h
    exact ⟨D, I⟩
  | n + 1, L, s, i, I, D, h => by
    unfold runL at h
    cases e : L.todo with
    | nil =>
      rw [e] at h
      dsimp only at h
      injection h with h
      subst h
      exact ⟨D, ⟨I.ok, by have := I.bits; omega, by have := I.todo; omega, by have := I.opens; omega, I.cnt, I.last⟩⟩
    | cons x r =>
      rw [e] at h
      dsimp only at h
      cases et : taskL bs x { L with todo := r } with
      | none =>
        rw [et] at h
        dsimp only at h
        split at h <;> cases h
      | some res =>
        obtain ⟨blk, s'⟩ := res
        rw [et] at h
        dsimp only at h
        have := dep_run hbs (inv_step hbs I e et) (dep_step D e (I.ok x (by rw [e]; exact List.mem_cons_self)) et) h
        rw [show i + 1 + n = i + (n + 1) by omega] at this
        exact this

--SPLIT
/-! ### the law's bits, and its steered runs -/
theorem bit_of {r : Int} (h0 : 0 ≤ r) (h2 : r < 2) : ∃ b : Bool, V.int r = bitV b := by
  have : r = 0 ∨ r = 1 := by omega
  rcases this with rfl | rfl
  · exact ⟨false, rfl⟩
  · exact ⟨true, rfl⟩
def sp__law_bits (K : PySem.W.Frag) : Sp := fun vs H Q _ => ∃ (p : Addr) (L : Nat) (m : Int), vs = [.ref p, .int m] ∧ Pool H p L ∧ 2 ≤ L ∧ L ≤ 64 ∧ 0 ≤ m ∧ m ≤ 90 ∧
  ∀ (q : Addr) (bits : List Bool) (H' : Hp), bits.length ≤ 100 → Kp p H H' → Pool H' p L → H q = none → H' q = some (.lst (bits.map bitV)) → Q (.ref q) H'
theorem ok__law_bits (T : Top w K mg) : FnOk P w K mg base CX0 2 T.a__law_bits T.d__law_bits ["_law_pool_here", "_law_many"] (sp__law_bits K) := by
  refine T.F__law_bits.ok sc__law_bits (fun vs H Q E h => ?_) (fun cdv A outer s H vs Q E hr h => ?_)
  · obtain ⟨p, L, m, rfl, _⟩ := h
    rfl
  · obtain ⟨p, L, m, rfl, pl, h2, h64, m0, m1, q⟩ := h
    refine ⟨_, (pss_one (ps_ret (pe_lc (own := [("_law_k", 2)]) (g := (gName 2)) (tt := tYes) rfl sc__law_bits.nd (pi_range1 (by rfl) T.z_range (pa_cons (pe_call (ok__law_draw T) hr (by rfl) T.g__law_draw T.F__law_draw.kp (b__law_draw T) .nil pass0 (pa_cons (pv 0) (pa_cons (pe_op op_add (pv 1) pe_int) pa_nil))) pa_nil)) (blkOk_by (N := N__law_bits) (sc := defScope s__law_bits) (by decide +kernel)) (fun _ _ _ _ _ => (pg_name (i := 2) sc__law_bits.nd rfl (Or.inl rfl))) (fun _ _ _ _ _ => pts_nil) (fun _ _ _ _ _ => (pe_call (ok__law_draw T) hr (by rfl) T.g__law_draw T.F__law_draw.kp (b__law_draw T) .nil pass0 (pa_cons (pv 0) (pa_cons pe_int pa_nil))))))), ?_⟩
    refine ⟨_, rfl, _, rfl, _, _, rfl, rfl, p, L, m + 1, rfl, pl, h2, h64, by omega, by omega, fun k H1 k0 k1 e1 pl1 => ?_⟩
    refine ⟨k, rfl, by omega, by omega, fun D nD => ?_⟩
    have nDp : D ≠ p := pl1.ne nD
    refine lc_range (n := k.toNat) (fun i H' => ∃ bits : List Bool, bits.length = i ∧ Kp p H H' ∧ Pool H' p L ∧ H' D = some (.lst (bits.map bitV))) ⟨[], rfl, e1.new (e1.none nD nDp), pl1.new nD, upd_same⟩ (fun i H' hi h => ?_) (fun H' h => ?_)
    · obtain ⟨bits, hl, e2, pl2, hD⟩ := h
      refine ⟨rfl, _, rfl, p, L, 2, rfl, pl2, h2, h64, by decide, by decide, fun r J r0 r2 e3 pl3 => ?_⟩
      obtain ⟨b, hb⟩ := bit_of r0 r2
      rw [hb]
      have hD3 := e3 _ _ nDp hD
      refine ⟨_, hD3, by rw [List.length_map]; exact small1000 (by omega), bits ++ [b], by rw [List.length_append, hl]; rfl, (e2.trans e3).new (e1.none nD nDp), pl3.keep nDp, ?_⟩
      rw [upd_same, List.map_append]
      rfl
    · obtain ⟨bits, hl, e2, pl2, hD⟩ := h
      exact q D bits H' (by omega) e2 pl2 (e1.none nD nDp) hD

/-- new by an earlier heap -/
theorem ToldL.back {S : Addr → Prop} {H0 H1 H : Hp} {q : Addr} {r : Str × Int × List Dd × List Bool} (t : ToldL S H1 H q r) (b : ∀ x, H1 x = none → H0 x = none) : ToldL S H0 H q r := by
  obtain ⟨aD, aB, ds, h1, h2, h3, h4, f1, f2⟩ := t.ex
  exact ⟨aD, aB, ds, h1, h2, h3, h4, b _ f1, b _ f2⟩
theorem ToldL.same {S : Addr → Prop} {H0 H H' : Hp} {q : Addr} {r : Str × Int × List Dd × List Bool} (t : ToldL S H0 H q r) (s : Same H H') : ToldL S H0 H' q r := by
  obtain ⟨aD, aB, ds, h1, h2, h3, h4, f1, f2⟩ := t.ex
  exact ⟨aD, aB, ds, s _ _ h1, s _ _ h2, h3.same s, s _ _ h4, f1, f2⟩
/-- what an earlier pool was at is none of the lists told -/
theorem ToldL.kp {S : Addr → Prop} {H0 H H' : Hp} {p q : Addr} {L : Nat} {r : Str × Int × List Dd × List Bool} (t : ToldL S H0 H q r) (k : Kp p H H') (pl : Pool H0 p L) (pl' : Pool H p L) (nq : H0 q = none) : ToldL S H0 H' q r := by
  obtain ⟨aD, aB, ds, h1, h2, h3, h4, f1, f2⟩ := t.ex
  obtain ⟨n1, hp1, _⟩ := pl'
  exact ⟨aD, aB, ds, k _ _ (pl.ne nq) h1, k _ _ (pl.ne f1) h2, TrAll.kpl (KpL.kp (M := fun a => a = p) k rfl ⟨_, hp1⟩) (fun _ hs => hs.elim) _ _ h3, k _ _ (pl.ne f2) h4, f1, f2⟩
theorem tell_rest {x : LRes} (h : (tellL x).1 = "rest") : ∃ n : Nat, (tellL x).2.1 = n := by
  cases x with
  | never s => exact absurd h (by simp only [tellL]; decide)
  | short s => exact absurd h (by simp only [tellL]; decide)
  | fin s =>
    unfold tellL at h ⊢
    dsimp only at h ⊢
    by_cases h1 : s.todo ≠ []
    · rw [if_pos h1] at h
      exact absurd h (by decide)
    · rw [if_neg h1] at h ⊢
      by_cases h2 : s.taken < s.bits.length
      · rw [if_pos h2]
        exact ⟨s.taken, rfl⟩
      · rw [if_neg h2] at h
        exact absurd h (show ¬ (("run" : Str) = "rest") by decide)
def sp__law_steered (K : PySem.W.Frag) : Sp := fun vs H Q _ => ∃ (S : Addr → Prop) (p aY : Addr) (L : Nat) (bs : List (List Stm)) (pr ex : Nat) (m : Int), vs = [.ref p, .ref aY, .int pr, .int m, .int ex] ∧ Pool H p L ∧ 2 ≤ L ∧ L ≤ 64 ∧ 0 ≤ m ∧ m ≤ 90 ∧ Tr S H (bookD bs) (.ref aY) ∧ ¬ S p ∧ OkBook bs ∧ pr < bs.length ∧
  ∀ (q : Addr) (bits : List Bool) (H' : Hp), bits.length ≤ 100 → Kp p H H' → Pool H' p L → H q = none → ToldL S H H' q (tellL (runL bs 3000 (initL pr bits ex))) → Q (.ref q) H'
theorem ok__law_steered (T : Top w K mg) : FnG P w K mg base CX0 4 T.a__law_steered T.d__law_steered ["_law_pool_here", "_law_bodies", "_law_procedure", "_law_many", "_law_extra"] (sp__law_steered K) := by
  refine fun_okG T.F__law_steered sc__law_steered (fun vs H Q E h => ?_) (fun cdv A1 outer sh H vs Q E hgd hr h => ?_)
  · obtain ⟨S, p, aY, L, bs, pr, ex, m, rfl, _⟩ := h
    rfl
  · obtain ⟨S, p, aY, L, bs, pr, ex, m, rfl, pl, h2, h64, m0, m1, tb, nSp, ob, hp, q⟩ := h
    refine ⟨_, (pss_cons (ps_set (i := 5) sc__law_steered.nd rfl (Or.inl rfl) (pe_call (ok__law_bits T) (hr.mono (by decide)) (by rfl) T.g__law_bits T.F__law_bits.kp (b__law_bits T) .nil pass0 (pa_cons (pv 0) (pa_cons (pv 3) pa_nil))))
      (pss_cons (ps_set (i := 6) sc__law_steered.nd rfl (Or.inl rfl) (pe_callG hgd (ok__law_run T) hr (by rfl) T.g__law_run T.F__law_run.kp (b__law_run T) (pa_cons (pv 1) (pa_cons (pv 2) (pa_cons (pv 5) (pa_cons (pv 4) pa_nil))))))
      (pss_cons (ps_if (pt_cmpR op_eq (pe_ix (k_ixT K) (pv 6) pe_int (fun _ _ => rfl)) pe_str (nomark _)) (pss_cons (ps_set (i := 5) sc__law_steered.nd rfl (Or.inl rfl) (pe_slice (k_slL K) (pv 5) po_none (po_some (pe_ix (k_ixT K) (pv 6) pe_int (fun _ _ => rfl)))))
        (pss_one (ps_set (i := 6) sc__law_steered.nd rfl (Or.inl rfl) (pe_callG hgd (ok__law_run T) hr (by rfl) T.g__law_run T.F__law_run.kp (b__law_run T) (pa_cons (pv 1) (pa_cons (pv 2) (pa_cons (pv 5) (pa_cons (pv 4) pa_nil)))))))) pss_nil)
      (pss_one (ps_ret (pv 6)))))), ?_⟩
    refine ⟨_, rfl, _, rfl, p, L, m, rfl, pl, h2, h64, m0, m1, fun qb bits H1 hbl k1 pl1 nqb hqb => ?_⟩
    have tb1 : Tr S H1 (bookD bs) (.ref aY) := by
      obtain ⟨n1, hp1, _⟩ := pl
      exact Tr.kpl (KpL.kp (M := fun a => a = p) k1 rfl ⟨_, hp1⟩) (fun a hs e => nSp (by rw [← e]; exact hs)) _ _ tb
    have body : ∀ {J : Hp}, Tr S J (bookD bs) (.ref aY) → ∃ ys, J aY = some (.lst ys) ∧ TrAll S J (bs.map bD) ys := fun t => by
      obtain ⟨a, ys, e, _, h, t⟩ := t
      cases e
      exact ⟨ys, h, t⟩
    refine ⟨_, rfl, _, rfl, _, rfl, _, rfl, S, aY, qb, bs, bits, pr, ex, rfl, body tb1, ob.hi, ob.each, hp, hqb, hbl, fun f H2 s2 nf told => ?_⟩
    have k2 := k1.trans (Kp.of s2)
    have pl2 : Pool H2 p L := by
      obtain ⟨n1, hp1, l1⟩ := pl1
      exact ⟨n1, s2 _ _ hp1, l1⟩
    obtain ⟨aD, aB, ds, hf, hD, tD, hB, frD, frB⟩ := told.ex
    have nfH : H f = none := by
      have nfp : f ≠ p := pl1.ne nf
      exact k1.none nf nfp
    refine ⟨_, rfl, f, _, 0, _, rfl, rfl, SqT.of hf, atI_nat (j := 0) rfl, rfl, _, rfl, ?_⟩
    by_cases hw : (tellL (runL bs 3000 (initL pr bits ex))).1 = "rest"
    · refine iteP (congrArg V.str hw) ?_
      obtain ⟨n, hn⟩ := tell_rest hw
      refine ⟨_, rfl, _, rfl, f, _, 1, _, rfl, rfl, SqT.of hf, atI_nat (j := 1) rfl, _, rfl, qb, _, rfl, SqL.of (s2 _ _ hqb), fun u nu => ?_⟩
      rw [hn, cut_to, ← List.map_take]
      have s3 := same_upd (o := .lst ((bits.take n).map bitV)) nu
      have hu : (upd H2 u (.lst ((bits.take n).map bitV))) u = some (.lst ((bits.take n).map bitV)) := upd_same
      generalize upd H2 u _ = H3 at *
      have tb3 := (tb1.same s2).same s3
      have lt : (bits.take n).length ≤ 100 := by rw [List.length_take]; omega
      refine ⟨_, rfl, _, rfl, _, rfl, _, rfl, S, aY, u, bs, bits.take n, pr, ex, rfl, body tb3, ob.hi, ob.each, hp, hu, lt, fun f2 H4 s4 nf2 told2 => ?_⟩
      refine ⟨_, rfl, ?_⟩
      have k4 := k2.trans (Kp.of (s3.trans s4))
      have pl4 : Pool H4 p L := by
        obtain ⟨n1, hp1, l1⟩ := pl2
        exact ⟨n1, (s3.trans s4) _ _ hp1, l1⟩
      refine q f2 (bits.take n) H4 lt k4 pl4 ?_ (told2.back fun x nx => k2.none (s3.free nx) (pl2.ne (s3.free nx)))
      have n2 : H2 f2 = none := s3.free nf2
      exact k2.none n2 (pl2.ne n2)
    · refine iteN (fun h => hw (V.str.inj h)) ?_
      exact ⟨_, rfl, q f bits H2 hbl k2 pl2 nfH (told.back fun x nx => k1.none nx (pl1.ne nx))⟩


--SPLIT
/-! ### the law's pens, with holds -/
def penT (H : Hp) (q : List Int) (v : V) : Prop := ∃ c : Addr, v = .ref c ∧ H c = some (.tup (q.map V.int))
theorem penT.put {H : Hp} {a : Addr} {ys zs : List V} (ha : H a = some (.lst ys)) (q : List Int) (v : V) : penT H q v → penT (upd H a (.lst zs)) q v := fun ⟨c, e, h⟩ => ⟨c, e, by rw [upd_ne (fun z => by rw [z, ha] at h; cases h)]; exact h⟩
theorem penT.same {H H' : Hp} (s : Same H H') (q : List Int) (v : V) : penT H q v → penT H' q v := fun ⟨c, e, h⟩ => ⟨c, e, s _ _ h⟩
theorem ld_word {S : Addr → Prop} {H : Hp} : ∀ {x : Dd} {v : V}, Tr S H x.ld v → ∃ t us, v = .ref t ∧ H t = some (.tup (.str (match x with | .cmd c => c.word | .hold => "hold" | .back => "shut") :: us))
  | .cmd c, v, t => by
    obtain ⟨a, xs, e, h, x0, us, e2, h0, _⟩ := t
    have h0 : x0 = .str c.word := h0
    subst e2 h0
    exact ⟨a, us, e, h⟩
  | .hold, v, ⟨a, xs, e, h, x0, us, e2, h0, _⟩ => by
    have h0 : x0 = .str "hold" := h0
    subst e2 h0
    exact ⟨a, us, e, h⟩
  | .back, v, ⟨a, xs, e, h, x0, us, e2, h0, _⟩ => by
    have h0 : x0 = .str "shut" := h0
    subst e2 h0
    exact ⟨a, us, e, h⟩
theorem cm_wordH (c : Cm) : ¬ c.word = "hold" ∧ ¬ c.word = "shut" := by
  cases c <;> (simp only [Cm.word]; decide)
theorem ld_wd {S : Addr → Prop} {H : Hp} {x : Dd} {v : V} (h : Tr S H x.ld v) : ∃ (t : Addr) (us : List V) (wd : Str), v = .ref t ∧ H t = some (.tup (.str wd :: us)) ∧ (x.isC = false → wd = "hold" ∨ wd = "shut") ∧ (x.isC = true → ¬ wd = "hold" ∧ ¬ wd = "shut") := by
  obtain ⟨t, us, e, ht⟩ := ld_word h
  cases x with
  | cmd c => exact ⟨t, us, _, e, ht, fun h => (nomatch h), fun _ => cm_wordH c⟩
  | hold => exact ⟨t, us, _, e, ht, fun _ => .inl rfl, fun h => (nomatch h)⟩
  | back => exact ⟨t, us, _, e, ht, fun _ => .inr rfl, fun h => (nomatch h)⟩
def sp__law_pens (K : PySem.W.Frag) : Sp := fun vs H Q _ => ∃ (d b : Addr) (dsv : List V) (ds : List Dd) (ps : List Int), vs = [.ref d, .ref b] ∧ H d = some (.lst dsv) ∧ TrAll (fun _ => False) H (ds.map Dd.ld) dsv ∧ ds.length ≤ 100000 ∧ (∀ d ∈ ds, d.ok) ∧ (∃ k, depD ds 0 = some k) ∧ H b = some (.tup (ps.map V.int)) ∧ ps.length = 6 ∧
  ∀ (q : Addr) (x : V) (b' : Addr) (H' : Hp), Same H H' → H q = none → H' q = some (.lst [x, .ref b']) → H' b' = some (.tup ((penEnd ds ps).map V.int)) → Q (.ref q) H'
theorem ok__law_pens (T : Top w K mg) : FnOk P w K mg base CX0 2 T.a__law_pens T.d__law_pens ["_law_deeds", "_law_begin"] (sp__law_pens K) := by
  refine T.F__law_pens.ok sc__law_pens (fun vs H Q E h => ?_) (fun cdv A outer s H vs Q E hr h => ?_)
  · obtain ⟨d, b, dsv, ds, ps, rfl, _⟩ := h
    rfl
  · obtain ⟨d, b, dsv, ds, ps, rfl, hd, tD, hlen, hok, ⟨kd, hdep⟩, hb, hl, q⟩ := h
    refine ⟨_, (pss_cons (ps_set (i := 2) sc__law_pens.nd rfl (Or.inl rfl) (pe_lst pa_nil))
      (pss_cons (ps_set (i := 3) sc__law_pens.nd rfl (Or.inl rfl) (pe_lst pa_nil))
      (pss_cons (ps_for PassesOwn.never rfl (k_piL K (pv 0)) (pg_name (i := 4) sc__law_pens.nd rfl (Or.inl rfl)) (pss_one (ps_if (pt_cmpR op_eq (pe_ix (k_ixT K) (pv 4) pe_int (fun _ _ => rfl)) pe_str (nomark _)) (pss_one (ps_expr (pe_bm PySem.F.plainAttrs_list PySem.F.slot_list_append PySem.F.type_list_append mt_append (pv 3) (pa_cons (pv 1) pa_nil)))) (pss_one (ps_if (pt_cmpR op_eq (pe_ix (k_ixT K) (pv 4) pe_int (fun _ _ => rfl)) pe_str (nomark _)) (pss_one (ps_set (i := 1) sc__law_pens.nd rfl (Or.inl rfl) (pe_op op_catT (pe_slice (k_slT K) (pe_bm0 PySem.F.plainAttrs_list PySem.F.slot_list_pop PySem.F.type_list_pop mt_pop (pv 3)) po_none (po_some pe_int)) (pe_slice (k_slT K) (pv 1) (po_some pe_int) po_none)))) (pss_cons (ps_set (i := 1) sc__law_pens.nd rfl (Or.inl rfl) (pe_call (ok__law_move T) hr (by rfl) T.g__law_move T.F__law_move.kp (b__law_move T) .nil pass0 (pa_cons (pv 1) (pa_cons (pv 4) pa_nil))))
            (pss_one (ps_expr (pe_bm PySem.F.plainAttrs_list PySem.F.slot_list_append PySem.F.type_list_append mt_append (pv 2) (pa_cons (pv 1) pa_nil))))))))))
      (pss_one (ps_ret (pe_lst (pa_cons (pv 2) (pa_cons (pv 1) pa_nil)))))))), ?_⟩
    have lv := tD.len
    rw [List.length_map] at lv
    refine ⟨Nat.zero_le _, fun A1 n1 => ?_⟩
    have s1 := same_upd (o := .lst []) n1
    have h1 : (upd H A1 (.lst [])) A1 = some (.lst []) := upd_same
    generalize upd H A1 (.lst []) = H1 at *
    refine ⟨Nat.zero_le _, fun A2 n2 => ?_⟩
    have s2 := same_upd (o := .lst []) n2
    have h2 : (upd H1 A2 (.lst [])) A2 = some (.lst []) := upd_same
    have n21 : A2 ≠ A1 := Ne.symm (ne_of_none h1 n2)
    have h1 := s2 _ _ h1
    have s02 := s1.trans s2
    have n2H : H A2 = none := s1.free n2
    generalize upd H1 A2 (.lst []) = H2 at *
    refine ⟨_, rfl, d, rfl, ⟨_, SqL.of (s02 _ _ hd)⟩, for_list (xs := dsv) (fun i σ H' => ∃ (b' : Addr) (z : List (List Int) × List Int) (zs hvs : List V) (y : Option V), σ = [some (.ref d), some (.ref b'), some (.ref A1), some (.ref A2), y] ∧ Same H H' ∧ H' A1 = some (.lst zs) ∧ zs.length ≤ i ∧ H' A2 = some (.lst hvs) ∧ penFold (ds.take i) ([], ps) = z ∧ H' b' = some (.tup (z.2.map V.int)) ∧ AllR (penT H') z.1.reverse hvs) ?_ (fun i σ H' hi h => ?_) (fun i x σ H' hx h => ?_) (fun σ H' h => ?_)⟩
    · exact ⟨b, ([], ps), [], [], none, rfl, s02, h1, Nat.le_refl _, h2, rfl, s02 _ _ hb, rfl⟩
    · obtain ⟨_, _, _, _, _, _, sm, _⟩ := h
      exact SqL.of (sm _ _ hd)
    · obtain ⟨b', ⟨hs, cur⟩, zs, hvs, y, rfl, sm, hz, lz, hh, hf, hb', hr2⟩ := h
      obtain ⟨dd, hdd, tx⟩ := tD.get hx
      rw [List.getElem?_map] at hdd
      cases hD : ds[i]? with
      | none => rw [hD] at hdd; cases hdd
      | some dx =>
        rw [hD] at hdd
        have hdd : dx.ld = dd := Option.some.inj hdd
        subst hdd
        have hi := (List.getElem?_eq_some_iff.mp hD).1
        have tx := tx.same sm
        have es := penFold_snoc hD ([], ps)
        rw [hf] at es
        obtain ⟨t, us, rfl, ht⟩ := ld_word tx
        refine ⟨_, rfl, t, _, 0, _, rfl, rfl, SqT.of ht, atI_nat (j := 0) rfl, rfl, _, rfl, ?_⟩
        cases dx with
        | hold =>
          refine iteP rfl ?_
          have lh := hr2.len
          rw [List.length_reverse] at lh
          have le := fold_le (ds.take i) ([], ps)
          rw [hf, List.length_take] at le
          have le : hs.length ≤ 0 + min i ds.length := le
          refine ⟨_, rfl, .inl ⟨rfl, _, SqL.of hh⟩, _, rfl, A2, hvs, _, rfl, rfl, hh, big (by rw [lh]; show hs.length ≤ 200000; omega), ?_⟩
          refine ⟨b', (cur :: hs, cur), zs, hvs ++ [.ref b'], _, rfl, same_new sm n2H, by rw [upd_ne (Ne.symm n21)]; exact hz, by omega, upd_same, es, ?_, ?_⟩
          · rw [upd_ne (fun z => by rw [z, hh] at hb'; cases hb')]
            exact hb'
          · show AllR _ (cur :: hs).reverse _
            rw [List.reverse_cons]
            exact AllR.append (AllR.imp (fun q v => penT.put hh q v) hr2) (AllR.one (penT.put hh _ _ ⟨b', rfl, hb'⟩))
        | back =>
          refine iteN (by decide) ?_
          refine ⟨_, rfl, t, _, 0, _, rfl, rfl, SqT.of ht, atI_nat (j := 0) rfl, rfl, _, rfl, iteP rfl ?_⟩
          obtain ⟨k1, hk1⟩ := depD_take hdep (i + 1)
          rw [List.take_add_one, hD] at hk1
          rw [show (some Dd.back).toList = [Dd.back] from rfl, depD_append] at hk1
          obtain ⟨m, hm⟩ := depD_take hdep i
          rw [hm] at hk1
          have hl2 := dep_len (xs := ds.take i) (z := ([], ps)) hm
          rw [hf] at hl2
          have six := six_fold (xs := ds.take i) (z := ([], ps)) (fun _ h => by cases h) hl
          rw [hf] at six
          cases m with
          | zero => cases hk1
          | succ m =>
            cases hs with
            | nil => cases hl2
            | cons q0 hs =>
              obtain ⟨us2, v, rfl, ru, c0, rfl, h0⟩ := pop_pen hr2
              have l0 : q0.length = 6 := six.1 q0 List.mem_cons_self
              have lc : cur.length = 6 := six.2
              obtain ⟨x0, x1, x2, x3, x4, x5, rfl⟩ := list6' l0
              obtain ⟨y0, y1, y2, y3, y4, y5, rfl⟩ := list6' lc
              refine ⟨_, rfl, .inl ⟨rfl, _, SqL.of hh⟩, A2, _, _, rfl, rfl, hh, (pop_last us2 _).1, ?_⟩
              rw [(pop_last us2 _).2]
              have pu := fun q v => penT.put (zs := us2) hh q v
              have sm1 := same_new (o := .lst us2) sm n2H
              have hb1 : (upd H' A2 (.lst us2)) b' = some (.tup ([y0, y1, y2, y3, y4, y5].map V.int)) := by rw [upd_ne (fun z => by rw [z, hh] at hb'; cases hb')]; exact hb'
              have h01 : (upd H' A2 (.lst us2)) c0 = some (.tup ([x0, x1, x2, x3, x4, x5].map V.int)) := by rw [upd_ne (fun z => by rw [z, hh] at h0; cases h0)]; exact h0
              have hz1 : (upd H' A2 (.lst us2)) A1 = some (.lst zs) := by rw [upd_ne (Ne.symm n21)]; exact hz
              have hh1 : (upd H' A2 (.lst us2)) A2 = some (.lst us2) := upd_same
              have ru1 := AllR.imp pu ru
              generalize upd H' A2 (.lst us2) = H3 at *
              refine ⟨4, rfl, c0, _, rfl, SqT.of h01, slice4, fun p np => ?_⟩
              rw [show cutV ([x0, x1, x2, x3, x4, x5].map V.int) none (some 4) = [V.int x0, .int x1, .int x2, .int x3] from rfl]
              have s4 := same_upd (o := .tup [V.int x0, .int x1, .int x2, .int x3]) np
              have hp2 : (upd H3 p (.tup [V.int x0, .int x1, .int x2, .int x3])) p = some (.tup [V.int x0, .int x1, .int x2, .int x3]) := upd_same
              generalize upd H3 p _ = H4 at *
              refine ⟨_, rfl, 4, rfl, b', _, rfl, SqT.of (s4 _ _ hb1), slice46, fun p2 np2 => ?_⟩
              rw [show cutV ([y0, y1, y2, y3, y4, y5].map V.int) (some 4) none = [V.int y4, .int y5] from rfl]
              have s5 := same_upd (o := .tup [V.int y4, .int y5]) np2
              have hp3 : (upd H4 p2 (.tup [V.int y4, .int y5])) p2 = some (.tup [V.int y4, .int y5]) := upd_same
              generalize upd H4 p2 _ = H5 at *
              refine ⟨p, p2, _, _, rfl, rfl, SqT.of (s5 _ _ hp2), SqT.of hp3, (by simp), small100 (n := 6) (by decide), (fun h => by cases h), fun _ t2 nt2 => ?_⟩
              have s6 := same_upd (o := .tup ([V.int x0, .int x1, .int x2, .int x3] ++ [V.int y4, .int y5])) nt2
              have ht2 : (upd H5 t2 (.tup ([V.int x0, .int x1, .int x2, .int x3] ++ [V.int y4, .int y5]))) t2 = some (.tup ([x0, x1, x2, x3, y4, y5].map V.int)) := upd_same
              generalize upd H5 t2 _ = H6 at *
              have s46 := (s4.trans s5).trans s6
              exact ⟨t2, (hs, [x0, x1, x2, x3, y4, y5]), zs, us2, _, rfl, sm1.trans s46, s46 _ _ hz1, by omega, s46 _ _ hh1, es, ht2, AllR.imp (penT.same s46) ru1⟩
        | cmd c =>
          obtain ⟨w1, w2⟩ := cm_wordH c
          refine iteN (fun h => w1 (V.str.inj h)) ?_
          refine ⟨_, rfl, t, _, 0, _, rfl, rfl, SqT.of ht, atI_nat (j := 0) rfl, rfl, _, rfl, iteN (fun h => w2 (V.str.inj h)) ?_⟩
          have six := six_fold (xs := ds.take i) (z := ([], ps)) (fun _ h => by cases h) hl
          rw [hf] at six
          obtain ⟨tb, e1, htb⟩ := tr_cm tx
          cases e1
          have od : c.ok := hok (.cmd c) (List.mem_of_getElem? hD)
          refine ⟨_, rfl, _, rfl, b', t, cur, c, rfl, hb', six.2, htb, od, fun r J sJ nr hr3 => ?_⟩
          have hzJ := sJ _ _ hz
          have nr1 : r ≠ A1 := Ne.symm (ne_of_none hz nr)
          refine ⟨_, rfl, .inl ⟨rfl, _, SqL.of hzJ⟩, _, rfl, A1, zs, _, rfl, rfl, hzJ, big (by omega), ?_⟩
          refine ⟨r, (hs, c.mv cur), zs ++ [.ref r], hvs, _, rfl, same_new (sm.trans sJ) n1, upd_same, by rw [List.length_append, List.length_singleton]; omega, by rw [upd_ne n21]; exact sJ _ _ hh, es, by rw [upd_ne nr1]; exact hr3, ?_⟩
          exact AllR.imp (fun q v => penT.put hzJ q v) (AllR.imp (penT.same sJ) hr2)
    · obtain ⟨b', z, zs, hvs, y, rfl, sm, hz, lz, hh, hf, hb', _⟩ := h
      refine ⟨_, rfl, _, rfl, small100 (n := 2) (by decide), fun t nt => ?_⟩
      rw [lv, List.take_length] at hf
      have e : z.2 = penEnd ds ps := by unfold penEnd; rw [hf]
      rw [e] at hb'
      exact q t _ b' _ (same_new sm (sm.free nt)) (sm.free nt) upd_same (by rw [upd_ne (ne_of_none hb' nt)]; exact hb')

/-! ### the law's length -/
def sp__law_length : Sp := fun vs H Q _ => ∃ (d : Addr) (dsv : List V) (ds : List Dd), vs = [.ref d] ∧ H d = some (.lst dsv) ∧ TrAll (fun _ => False) H (ds.map Dd.ld) dsv ∧ ds.length ≤ 100000 ∧ ∀ H', Same H H' → Q (natV (ds.filter Dd.isC).length) H'
theorem ok__law_length (T : Top w K mg) : FnOk P w K mg base CX0 1 T.a__law_length T.d__law_length ["_law_deeds"] sp__law_length := by
  refine T.F__law_length.ok sc__law_length (fun vs H Q E h => ?_) (fun cdv A outer s H vs Q E hr h => ?_)
  · obtain ⟨d, dsv, ds, rfl, _⟩ := h
    rfl
  · obtain ⟨d, dsv, ds, rfl, hd, tD, hlen, q⟩ := h
    refine ⟨_, (pss_one (ps_ret (pe_callB (k_len K) (by rfl) T.z_len bt_len (pa_cons (pe_lc (own := [("_law_deed", 1)]) (g := (gName 1)) rfl sc__law_length.nd (k_piL K (pv 0)) (blkOk_by (N := N__law_length) (sc := defScope s__law_length) (by decide +kernel)) (fun _ _ _ _ _ => (pg_name (i := 1) sc__law_length.nd rfl (Or.inl rfl))) (fun _ _ _ _ _ => (pts_one (PW.pt (pw_and (pt_cmpR op_ne (pe_ix (k_ixT K) (pv 1) pe_int (fun _ _ => rfl)) pe_str (nomark _)) (pw_and1 (pt_cmpR op_ne (pe_ix (k_ixT K) (pv 1) pe_int (fun _ _ => rfl)) pe_str (nomark _))))))) (fun _ _ _ _ _ => (pv 1))) pa_nil)))), ?_⟩
    have lv := tD.len
    rw [List.length_map] at lv
    refine ⟨_, rfl, d, rfl, ⟨_, SqL.of hd⟩, fun D nD => ?_⟩
    refine lc_list (xs := dsv) (fun i H' => Same H H' ∧ ∃ zs : List V, H' D = some (.lst zs) ∧ zs.length = ((ds.take i).filter Dd.isC).length) ⟨same_upd nD, [], upd_same, rfl⟩ (fun i H' _ h => SqL.of (h.1 _ _ hd)) (fun i x H' hx h => ?_) (fun H' h => ?_)
    · obtain ⟨sm, zs, hD, lz⟩ := h
      obtain ⟨dd, hdd, tx⟩ := tD.get hx
      rw [List.getElem?_map] at hdd
      cases hD2 : ds[i]? with
      | none => rw [hD2] at hdd; cases hdd
      | some dx =>
        rw [hD2] at hdd
        have hdd : dx.ld = dd := Option.some.inj hdd
        subst hdd
        have hi := (List.getElem?_eq_some_iff.mp hD2).1
        have et : ((ds.take (i + 1)).filter Dd.isC).length = ((ds.take i).filter Dd.isC).length + if dx.isC then 1 else 0 := by
          rw [List.take_add_one, hD2, List.filter_append, List.length_append]
          congr 1
          cases e : dx.isC <;> simp [e]
        obtain ⟨t, us, wd, rfl, ht, hwn, hwc⟩ := ld_wd (tx.same sm)
        refine ⟨rfl, _, rfl, t, _, 0, _, rfl, rfl, SqT.of ht, atI_nat (j := 0) rfl, rfl, _, rfl, ?_⟩
        have skip : dx.isC = false → Same H H' ∧ ∃ zs, H' D = some (.lst zs) ∧ zs.length = ((ds.take (i + 1)).filter Dd.isC).length := fun e => ⟨sm, zs, hD, by rw [et, e, lz]; rfl⟩
        by_cases g1 : V.str wd = V.str ("hold" : Str)
        · rw [decide_eq_true g1]
          refine skip ?_
          cases e : dx.isC with
          | false => rfl
          | true => exact absurd (V.str.inj g1) (hwc e).1
        · rw [decide_eq_false g1]
          refine ⟨_, rfl, t, _, 0, _, rfl, rfl, SqT.of ht, atI_nat (j := 0) rfl, rfl, _, rfl, ?_⟩
          by_cases g2 : V.str wd = V.str ("shut" : Str)
          · rw [decide_eq_true g2]
            refine skip ?_
            cases e : dx.isC with
            | false => rfl
            | true => exact absurd (V.str.inj g2) (hwc e).2
          · rw [decide_eq_false g2]
            have ec : dx.isC = true := by
              cases e : dx.isC with
              | true => rfl
              | false => rcases hwn e with h | h
                         · exact absurd (congrArg V.str h) g1
                         · exact absurd (congrArg V.str h) g2
            refine ⟨_, rfl, zs, hD, big ?_, same_new sm nD, _, upd_same, ?_⟩
            · have := List.length_filter_le Dd.isC (ds.take i)
              rw [List.length_take] at this
              omega
            · rw [List.length_append, List.length_singleton, et, ec, lz]
              rfl
    · obtain ⟨sm, zs, hD, lz⟩ := h
      rw [lv, List.take_length] at lz
      refine ⟨D, zs, rfl, .inl (SqL.of hD), ?_⟩
      rw [lz]
      exact q _ sm

--SPLIT
/-! ### a run of the law's machine is one of the program -/
theorem tell_run {x : LRes} (h : (tellL x).1 = "run") : ∃ s, x = .fin s ∧ s.todo = [] ∧ ¬ s.taken < s.bits.length ∧ tellL x = (("run" : Str), s.way, s.deeds, s.bits) := by
  cases x with
  | never s => exact absurd h (by simp only [tellL]; decide)
  | short s => exact absurd h (by simp only [tellL]; decide)
  | fin s =>
    unfold tellL at h ⊢
    dsimp only at h ⊢
    by_cases h1 : s.todo ≠ []
    · rw [if_pos h1] at h
      exact absurd h (by decide)
    · rw [if_neg h1] at h ⊢
      by_cases h2 : s.taken < s.bits.length
      · rw [if_pos h2] at h
        exact absurd h (show ¬ (("rest" : Str) = "run") by decide)
      · rw [if_neg h2]
        exact ⟨s, rfl, Classical.byContradiction fun n => h1 n, h2, rfl⟩
theorem run_go {bs : List (List Stm)} (ob : OkBook bs) {pr ex : Nat} {bits : List Bool} (hp : pr < bs.length) (hb : bits.length ≤ 100) {s : LSt} (h : runL bs 3000 (initL pr bits ex) = .fin s) (h1 : s.todo = []) (h2 : ¬ s.taken < s.bits.length) :
    ∃ e, runO bs s.bits 3000 pr = .go e ∧ e.deeds = s.deeds ∧ e.way = s.way ∧ GoodE e ∧ s.bits.length ≤ 10000 := by
  obtain ⟨m, e', hm, hr, R⟩ := sim ob.each 3000 _ _ 0 (rel_init bs pr ex bits) (inv_init hp hb) (Nat.zero_le _) s h h1
  have el : e'.left = [] := by rw [R.lf, h1]; rfl
  have hr2 := runE_more hr el (3000 - m)
  rw [show m + (3000 - m) = 3000 by omega] at hr2
  obtain ⟨D, I⟩ := dep_run ob.each (inv_init hp hb) (L := initL pr bits ex) ⟨rfl, by intro d hd; cases hd⟩ h
  refine ⟨e', ?_, R.dd, R.wy, ⟨?_, ?_, ?_⟩, ?_⟩
  · unfold runO
    have hr3 : runE bs s.bits 3000 (startE pr (initE bs)) = .go e' := hr2
    rw [hr3]
    show (if e'.taken < s.bits.length then Out.no e'.taken else Out.go e') = _
    rw [R.tk, if_neg h2]
  · rw [R.dd]
    have := I.todo
    omega
  · rw [R.dd]
    exact D.ok
  · rw [R.dd]
    exact ⟨_, D.dep⟩
  · have := I.bits
    omega

/-! ### ran of a book's run; what is compared -/
theorem fit_ints : ∀ (ps : List Int) (n : Nat), FitAll (ps.map PyData.int) (n + 1)
  | [], _ => trivial
  | p :: r, n => ⟨trivial, fit_ints r n⟩
theorem fit_ans {d : PyData} {w n : Int} (h : Fit d 15) : Fit (.tuple [.int w, d, .int n]) 16 := ⟨(by decide : 3 ≤ 100), trivial, h, trivial, trivial⟩
theorem fit_pen {ps : List Int} (h : ps.length ≤ 100) : Fit (penD ps) 15 := ⟨by rw [List.length_map]; exact h, fit_ints ps 13⟩
theorem fit_lst {ps : List Int} (h : ps.length ≤ 100) : Fit (.list (ps.map .int)) 15 := ⟨by rw [List.length_map]; exact h, fit_ints ps 13⟩
theorem ints_inj : ∀ (x y : List Int), x.map PyData.int = y.map PyData.int → x = y
  | [], [], _ => rfl
  | [], _ :: _, h => nomatch h
  | _ :: _, [], h => nomatch h
  | b :: r, c :: q, h => by
    rw [List.map_cons, List.map_cons] at h
    obtain ⟨h1, h2⟩ := List.cons.inj h
    rw [ints_inj r q h2, PyData.int.inj h1]
theorem penD_inj {ps qs : List Int} (h : penD ps = penD qs) : ps = qs := ints_inj _ _ (PyData.tuple.inj h)
theorem bitD_inj : ∀ (x y : List Bool), x.map bitD = y.map bitD → x = y
  | [], [], _ => rfl
  | [], _ :: _, h => nomatch h
  | _ :: _, [], h => nomatch h
  | b :: r, c :: q, h => by
    rw [List.map_cons, List.map_cons] at h
    obtain ⟨h1, h2⟩ := List.cons.inj h
    rw [bitD_inj r q h2]
    cases b <;> cases c <;> first | rfl | cases h1
theorem tr_bits {J : Hp} : ∀ bits : List Bool, TrAll (fun _ => True) J (bits.map bitD) (bits.map bitV)
  | [] => rfl
  | _ :: r => ⟨_, _, rfl, rfl, tr_bits r⟩
theorem bf_bits (bits : List Bool) : bitsFault (.list (bits.map bitD)) = none := by
  refine bf_none fun d hd => ?_
  obtain ⟨b, _, rfl⟩ := List.mem_map.mp hd
  cases b <;> rfl
theorem in_nat {p n : Nat} (h : p < n) : inD (.int p) (0, (n : Int) - 1) = true := by
  unfold inD
  simp [isI, isNum]
  omega
theorem ran_run {K : PySem.W.Frag} {CB CE NPr NP : Addr} {S : Addr → Prop} {J : Hp} {b bl : Addr} {bs : List (List Stm)} {pr n : Nat} {bits : List Bool} {e : ESt} {ve : V} {ps : List Int} {Q : VK} {E : XK} (hb : BookV S CB J b bs) (ob : OkBook bs) (hpr : pr < bs.length) (hbl : J bl = some (.lst (bits.map bitV))) (hp : PV K J (penD ps) ve) (hl : ps.length = 6) (hn : n ≤ 20000)
    (hr : runO bs bits n pr = .go e) (gd : GoodE e)
    (q : ∀ (t c : Addr) (H' : Hp), Same J H' → H' t = some (.tup [.int e.way, .ref c, natV (cmdsN e)]) → SqT K H' c ((penEnd e.deeds ps).map V.int) → Q (.ref t) H') : sp_ran K CB CE NPr NP [.ref b, .int pr, .ref bl, ve] J Q E := by
  refine ⟨S, fun _ => False, fun _ => True, b, _, .int pr, .list (bits.map bitD), penD ps, .int pr, .ref bl, ve, n, rfl, hb, ob, rfl, ⟨bl, _, rfl, trivial, hbl, tr_bits _⟩, hp, hn, fun h => ?_, fun p hpl e2 => ⟨fun i hi => ?_, fun bits2 eb => ?_⟩⟩
  · rw [in_nat hpr] at h
    cases h
  · rw [bf_bits] at hi
    cases hi
  · have e0 : p = pr := by have := PyData.int.inj e2; omega
    subst e0
    have e1 := bitD_inj _ _ (PyData.list.inj eb)
    subst e1
    rw [hr]
    refine ⟨gd, fun h => ?_, fun ps' e3 hl' t c H' s nt ht hc => ?_⟩
    · rw [penOk_ints hl] at h
      cases h
    · have e3 := penD_inj e3
      subst e3
      exact q t c H' s ht hc
theorem kp_tr {S : Addr → Prop} {H H' : Hp} {p : Addr} {L : Nat} {d : PyData} {v : V} (k : Kp p H H') (pl : Pool H p L) (nS : ¬ S p) (t : Tr S H d v) : Tr S H' d v := by
  obtain ⟨n1, hp1, _⟩ := pl
  exact Tr.kpl (KpL.kp (M := fun a => a = p) k rfl ⟨_, hp1⟩) (fun a hs e => nS (by rw [← e]; exact hs)) _ _ t
theorem kp_book {S : Addr → Prop} {C : Addr} {H H' : Hp} {p b : Addr} {L : Nat} {bs : List (List Stm)} (k : Kp p H H') (pl : Pool H p L) (nS : ¬ S p) (B : BookV S C H b bs) : BookV S C H' b bs := by
  obtain ⟨dx, q, hb, t⟩ := B
  refine ⟨dx, q, k _ _ (fun e => ?_) hb, kp_tr k pl nS t⟩
  obtain ⟨n1, hp1, _⟩ := pl
  rw [e, hp1] at hb
  cases hb
theorem run_len6 {ds : List Dd} {ps : List Int} (hl : ps.length = 6) : (penEnd ds ps).length = 6 := (six_fold (xs := ds) (z := ([], ps)) (fun _ h => nomatch h) hl).2
theorem passX0 {X : Cx} : Passes (L2.CX X.prog X.w) X E0 := fun _ _ _ _ _ _ _ ⟨_, _, _, _, _, _, _, _, _, _, _, _, h⟩ => h.elim
theorem book_trd {S : Addr → Prop} {C : Addr} {H : Hp} {b : Addr} {bs : List (List Stm)} (B : BookV S C H b bs) : BookV (fun a => H a ≠ none) C H b bs := by
  obtain ⟨dx, q, hb, t⟩ := B
  exact ⟨dx, q, hb, Tr.mono (fun _ n => n.2) _ _ (Tr.tracked _ _ t)⟩

theorem tq_ans {K : PySem.W.Frag} {H : Hp} {t : Addr} {w n : Int} {d : PyData} {v : V} (h : H t = some (.tup [.int w, v, .int n])) (hd : TQ K H d v) : TQ K H (.tuple [.int w, d, .int n]) (.ref t) := ⟨t, _, rfl, SqT.of h, _, _, rfl, rfl, _, _, rfl, hd, _, _, rfl, rfl, rfl⟩
/-- what the law's own machine says of a run from a pen -/
def ansD (e : ESt) (ps : List Int) : PyData := .tuple [.int e.way, penD (penEnd e.deeds ps), .int (cmdsN e)]
theorem fit_ansD {e : ESt} {ps : List Int} (hl : ps.length = 6) : Fit (ansD e ps) 16 := fit_ans (fit_pen (by rw [run_len6 hl]; decide))
theorem same_ansD {e : ESt} {ps : List Int} (hl : ps.length = 6) : sameD (ansD e ps) (ansD e ps) = true := same_refl _ _ (fit_ansD hl)
theorem tq_ansD {K : PySem.W.Frag} {H : Hp} {t c : Addr} {e : ESt} {ps : List Int} (h : H t = some (.tup [.int e.way, .ref c, natV (e.deeds.filter Dd.isC).length])) (hc : SqT K H c ((penEnd e.deeds ps).map V.int)) : TQ K H (ansD e ps) (.ref t) := tq_ans (n := ((e.deeds.filter Dd.isC).length : Int)) h (tq_pen hc)

--SPLIT
/-! ### run_matrix of a book's run -/
theorem mat_run {CB CE NPr : Addr} {S : Addr → Prop} {J : Hp} {b bl : Addr} {bs : List (List Stm)} {pr n : Nat} {bits : List Bool} {e : ESt} {Q : VK} {E : XK} (hb : BookV S CB J b bs) (ob : OkBook bs) (hpr : pr < bs.length) (hbl : J bl = some (.lst (bits.map bitV))) (hn : n ≤ 20000)
    (hr : runO bs bits n pr = .go e) (gd : GoodE e)
    (q : ∀ (t c : Addr) (H' : Hp), Same J H' → J t = none → J c = none → H' t = some (.tup [.int e.way, .ref c, natV (e.deeds.filter Dd.isC).length]) → H' c = some (.lst ((matL (penEnd e.deeds)).map V.int)) → Q (.ref t) H') : sp_run_matrix CB CE NPr [.ref b, .int pr, .ref bl] J Q E := by
  refine ⟨S, fun _ => False, fun _ => True, b, _, .int pr, .list (bits.map bitD), .int pr, .ref bl, n, rfl, hb, ob, rfl, ⟨bl, _, rfl, trivial, hbl, tr_bits _⟩, hn, fun h => ?_, fun p hpl e2 => ⟨fun i hi => ?_, fun bits2 eb => ?_⟩⟩
  · rw [in_nat hpr] at h
    cases h
  · rw [bf_bits] at hi
    cases hi
  · have e0 : p = pr := by have := PyData.int.inj e2; omega
    subst e0
    have e1 := bitD_inj _ _ (PyData.list.inj eb)
    subst e1
    rw [hr]
    exact ⟨gd, fun t c H' s nt nc ht hc => q t c H' s nt nc ht hc⟩
def ansM (e : ESt) : PyData := .tuple [.int e.way, .list ((matL (penEnd e.deeds)).map .int), .int (cmdsN e)]
theorem fit_ansM {e : ESt} : Fit (ansM e) 16 := fit_ans (fit_lst (by unfold matL; rw [List.length_map, List.length_range]; decide))
theorem same_ansM {e : ESt} : sameD (ansM e) (ansM e) = true := same_refl _ _ fit_ansM
theorem tq_ansM {K : PySem.W.Frag} {H : Hp} {t c : Addr} {e : ESt} (h : H t = some (.tup [.int e.way, .ref c, natV (e.deeds.filter Dd.isC).length])) (hc : SqL K H c ((matL (penEnd e.deeds)).map V.int)) : TQ K H (ansM e) (.ref t) := tq_ans (n := ((e.deeds.filter Dd.isC).length : Int)) h (tq_lst hc)

/-! ### the law's matrix of deeds -/
def sp__law_probe (K : PySem.W.Frag) : Sp := fun vs H Q _ => ∃ (d : Addr) (dsv : List V) (ds : List Dd), vs = [.ref d] ∧ H d = some (.lst dsv) ∧ TrAll (fun _ => False) H (ds.map Dd.ld) dsv ∧ ds.length ≤ 100000 ∧ (∀ d ∈ ds, d.ok) ∧ (∃ k, depD ds 0 = some k) ∧
  ∀ (q : Addr) (H' : Hp), Same H H' → H q = none → H' q = some (.lst ((matL (penEnd ds)).map V.int)) → Q (.ref q) H'
def Imgs (H : Hp) (D : Addr) (bs : List Addr) (F : Nat → List Int) : Prop := H D = some (.lst (bs.map V.ref)) ∧ ∀ (j : Nat) (b : Addr), bs[j]? = some b → H b = some (.tup ((F j).map V.int))
theorem Imgs.same {H J : Hp} {D : Addr} {bs : List Addr} {F : Nat → List Int} (h : Imgs H D bs F) (s : Same H J) : Imgs J D bs F := ⟨s _ _ h.1, fun j b e => s _ _ (h.2 j b e)⟩
theorem Imgs.push {J : Hp} {D q : Addr} {bs : List Addr} {F : Nat → List Int} (h : Imgs J D bs F) (hq : J q = some (.tup ((F bs.length).map V.int))) : Imgs (upd J D (.lst (bs.map V.ref ++ [.ref q]))) D (bs ++ [q]) F := by
  refine ⟨by rw [upd_same, List.map_append]; rfl, fun j b e => ?_⟩
  have nD : ∀ {b : Addr} {l : List V}, J b = some (.tup l) → b ≠ D := fun hb => ne_of hb h.1 (fun z => nomatch z)
  rw [List.getElem?_append] at e
  split at e
  · have hb := h.2 j b e
    rw [upd_ne (nD hb)]
    exact hb
  · rename_i hj
    have hj2 := (List.getElem?_eq_some_iff.mp e).1
    have ej : j = bs.length := by
      rw [List.length_cons, List.length_nil] at hj2
      omega
    subst ej
    rw [Nat.sub_self] at e
    cases e
    rw [upd_ne (nD hq)]
    exact hq
theorem ok__law_probe (T : Top w K mg) : FnOk P w K mg base CX0 3 T.a__law_probe T.d__law_probe ["_law_deeds"] (sp__law_probe K) := by
  refine T.F__law_probe.ok sc__law_probe (fun vs H Q E h => ?_) (fun cdv A outer s H vs Q E hr h => ?_)
  · obtain ⟨d, dsv, ds, rfl, _⟩ := h
    rfl
  · obtain ⟨d, dsv, ds, rfl, hd, tD, hcl, hok, hdp, q⟩ := h
    refine ⟨_, (pss_cons (ps_set (i := 1) sc__law_probe.nd rfl (Or.inl rfl) (pe_ix (k_ixL K) (pe_call (ok__law_pens T) hr (by rfl) T.g__law_pens T.F__law_pens.kp (b__law_pens T) .nil pass0 (pa_cons (pv 0) (pa_cons (pe_tup (pa_cons pe_int (pa_cons pe_int (pa_cons pe_int (pa_cons pe_int (pa_cons pe_int (pa_cons pe_int pa_nil))))))) pa_nil))) pe_int (fun _ _ => rfl)))
      (pss_cons (ps_setLc (i := 3) (own := [("_law_j", 2)]) (g := (gName 2)) (tt := tYes) rfl sc__law_probe.nd rfl rfl (sw_true rfl rfl rfl (by decide +kernel)) (pi_range1 (by rfl) T.z_range (pa_cons pe_int pa_nil)) (blkOk_by (N := N__law_probe) (sc := defScope s__law_probe) (by decide +kernel)) (fun _ _ _ _ _ => (pg_name (i := 2) sc__law_probe.nd rfl (Or.inr rfl))) (fun _ _ _ _ _ => pts_nil) (fun _ _ _ _ _ => (pe_ix (k_ixL K) (pe_call (ok__law_pens T) hr (by rfl) T.g__law_pens T.F__law_pens.kp (b__law_pens T) .nil pass0 (pa_cons (pv 0) (pa_cons (pe_callTy (k_tuple K) (by rfl) T.z_tuple bt_tuple (pa_cons (pe_lc (own := [("_law_k", 6)]) (g := (gName 6)) (tt := tYes) rfl sc__law_probe.nd (pi_range1 (by rfl) T.z_range (pa_cons pe_int pa_nil)) (blkOk_by (N := N__law_probe) (sc := (relS ({ kind := .function, names := [(".0", .local), ("_law_j", .cell), ("_law_pens", .globalImplicit), ("tuple", .globalImplicit), ("range", .globalImplicit), ("_law_deeds", .free)], isGenerator := false, isCoroutine := false } : Scope) (defScope s__law_probe))) (by decide +kernel)) (fun _ _ _ _ _ => (pg_name (i := 6) sc__law_probe.nd rfl (Or.inl rfl))) (fun _ _ _ _ _ => pts_nil) (fun _ _ _ _ _ => (pe_callTy call_intB (by rfl) T.z_int bt_int (pa_cons (pe_cmpR op_eq (pv 6) (pv 2) (nomark _)) pa_nil)))) pa_nil)) pa_nil))) pe_int (fun _ _ => rfl))))
      (pss_cons (ps_set (i := 4) sc__law_probe.nd rfl (Or.inl rfl) (pe_lst (pa_cons pe_int (pa_cons pe_int (pa_cons pe_int (pa_cons pe_int (pa_cons pe_int (pa_cons pe_int (pa_cons pe_int pa_nil)))))))))
      (pss_cons (ps_for PassesOwn.never rfl (pi_range1 (by rfl) T.z_range (pa_cons pe_int pa_nil)) (pg_name (i := 5) sc__law_probe.nd rfl (Or.inl rfl)) (pss_cons (ps_expr (pe_bm PySem.F.plainAttrs_list PySem.F.slot_list_append PySem.F.type_list_append mt_append (pv 4) (pa_cons (pe_ix (k_ixT K) (pv 1) (pv 5) (fun _ _ => rfl)) pa_nil)))
        (pss_one (ps_for PassesOwn.never rfl (pi_range1 (by rfl) T.z_range (pa_cons pe_int pa_nil)) (pg_name (i := 2) sc__law_probe.nd rfl (Or.inl rfl)) (pss_one (ps_expr (pe_bm PySem.F.plainAttrs_list PySem.F.slot_list_append PySem.F.type_list_append mt_append (pv 4) (pa_cons (pe_op op_sub (pe_ix (k_ixT K) (pe_ix (k_ixL K) (pv 3) (pv 2) (fun _ _ => rfl)) (pv 5) (fun _ _ => rfl)) (pe_ix (k_ixT K) (pv 1) (pv 5) (fun _ _ => rfl))) pa_nil))))))))
      (pss_one (ps_ret (pv 4))))))), ?_⟩
    refine ⟨_, rfl, small100 (n := 6) (by decide), fun z nz => ?_⟩
    have ez : (HO.tup [V.int 0, .int 0, .int 0, .int 0, .int 0, .int 0]) = .tup (Z6.map V.int) := rfl
    rw [ez]
    have s1 := same_upd (o := .tup (Z6.map V.int)) nz
    have hz : (upd H z (.tup (Z6.map V.int))) z = some (.tup (Z6.map V.int)) := upd_same
    generalize upd H z (.tup (Z6.map V.int)) = H1 at *
    refine ⟨d, z, dsv, ds, Z6, rfl, s1 _ _ hd, tD.same s1, hcl, hok, hdp, hz, rfl, fun l x o H2 s2 nl hl ho => ?_⟩
    refine ⟨l, _, 1, _, rfl, rfl, SqL.of hl, atI_nat (j := 1) rfl, ?_⟩
    have s02 := s1.trans s2
    have lo : (penEnd ds Z6).length = 6 := run_len6 rfl
    refine ⟨6, rfl, by decide, by decide, fun D nD => lc_range (n := 6) (fun i H' => Same H2 H' ∧ ∃ bs : List Addr, bs.length = i ∧ Imgs H' D bs (fun j => penEnd ds (E6 j))) ⟨same_upd nD, [], rfl, upd_same, fun j b e => by simp at e⟩ (fun i H' hi h => ?_) (fun H3 h => ?_)⟩
    · obtain ⟨sm, bs, hbl, hI⟩ := h
      refine ⟨rfl, _, rfl, 6, rfl, by decide, by decide, fun C nC => lc_range (n := 6) (fun k J => Same H' J ∧ J C = some (.lst (((List.range k).map fun k => if k = i then (1 : Int) else 0).map V.int))) ⟨same_upd nC, upd_same⟩ (fun k J hk h => ?_) (fun J h => ?_)⟩
      · obtain ⟨sJ, hC⟩ := h
        refine ⟨rfl, _, rfl, _, rfl, rfl, _, rfl, _, hC, ?_, same_new sJ nC, ?_⟩
        · rw [List.length_map, List.length_map, List.length_range]
          exact small1000 (by omega)
        · rw [upd_same, eqI_if k i _ _ (by omega) (by omega)]
          exact congrArg (fun z => some (HO.lst z)) (range_snoc (fun k => if k = i then (1 : Int) else 0) k)
      · obtain ⟨sJ, hC⟩ := h
        refine ⟨C, _, rfl, SqL.of hC, fun t nt => ?_⟩
        have st := same_upd (o := .tup ((E6 i).map V.int)) nt
        have ht : (upd J t (.tup ((E6 i).map V.int))) t = some (.tup ((E6 i).map V.int)) := upd_same
        have et : (HO.tup (((List.range 6).map fun k => if k = i then (1 : Int) else 0).map V.int)) = .tup ((E6 i).map V.int) := rfl
        rw [et]
        generalize upd J t (.tup ((E6 i).map V.int)) = J2 at *
        have s3 := sm.trans (sJ.trans st)
        refine ⟨d, t, dsv, ds, E6 i, rfl, (s02.trans s3) _ _ hd, tD.same (s02.trans s3), hcl, hok, hdp, ht, E6_len i, fun l2 x2 b2 J3 s4 nl2 hl2 hb2 => ?_⟩
        have sJ3 := sJ.trans (st.trans s4)
        have hI3 := hI.same sJ3
        refine ⟨l2, _, 1, _, rfl, rfl, SqL.of hl2, atI_nat (j := 1) rfl, _, hI3.1, ?_, same_new (sm.trans sJ3) nD, bs ++ [b2], by rw [List.length_append, hbl]; rfl, hI3.push (by rw [hbl]; exact hb2)⟩
        rw [List.length_map, hbl]
        exact small1000 (by omega)
    · obtain ⟨s3, bs, hbl, hI⟩ := h
      have s03 := s02.trans s3
      have ho := s3 _ _ ho
      let g : Nat → Int := fun t => mcell (penEnd ds) (t / 7) (t % 7)
      refine ⟨small100 (n := 7) (by decide), fun M nM => ?_⟩
      have e7 : [V.int 1, .int 0, .int 0, .int 0, .int 0, .int 0, .int 0] = ((List.range 7).map g).map V.int := rfl
      rw [e7]
      refine ⟨6, rfl, by decide, by decide, for_range (n := 6) (fun i σ H' => ∃ (y z : Option V), σ = [some (.ref d), some (.ref o), y, some (.ref D), some (.ref M), z, none] ∧ Same H3 H' ∧ H' M = some (.lst (((List.range (7 * (i + 1))).map g).map V.int))) ?_ (fun i σ H' hi h => ?_) (fun σ H' h => ?_)⟩
      · exact ⟨none, none, rfl, same_upd nM, upd_same⟩
      · obtain ⟨y, zz, rfl, sm, hM⟩ := h
        have hsz : ∀ n, n ≤ 60 → (((List.range n).map g).map V.int).length < sizeLine := fun n hn => by
          rw [List.length_map, List.length_map, List.length_range]
          exact small1000 (by omega)
        refine ⟨_, rfl, .inl ⟨rfl, _, SqL.of hM⟩, _, rfl, _, rfl, o, _, _, _, rfl, rfl, SqT.of (sm _ _ ho), at_nat (t := i) (by omega) (by omega), M, _, _, rfl, rfl, hM, hsz _ (by omega), ?_⟩
        have eg0 : g (7 * (i + 1)) = (penEnd ds Z6).getD i 0 := by
          show mcell (penEnd ds) (7 * (i + 1) / 7) (7 * (i + 1) % 7) = _
          rw [show 7 * (i + 1) / 7 = i + 1 by omega, show 7 * (i + 1) % 7 = 0 by omega]
          rfl
        rw [← eg0, range_snoc]
        refine ⟨6, rfl, by decide, by decide, for_range (n := 6) (fun j σ H' => ∃ (y : Option V), σ = [some (.ref d), some (.ref o), y, some (.ref D), some (.ref M), some (.int (0 + i)), none] ∧ Same H3 H' ∧ H' M = some (.lst (((List.range (7 * (i + 1) + 1 + j)).map g).map V.int))) ?_ (fun j σ H' hj h => ?_) (fun σ H' h => ?_)⟩
        · exact ⟨y, rfl, same_new sm nM, upd_same⟩
        · obtain ⟨y, rfl, sm, hM⟩ := h
          obtain ⟨b, eb, eb2⟩ := getRef (ps := bs) (i := j) (by omega)
          have hI' := hI.same sm
          have lb : (penEnd ds (E6 j)).length = 6 := run_len6 (E6_len j)
          refine ⟨_, rfl, .inl ⟨rfl, _, SqL.of hM⟩, _, rfl, _, rfl, D, _, _, _, rfl, rfl, SqL.of hI'.1, at_of (j := j) (by omega) eb2, _, rfl, b, _, _, _, rfl, rfl, SqT.of (hI'.2 _ _ eb), at_nat (t := i) (by omega) (by rw [lb]; exact hi), _, rfl, _, rfl, o, _, _, _, rfl, rfl, SqT.of (sm _ _ ho), at_nat (t := i) (by omega) (by omega), _, _, rfl, rfl, M, _, _, rfl, rfl, hM, hsz _ (by omega), ?_⟩
          have eg : g (7 * (i + 1) + 1 + j) = (penEnd ds (E6 j)).getD i 0 - (penEnd ds Z6).getD i 0 := by
            show mcell (penEnd ds) ((7 * (i + 1) + 1 + j) / 7) ((7 * (i + 1) + 1 + j) % 7) = _
            rw [show (7 * (i + 1) + 1 + j) / 7 = i + 1 by omega, show (7 * (i + 1) + 1 + j) % 7 = j + 1 by omega]
            rfl
          dsimp only
          rw [← eg, range_snoc]
          exact ⟨_, rfl, same_new sm nM, upd_same⟩
        · obtain ⟨y, rfl, sm, hM⟩ := h
          exact ⟨_, _, rfl, sm, by rw [hM]; rfl⟩
      · obtain ⟨y, zz, rfl, sm, hM⟩ := h
        exact ⟨_, rfl, q M H' (s03.trans sm) (s03.free nM) hM⟩

--SPLIT
/-! ### where the law's machine says no, the program's does -/
def LRes.stL : LRes → LSt
  | .never s => s
  | .short s => s
  | .fin s => s
theorem run_preA {bs : List (List Stm)} : ∀ {n : Nat} {L : LSt}, L.taken ≤ L.bits.length → L.bits <+: (runL bs n L).stL.bits
  | 0, L, _ => ⟨[], by rw [List.append_nil]; rfl⟩
  | n + 1, L, ht => by
    unfold runL
    cases e : L.todo with
    | nil => exact ⟨[], by rw [List.append_nil]; rfl⟩
    | cons x r =>
      dsimp only
      cases et : taskL bs x { L with todo := r } with
      | none =>
        dsimp only
        split <;> exact ⟨[], by rw [List.append_nil]; rfl⟩
      | some res =>
        obtain ⟨blk, s'⟩ := res
        dsimp only
        obtain ⟨p1, p2⟩ := task_pre et ht
        exact p1.trans (run_preA (L := { s' with todo := blk ++ s'.todo }) p2)
/-- what the law says -/
def noL : LRes → Option Int
  | .never _ => some (-2)
  | .short s => some s.bits.length
  | .fin _ => none
theorem task_none {bs : List (List Stm)} {L : LSt} {e : ESt} {x : LTh} {r : List LTh} {i : Nat} (R : RelL bs L e) (I : InvL bs i L) (et : L.todo = x :: r) (ht : L.taken ≤ L.bits.length) (h : taskL bs x { L with todo := r } = none) :
    stepE bs L.bits (thOf x) { e with left := r.map thOf } = .no (if x.isCall then -2 else L.bits.length) := by
  cases x with
  | shut => cases h
  | out p sv a b w => cases h
  | st z =>
    cases z with
    | cmd c => cases h
    | keep b => cases h
    | fin w =>
      have h : (cutO r L.deeds).map _ = none := h
      have hc := fin_cut L.deeds (by rw [← et]; exact I.last)
      rw [Option.map_eq_none_iff] at h
      obtain ⟨q, hq⟩ := hc
      rw [h] at hq
      cases hq
    | again b =>
      have h : (bitL (.again b) { L with todo := r }).map _ = none := h
      rw [Option.map_eq_none_iff] at h
      have e1 : L.taken = L.bits.length := by
        unfold bitL at h
        dsimp only at h
        split at h
        · assumption
        · cases h
      have hn : L.bits[e.taken]? = none := by rw [R.tk, e1]; exact List.getElem?_eq_none (Nat.le_refl _)
      refine (step_again bs L.bits b _).trans ((takeE_none (s := { e with left := r.map thOf }) hn).trans ?_)
      show Out.no (e.taken : Int) = _
      rw [R.tk, e1]
      rfl
    | either a b =>
      have h : (bitL (.either a b) { L with todo := r }).map _ = none := h
      rw [Option.map_eq_none_iff] at h
      have e1 : L.taken = L.bits.length := by
        unfold bitL at h
        dsimp only at h
        split at h
        · assumption
        · cases h
      have hn : L.bits[e.taken]? = none := by rw [R.tk, e1]; exact List.getElem?_eq_none (Nat.le_refl _)
      refine (step_either bs L.bits a b _).trans ((takeE_none (s := { e with left := r.map thOf }) hn).trans ?_)
      show Out.no (e.taken : Int) = _
      rw [R.tk, e1]
      rfl
    | call p sv a b =>
      have h : (if (p, L.taken) ∈ L.opens then none else some _) = none := h
      split at h
      · rename_i hm
        obtain ⟨l, hz, _⟩ := I.ok _ (by rw [et]; exact List.mem_cons_self)
        have hp : p < bs.length := hz.2.1
        show beginE bs p sv a b _ = _
        unfold beginE
        dsimp only
        rw [R.bg p hp, List.getElem?_eq_getElem hp]
        dsimp only
        rw [if_pos (by rw [R.tk]; exact (beg_head R.asc R.le).mpr hm)]
        rfl
      · cases h
theorem runE_no' {bs : List (List Stm)} {bits : List Bool} {s : ESt} {x : Th} {r : List Th} {n : Nat} {i : Int} (h : s.left = x :: r) (e : stepE bs bits x { s with left := r } = .no i) : runE bs bits (n + 1) s = .no i := by
  unfold runE
  rw [h]
  dsimp only
  rw [e]
theorem sim_no {bs : List (List Stm)} (hbs : ∀ b ∈ bs, b.length ≤ 8 ∧ cntB b ≤ 12 ∧ okB bs.length b 0) : ∀ (n : Nat) (L : LSt) (e : ESt) (i : Nat), RelL bs L e → InvL bs i L → L.taken ≤ L.bits.length → ∀ z, noL (runL bs n L) = some z → ∃ m, m ≤ n ∧ runE bs (runL bs n L).stL.bits m e = .no z := by
  intro n
  induction n using Nat.strongRecOn with
  | ind n ih =>
    intro L e i R I ht z h
    cases n with
    | zero => cases h
    | succ n =>
      cases et : L.todo with
      | nil =>
        unfold runL at h
        rw [et] at h
        cases h
      | cons x r =>
        have el : e.left = thOf x :: r.map thOf := by rw [R.lf, et]; rfl
        cases ek : taskL bs x { L with todo := r } with
        | none =>
          have hst := task_none R I et ht ek
          refine ⟨n + 1, Nat.le_refl _, ?_⟩
          have er : runL bs (n + 1) L = if x.isCall then .never { L with todo := r } else .short { L with todo := r } := by
            conv => lhs; unfold runL
            rw [et]
            dsimp only
            rw [ek]
          rw [er] at h ⊢
          cases hc : x.isCall with
          | true =>
            rw [hc] at h hst
            have h : some (-2 : Int) = some z := h
            rw [← Option.some.inj h]
            exact runE_no' el hst
          | false =>
            rw [hc] at h hst
            have h : some ((L.bits.length : Nat) : Int) = some z := h
            rw [← Option.some.inj h]
            exact runE_no' el hst
        | some res =>
          obtain ⟨blk, L'⟩ := res
          have er : runL bs (n + 1) L = runL bs n { L' with todo := blk ++ L'.todo } := by
            conv => lhs; unfold runL
            rw [et]
            dsimp only
            rw [ek]
          rw [er] at h ⊢
          obtain ⟨p1, p2⟩ := task_pre ek ht
          have I2 := inv_step hbs I et ek
          by_cases hf : ∃ w, x = .st (.fin w)
          · obtain ⟨w, rfl⟩ := hf
            have ek2 : (cutO r L.deeds).map _ = some (blk, L') := ek
            rw [Option.map_eq_some_iff] at ek2
            obtain ⟨⟨⟨p, sv, a, b⟩, r', ds'⟩, hcut, eq⟩ := ek2
            have e1 := congrArg Prod.fst eq
            have e2 := congrArg Prod.snd eq
            dsimp only at e1 e2
            subst e2
            subst e1
            obtain ⟨pre, w1, er2, npre, eds⟩ := cutO_is hcut
            cases n with
            | zero => cases h
            | succ n =>
              have er3 : runL bs (n + 1) { { L with todo := r', deeds := ds' } with todo := [LTh.out p sv a b w] ++ r' } = runL bs n { L with opens := L.opens.dropLast, way := wayN w, deeds := ds' ++ backIf sv, todo := (if w then b else a).map LTh.st ++ r' } := rfl
              have er4 : runL bs (n + 1) _ = runL bs n { L with opens := L.opens.dropLast, way := wayN w, deeds := ds' ++ backIf sv, todo := (if w then b else a).map LTh.st ++ r' } := er3
              have h : noL (runL bs n { L with opens := L.opens.dropLast, way := wayN w, deeds := ds' ++ backIf sv, todo := (if w then b else a).map LTh.st ++ r' }) = some z := h
              have okO : LTh.okM bs.length (.out p sv a b w1) := I.ok _ (by rw [et, er2]; simp)
              obtain ⟨l, hz, _⟩ := okO
              have op := R.op
              rw [et, er2] at op
              have op2 : L.opens.map (·.1) = (p :: outsP r').reverse := by
                rw [op]
                have e1 : outsP (LTh.st (.fin w) :: (pre ++ LTh.out p sv a b w1 :: r')) = outsP pre ++ p :: outsP r' := by
                  show outsP (pre ++ LTh.out p sv a b w1 :: r') = _
                  rw [outsP_app]
                  rfl
                have e2 : outsP pre = [] := by
                  unfold outsP
                  rw [List.filterMap_eq_nil_iff]
                  intro y hy
                  have := npre y hy
                  cases y with
                  | out => cases this
                  | _ => rfl
                rw [e1, e2, List.nil_append]
              obtain ⟨e', h1, h2⟩ := leave_rel (r := r') (ds := ds') (a := a) (b := b) (sv := sv) w R.tk R.bl R.bg hz.2.1 op2 R.asc R.le (fun y hy => R.of y (by rw [et, er2]; simp [hy]))
              have hst : ∀ F, stepE bs F (thOf (.st (.fin w))) { e with left := r.map thOf } = .go e' := fun F => by
                show unwindE w { e with left := r.map thOf } = _
                unfold unwindE
                dsimp only
                rw [R.dd, unw_cut hcut]
                exact h1
              have I3 := inv_step hbs I2 (x := .out p sv a b w) (r := r') rfl rfl
              obtain ⟨m, hm, hr⟩ := ih n (by omega) _ e' _ h2 I3 ht z h
              exact ⟨m + 1, by omega, by rw [runE_cons' el (hst _)]; exact hr⟩
          · have pre2 : L'.bits <+: (runL bs n { L' with todo := blk ++ L'.todo }).stL.bits := run_preA (L := { L' with todo := blk ++ L'.todo }) p2
            obtain ⟨e', h1, h2⟩ := step_rel R et ht (I.ok x (by rw [et]; exact List.mem_cons_self)) (fun w hw => hf ⟨w, hw⟩) ek pre2
            obtain ⟨m, hm, hr⟩ := ih n (by omega) _ e' _ h2 I2 p2 z h
            exact ⟨m + 1, by omega, by rw [runE_cons' el h1]; exact hr⟩
theorem runE_noM {bs : List (List Stm)} {F : List Bool} {i : Int} : ∀ {m : Nat} {e : ESt}, runE bs F m e = .no i → ∀ k, runE bs F (m + k) e = .no i
  | 0, e, h, k => by
    unfold runE at h
    split at h <;> cases h
  | m + 1, e, h, k => by
    cases el : e.left with
    | nil =>
      rw [runE_done' el] at h
      cases h
    | cons x r =>
      rw [show m + 1 + k = (m + k) + 1 by omega]
      cases es : stepE bs F x { e with left := r } with
      | go s' =>
        rw [runE_cons' el es] at h ⊢
        exact runE_noM h k
      | no j =>
        rw [runE_no' el es] at h ⊢
        exact h
      | bad =>
        unfold runE at h
        rw [el] at h
        dsimp only at h
        rw [es] at h
        cases h
/-- what the law tells of a list that is no run -/
theorem tell_no {x : LRes} (h : (tellL x).1 ≠ "run") (h2 : (tellL x).1 ≠ "long") : noL x = some (tellL x).2.1 ∧ (tellL x).2.2.2 = x.stL.bits ∨ ∃ s, x = .fin s ∧ s.todo = [] ∧ s.taken < s.bits.length ∧ (tellL x).2.1 = s.taken ∧ (tellL x).2.2.2 = s.bits := by
  cases x with
  | never s => exact .inl ⟨rfl, rfl⟩
  | short s => exact .inl ⟨rfl, rfl⟩
  | fin s =>
    refine .inr ⟨s, rfl, ?_⟩
    unfold tellL at h h2 ⊢
    dsimp only at h h2 ⊢
    by_cases h1 : s.todo ≠ []
    · rw [if_pos h1] at h2
      exact absurd rfl h2
    · rw [if_neg h1] at h ⊢
      have h1 : s.todo = [] := Classical.byContradiction h1
      by_cases h3 : s.taken < s.bits.length
      · rw [if_pos h3]
        exact ⟨h1, h3, rfl, rfl⟩
      · rw [if_neg h3] at h
        exact absurd rfl h
theorem run_no {bs : List (List Stm)} (ob : OkBook bs) {pr ex : Nat} {bits : List Bool} (hp : pr < bs.length) (hb : bits.length ≤ 100) (h : (tellL (runL bs 3000 (initL pr bits ex))).1 ≠ "run") (h2 : (tellL (runL bs 3000 (initL pr bits ex))).1 ≠ "long") :
    runO bs (tellL (runL bs 3000 (initL pr bits ex))).2.2.2 3000 pr = .no (tellL (runL bs 3000 (initL pr bits ex))).2.1 := by
  rcases tell_no h h2 with ⟨e1, e2⟩ | ⟨s, e, h1, h3, e1, e2⟩
  · rw [e2]
    obtain ⟨m, hm, hr⟩ := sim_no ob.each 3000 _ _ 0 (rel_init bs pr ex bits) (inv_init hp hb) (Nat.zero_le _) _ e1
    have hr2 := runE_noM hr (3000 - m)
    rw [show m + (3000 - m) = 3000 by omega] at hr2
    unfold runO
    have hr3 : runE bs (runL bs 3000 (initL pr bits ex)).stL.bits 3000 (startE pr (initE bs)) = .no _ := hr2
    rw [hr3]
    rfl
  · rw [e1, e2]
    obtain ⟨m, e', hm, hr, R⟩ := sim ob.each 3000 _ _ 0 (rel_init bs pr ex bits) (inv_init hp hb) (Nat.zero_le _) s e h1
    have el : e'.left = [] := by rw [R.lf, h1]; rfl
    have hr2 := runE_more hr el (3000 - m)
    rw [show m + (3000 - m) = 3000 by omega] at hr2
    unfold runO
    have hr3 : runE bs s.bits 3000 (startE pr (initE bs)) = .go e' := hr2
    rw [hr3]
    show (if e'.taken < s.bits.length then Out.no e'.taken else Out.go e') = _
    rw [R.tk, if_pos h3]

--SPLIT
/-! ### statements without some commands -/
def stK (k : Cm → Bool) : Stm → Bool
  | .cmd c => k c
  | _ => true
mutual
def Stm.wo (k : Cm → Bool) : Stm → Stm
  | .cmd c => .cmd c
  | .fin w => .fin w
  | .keep b => .keep (woB k b)
  | .again b => .again (woB k b)
  | .either a b => .either (woB k a) (woB k b)
  | .call p s a b => .call p s (woB k a) (woB k b)
def woB (k : Cm → Bool) : List Stm → List Stm
  | [] => []
  | s :: r => if stK k s then s.wo k :: woB k r else woB k r
end
section
variable {k k2 : Cm → Bool}
theorem stK_wo (s : Stm) : stK k2 (s.wo k) = stK k2 s := by cases s <;> simp only [Stm.wo, stK]
theorem woB_len : ∀ b : List Stm, (woB k b).length ≤ b.length
  | [] => by simp [woB]
  | s :: r => by
    have := woB_len r
    rw [woB]
    split <;> simp <;> omega
mutual
theorem wo_cnt : ∀ s : Stm, (s.wo k).cnt ≤ s.cnt
  | .cmd c => by simp [Stm.wo]
  | .fin w => by simp [Stm.wo]
  | .keep b => by have := cntB_wo b; simp only [Stm.wo, Stm.cnt]; omega
  | .again b => by have := cntB_wo b; simp only [Stm.wo, Stm.cnt]; omega
  | .either a b => by have := cntB_wo a; have := cntB_wo b; simp only [Stm.wo, Stm.cnt]; omega
  | .call p s a b => by have := cntB_wo a; have := cntB_wo b; simp only [Stm.wo, Stm.cnt]; omega
theorem cntB_wo : ∀ b : List Stm, cntB (woB k b) ≤ cntB b
  | [] => by simp [woB]
  | s :: r => by
    have h1 := wo_cnt s
    have h2 := cntB_wo r
    rw [woB]
    split
    · simp only [cntB]; omega
    · simp only [cntB]; omega
end
mutual
theorem wo_ok {many : Nat} : ∀ (s : Stm) (l : Nat), s.ok many l → (s.wo k).ok many l
  | .cmd c, l, h => by simpa only [Stm.wo] using h
  | .fin w, l, h => by simp only [Stm.wo]; exact trivial
  | .keep b, l, ⟨h1, h2, h3⟩ => by
    simp only [Stm.wo]
    exact ⟨h1, Nat.le_trans (woB_len b) h2, okB_wo b (l + 1) h3⟩
  | .again b, l, ⟨h1, h2, h3⟩ => by
    simp only [Stm.wo]
    exact ⟨h1, Nat.le_trans (woB_len b) h2, okB_wo b (l + 1) h3⟩
  | .either a b, l, ⟨h1, ⟨h2, h3⟩, h4, h5⟩ => by
    simp only [Stm.wo]
    exact ⟨h1, ⟨Nat.le_trans (woB_len a) h2, okB_wo a (l + 1) h3⟩, Nat.le_trans (woB_len b) h4, okB_wo b (l + 1) h5⟩
  | .call p s a b, l, ⟨h1, hp, ⟨h2, h3⟩, h4, h5⟩ => by
    simp only [Stm.wo]
    exact ⟨h1, hp, ⟨Nat.le_trans (woB_len a) h2, okB_wo a (l + 1) h3⟩, Nat.le_trans (woB_len b) h4, okB_wo b (l + 1) h5⟩
theorem okB_wo {many : Nat} : ∀ (b : List Stm) (l : Nat), okB many b l → okB many (woB k b) l
  | [], l, h => by rw [woB]; exact trivial
  | s :: r, l, ⟨h1, h2⟩ => by
    rw [woB]
    split
    · exact ⟨wo_ok s l h1, okB_wo r l h2⟩
    · exact okB_wo r l h2
end
theorem okBook_wo {bs : List (List Stm)} (h : OkBook bs) : OkBook (bs.map (woB k)) := by
  refine ⟨by rw [List.length_map]; exact h.lo, by rw [List.length_map]; exact h.hi, fun b m => ?_⟩
  obtain ⟨b0, m0, rfl⟩ := List.mem_map.mp m
  obtain ⟨o1, o2, o3⟩ := h.each b0 m0
  rw [List.length_map]
  exact ⟨Nat.le_trans (woB_len _) o1, Nat.le_trans (cntB_wo _) o2, okB_wo _ _ o3⟩
mutual
theorem wo_wo (h : ∀ c, k2 c = true → k c = true) : ∀ s : Stm, (s.wo k).wo k2 = s.wo k2
  | .cmd c => by simp only [Stm.wo]
  | .fin w => by simp only [Stm.wo]
  | .keep b => by simp only [Stm.wo, woB_wo h b]
  | .again b => by simp only [Stm.wo, woB_wo h b]
  | .either a b => by simp only [Stm.wo, woB_wo h a, woB_wo h b]
  | .call p s a b => by simp only [Stm.wo, woB_wo h a, woB_wo h b]
theorem woB_wo (h : ∀ c, k2 c = true → k c = true) : ∀ b : List Stm, woB k2 (woB k b) = woB k2 b
  | [] => by simp only [woB]
  | s :: r => by
    have hs : stK k2 s = true → stK k s = true := fun e => by
      cases s <;> simp only [stK] at e ⊢
      exact h _ e
    rw [woB]
    by_cases g : stK k s = true
    · rw [if_pos g]
      conv => rhs; rw [woB]
      rw [woB, stK_wo, wo_wo h s, woB_wo h r]
    · rw [if_neg g, woB_wo h r]
      conv => rhs; rw [woB]
      rw [if_neg fun e => g (hs e)]
end
/-! ### and their runs -/
def thW (k : Cm → Bool) : Th → Option Th
  | .st z => if stK k z then some (.st (z.wo k)) else none
  | .beh p s a b => some (.beh p s (woB k a) (woB k b))
  | .back => some .back
def woL (k : Cm → Bool) (l : List Th) : List Th := l.filterMap (thW k)
def ddK (k : Cm → Bool) : Dd → Bool
  | .cmd c => k c
  | _ => true
def woE (k : Cm → Bool) (s : ESt) : ESt := { s with left := woL k s.left, deeds := s.deeds.filter (ddK k) }
theorem woL_map : ∀ b : List Stm, woL k (b.map Th.st) = (woB k b).map Th.st
  | [] => by simp [woL, woB]
  | s :: r => by
    have ih := woL_map r
    unfold woL at ih ⊢
    rw [List.map_cons, List.filterMap_cons, woB]
    by_cases g : stK k s = true
    · simp only [thW, if_pos g, List.map_cons, ih]
    · simp only [thW, if_neg g, ih, Bool.false_eq_true, if_false]
theorem woL_app (a b : List Th) : woL k (a ++ b) = woL k a ++ woL k b := List.filterMap_append ..
theorem enter_wo (b : List Stm) (s : ESt) : enterE (woB k b) (woE k s) = woE k (enterE b s) := by
  unfold enterE woE
  dsimp only
  rw [woL_app, woL_map]
def Out.wo (k : Cm → Bool) : Out → Out
  | .go s => .go (woE k s)
  | .no i => .no i
  | .bad => .bad
theorem leave_wo (p : Nat) (sv w : Bool) (a b : List Stm) (s : ESt) : leaveE p sv (woB k a) (woB k b) w (woE k s) = (leaveE p sv a b w s).wo k := by
  unfold leaveE
  cases e : s.begun[p]? with
  | none =>
    have e2 : (woE k s).begun[p]? = none := e
    rw [e2]
    rfl
  | some ns =>
    have e2 : (woE k s).begun[p]? = some ns := e
    rw [e2]
    cases ns with
    | nil => rfl
    | cons n r =>
      show Out.go _ = Out.go _
      congr 1
      unfold woE
      dsimp only
      rw [woL_app, woL_map, List.filter_append]
      cases w <;> cases sv <;> rfl
theorem begin_wo {bs : List (List Stm)} (p : Nat) (sv : Bool) (a b : List Stm) (s : ESt) : beginE (bs.map (woB k)) p sv (woB k a) (woB k b) (woE k s) = (beginE bs p sv a b s).wo k := by
  unfold beginE
  rw [List.getElem?_map]
  have e2 : (woE k s).begun[p]? = s.begun[p]? := rfl
  rw [e2]
  cases e : s.begun[p]? with
  | none => rfl
  | some ns =>
    cases eb : bs[p]? with
    | none => rfl
    | some body =>
      dsimp only [Option.map]
      show (if ns.head? = some s.taken then Out.no (-2) else _) = _
      by_cases g : ns.head? = some s.taken
      · rw [if_pos g, if_pos g]
        rfl
      · rw [if_neg g, if_neg g]
        show Out.go _ = Out.go _
        congr 1
        unfold woE
        dsimp only
        rw [woL_app, woL_map, List.filter_append]
        cases sv <;> rfl
theorem unw_wo : ∀ (l : List Th) (ds : List Dd), unwL (woL k l) (ds.filter (ddK k)) = (unwL l ds).map fun r => ((r.1.1, r.1.2.1, woB k r.1.2.2.1, woB k r.1.2.2.2), woL k r.2.1, r.2.2.filter (ddK k))
  | [], ds => rfl
  | .beh p sv a b :: r, ds => rfl
  | .back :: r, ds => by
    have ih := unw_wo r (ds ++ [.back])
    rw [List.filter_append] at ih
    exact ih
  | .st z :: r, ds => by
    have ih := unw_wo r ds
    show unwL (woL k (.st z :: r)) _ = (unwL r ds).map _
    rw [← ih]
    unfold woL
    rw [List.filterMap_cons]
    by_cases g : stK k z = true
    · simp only [thW, if_pos g]
      rfl
    · simp only [thW, if_neg g, Bool.false_eq_true, if_false]
theorem take_wo {bits : List Bool} {s : ESt} {f g : Bool → ESt → Out} (h : ∀ b s, g b (woE k s) = (f b s).wo k) : takeE bits (woE k s) g = (takeE bits s f).wo k := by
  unfold takeE
  have e : (woE k s).taken = s.taken := rfl
  rw [e]
  cases bits[s.taken]? with
  | none => rfl
  | some b => exact h b { s with taken := s.taken + 1 }
theorem step_wo {bs : List (List Stm)} {bits : List Bool} {x x' : Th} {s : ESt} (h : thW k x = some x') : stepE (bs.map (woB k)) bits x' (woE k s) = (stepE bs bits x s).wo k := by
  cases x with
  | back =>
    cases h
    show Out.go _ = Out.go _
    congr 1
    unfold woE
    dsimp only
    rw [List.filter_append]
    rfl
  | beh p sv a b =>
    cases h
    exact leave_wo p sv false a b s
  | st z =>
    simp only [thW] at h
    split at h
    · rename_i g
      cases h
      cases z with
      | cmd c =>
        simp only [Stm.wo]
        show Out.go _ = Out.go _
        congr 1
        unfold woE
        dsimp only
        rw [List.filter_append]
        have g : k c = true := g
        have : [Dd.cmd c].filter (ddK k) = [Dd.cmd c] := by simp [ddK, g]
        rw [this]
      | fin w =>
        simp only [Stm.wo]
        show unwindE w (woE k s) = (unwindE w s).wo k
        unfold unwindE
        have e := unw_wo (k := k) s.left s.deeds
        have e1 : (woE k s).left = woL k s.left := rfl
        have e2 : (woE k s).deeds = s.deeds.filter (ddK k) := rfl
        rw [e1, e2, e]
        cases unwL s.left s.deeds with
        | none => rfl
        | some r =>
          obtain ⟨⟨p, sv, a, b⟩, l, ds⟩ := r
          exact leave_wo p sv w a b { s with left := l, deeds := ds }
      | keep b =>
        simp only [Stm.wo]
        show Out.go (enterE (woB k b) _) = Out.go (woE k (enterE b _))
        rw [← enter_wo]
        congr 2
        unfold woE
        dsimp only
        rw [List.filter_append]
        rfl
      | again b =>
        simp only [Stm.wo]
        rw [step_again, step_again]
        refine take_wo fun w s => ?_
        show Out.go _ = Out.go _
        congr 1
        cases w
        · rfl
        · show enterE (woB k b) _ = woE k (enterE b _)
          rw [← enter_wo]
          congr 1
      | either a b =>
        simp only [Stm.wo]
        rw [step_either, step_either]
        refine take_wo fun w s => ?_
        show Out.go _ = Out.go _
        congr 1
        cases w
        · exact enter_wo a s
        · exact enter_wo b s
      | call p sv a b =>
        simp only [Stm.wo]
        exact begin_wo p sv a b s
    · cases h
theorem skip_wo {bs : List (List Stm)} {bits : List Bool} {x : Th} {s s' : ESt} (h : thW k x = none) (e : stepE bs bits x s = .go s') : woE k s' = woE k s := by
  cases x with
  | back => cases h
  | beh p sv a b => cases h
  | st z =>
    simp only [thW] at h
    split at h
    · cases h
    · rename_i g
      cases z with
      | cmd c =>
        cases e
        unfold woE
        dsimp only
        rw [List.filter_append]
        have : [Dd.cmd c].filter (ddK k) = [] := by
          have g : k c = false := by
            have g : ¬ k c = true := g
            simpa using g
          simp [ddK, g]
        rw [this, List.append_nil]
      | _ => exact absurd rfl g
theorem run_wo {bs : List (List Stm)} {bits : List Bool} : ∀ (n : Nat) (s s' : ESt), runE bs bits n s = .go s' → s'.left = [] → ∃ m, m ≤ n ∧ runE (bs.map (woB k)) bits m (woE k s) = .go (woE k s')
  | 0, s, s', h, hl => by
    unfold runE at h
    split at h
    · cases h
      refine ⟨0, Nat.le_refl _, ?_⟩
      unfold runE
      have : (woE k s).left = [] := by
        show woL k s.left = []
        rw [hl]
        rfl
      rw [this]
      rfl
    · cases h
  | n + 1, s, s', h, hl => by
    cases e : s.left with
    | nil =>
      rw [runE_done' e] at h
      cases h
      have : (woE k s).left = [] := by
        show woL k s.left = []
        rw [e]
        rfl
      exact ⟨n + 1, Nat.le_refl _, runE_done' this _⟩
    | cons x r =>
      cases es : stepE bs bits x { s with left := r } with
      | no i => rw [runE_no' e es] at h; cases h
      | bad =>
        unfold runE at h
        rw [e] at h
        dsimp only at h
        rw [es] at h
        cases h
      | go s2 =>
        rw [runE_cons' e es] at h
        obtain ⟨m, hm, hr⟩ := run_wo n s2 s' h hl
        cases hx : thW k x with
        | none =>
          refine ⟨m, by omega, ?_⟩
          have e2 := skip_wo hx es
          have e3 : woE k s = woE k { s with left := r } := by
            unfold woE
            dsimp only
            rw [e]
            unfold woL
            rw [List.filterMap_cons, hx]
          rw [e3, ← e2]
          exact hr
        | some x' =>
          refine ⟨m + 1, by omega, ?_⟩
          have e3 : (woE k s).left = x' :: woL k r := by
            show woL k s.left = _
            rw [e]
            unfold woL
            rw [List.filterMap_cons, hx]
          have e4 := step_wo (bs := bs) (bits := bits) (s := { s with left := r }) hx
          rw [es] at e4
          have e5 : stepE (bs.map (woB k)) bits x' { woE k s with left := woL k r } = .go (woE k s2) := e4
          rw [runE_cons' e3 e5]
          exact hr
theorem init_wo (bs : List (List Stm)) : initE (bs.map (woB k)) = woE k (initE bs) := by
  unfold initE woE
  dsimp only
  rw [List.map_map]
  rfl
theorem runE_left {bs : List (List Stm)} {bits : List Bool} : ∀ (n : Nat) (s s' : ESt), runE bs bits n s = .go s' → s'.left = []
  | 0, s, s', h => by
    unfold runE at h
    split at h
    · rename_i g
      cases h
      exact List.isEmpty_iff.mp g
    · cases h
  | n + 1, s, s', h => by
    cases e : s.left with
    | nil =>
      rw [runE_done' e] at h
      cases h
      exact e
    | cons x r =>
      cases es : stepE bs bits x { s with left := r } with
      | no i => rw [runE_no' e es] at h; cases h
      | bad =>
        unfold runE at h
        rw [e] at h
        dsimp only at h
        rw [es] at h
        cases h
      | go s2 =>
        rw [runE_cons' e es] at h
        exact runE_left n s2 s' h
theorem runO_left {bs : List (List Stm)} {bits : List Bool} {n p : Nat} {e : ESt} (h : runO bs bits n p = .go e) : e.left = [] := by
  unfold runO at h
  cases er : runE bs bits n (startE p (initE bs)) with
  | bad => rw [er] at h; cases h
  | no i => rw [er] at h; cases h
  | go s =>
    rw [er] at h
    have h : (if s.taken < bits.length then Out.no s.taken else Out.go s) = .go e := h
    split at h
    · cases h
    · cases h
      exact runE_left n _ _ er
theorem runO_wo {bs : List (List Stm)} {bits : List Bool} {n p : Nat} {e : ESt} (h : runO bs bits n p = .go e) : runO (bs.map (woB k)) bits n p = .go (woE k e) := by
  have hl := runO_left h
  unfold runO at h ⊢
  cases er : runE bs bits n (startE p (initE bs)) with
  | bad => rw [er] at h; cases h
  | no i => rw [er] at h; cases h
  | go s =>
    rw [er] at h
    have h : (if s.taken < bits.length then Out.no s.taken else Out.go s) = .go e := h
    split at h
    · cases h
    · rename_i g
      cases h
      obtain ⟨m, hm, hr⟩ := run_wo (k := k) n _ _ er hl
      have hr2 := runE_more hr (by show woL k e.left = []; rw [hl]; rfl) (n - m)
      rw [show m + (n - m) = n by omega] at hr2
      have es : startE p (initE (bs.map (woB k))) = woE k (startE p (initE bs)) := by
        rw [init_wo]
        rfl
      rw [es, hr2]
      show (if e.taken < bits.length then Out.no e.taken else Out.go (woE k e)) = _
      rw [if_neg g]
theorem good_wo {e : ESt} (g : GoodE e) : GoodE (woE k e) := by
  refine ⟨Nat.le_trans (List.length_filter_le _ _) g.len, fun d m => g.ok d (List.mem_filter.mp m).1, ?_⟩
  obtain ⟨j, hj⟩ := g.dep
  have all : ∀ (ds : List Dd) (n : Nat), depD (ds.filter (ddK k)) n = depD ds n := by
    intro ds
    induction ds with
    | nil => intro n; rfl
    | cons d r ih =>
      intro n
      cases d with
      | cmd c =>
        rw [List.filter_cons]
        split
        · exact ih n
        · exact ih n
      | hold => exact ih (n + 1)
      | back =>
        cases n with
        | zero => rfl
        | succ n => exact ih n
  exact ⟨j, by show depD (e.deeds.filter (ddK k)) 0 = _; rw [all]; exact hj⟩
theorem only_wo {e : ESt} : ∀ c, Dd.cmd c ∈ (woE k e).deeds → k c = true := fun c m => (List.mem_filter.mp m).2
end

--SPLIT
/-! ### a block without calls, alone and inside of a keep -/
def thN : Th → Prop
  | .st z => ∃ l, z.ok 0 l
  | .back => True
  | .beh _ _ _ _ => False
def backsL (l : List Th) : List Dd := l.filterMap fun x => match x with | .back => some .back | _ => none
theorem thN_blk {b : List Stm} {l : Nat} (h : okB 0 b l) : ∀ x ∈ b.map Th.st, thN x := fun x hx => by
  obtain ⟨z, hz, rfl⟩ := List.mem_map.mp hx
  obtain ⟨i, hi⟩ := List.getElem?_of_mem hz
  exact ⟨l, okB_get h hi⟩
theorem unw_app : ∀ (l : List Th), (∀ x ∈ l, thN x) → ∀ (ds : List Dd) (p : Nat) (sv : Bool) (a b : List Stm) (r : List Th), unwL (l ++ .beh p sv a b :: r) ds = some ((p, sv, a, b), r, ds ++ backsL l)
  | [], _, ds, p, sv, a, b, r => by
    show some _ = _
    simp [backsL]
  | .back :: l, h, ds, p, sv, a, b, r => by
    have ih := unw_app l (fun x m => h x (List.mem_cons_of_mem _ m)) (ds ++ [.back]) p sv a b r
    show unwL (l ++ .beh p sv a b :: r) (ds ++ [.back]) = _
    rw [ih, List.append_assoc]
    rfl
  | .st z :: l, h, ds, p, sv, a, b, r => by
    have ih := unw_app l (fun x m => h x (List.mem_cons_of_mem _ m)) ds p sv a b r
    show unwL (l ++ .beh p sv a b :: r) ds = _
    rw [ih]
    rfl
  | .beh _ _ _ _ :: l, h, ds, p, sv, a, b, r => (h _ List.mem_cons_self).elim
def isFin : Th → Bool
  | .st (.fin _) => true
  | _ => false
/-- a step that is no end: whatever stands below and behind -/
theorem step_loc {bits : List Bool} {x : Th} {s s' : ESt} {bs : List (List Stm)} (hx : thN x) (hf : isFin x = false) (h : stepE bs bits x s = .go s') :
    ∃ (nw : List Th) (dd : List Dd), (∀ y ∈ nw, thN y) ∧ s' = { s with taken := s'.taken, left := nw ++ s.left, deeds := s.deeds ++ dd } ∧ ∀ (bs2 : List (List Stm)) (s2 : ESt), s2.taken = s.taken → stepE bs2 bits x s2 = .go { s2 with taken := s'.taken, left := nw ++ s2.left, deeds := s2.deeds ++ dd } := by
  cases x with
  | back =>
    cases h
    refine ⟨[], [.back], (fun _ h => nomatch h), rfl, fun bs2 s2 e => ?_⟩
    rw [← e]
    rfl
  | beh p sv a b => exact hx.elim
  | st z =>
    obtain ⟨l, ho⟩ := hx
    cases z with
    | cmd c =>
      cases h
      refine ⟨[], [.cmd c], (fun _ h => nomatch h), rfl, fun bs2 s2 e => ?_⟩
      rw [← e]
      rfl
    | fin w => cases hf
    | keep b =>
      cases h
      refine ⟨b.map Th.st ++ [.back], [.hold], all_app (thN_blk ho.2.2) (fun y m => by rw [List.mem_singleton.mp m]; exact trivial), ?_, fun bs2 s2 e => ?_⟩
      · unfold enterE
        dsimp only
        rw [List.append_assoc]
        rfl
      · rw [← e]
        show Out.go (enterE b _) = _
        unfold enterE
        dsimp only
        rw [List.append_assoc]
        rfl
    | again b =>
      simp only [stepE, takeE] at h
      split at h
      · cases h
      · rename_i w e2
        cases h
        cases w
        · refine ⟨[], [], (fun _ h => nomatch h), ?_, fun bs2 s2 e => ?_⟩
          · simp
          · simp only [stepE, takeE, e, e2]
            simp
        · refine ⟨b.map Th.st ++ [.st (.again b)], [], all_app (thN_blk ho.2.2) (fun y m => by rw [List.mem_singleton.mp m]; exact ⟨l, ho⟩), ?_, fun bs2 s2 e => ?_⟩
          · simp [enterE]
          · simp only [stepE, takeE, e, e2]
            simp [enterE]
    | either a b =>
      simp only [stepE, takeE] at h
      split at h
      · cases h
      · rename_i w e2
        cases h
        refine ⟨(if w then b else a).map Th.st, [], ?_, ?_, fun bs2 s2 e => ?_⟩
        · cases w
          · exact thN_blk ho.2.1.2
          · exact thN_blk ho.2.2.2
        · simp [enterE]
        · simp only [stepE, takeE, e, e2]
          simp [enterE]
    | call p sv a b => exact absurd ho.2.1 (Nat.not_lt_zero _)
abbrev BH : Th := .beh 0 false [] []
/-- the two, side by side -/
structure KRel (e e' : ESt) (l : List Th) : Prop where
  n : ∀ x ∈ l, thN x
  l1 : e.left = l ++ [BH]
  l2 : e'.left = l ++ [.back, BH]
  tk : e'.taken = e.taken
  b1 : e.begun = [[0]]
  b2 : e'.begun = [[0]]
  d : e'.deeds = .hold :: e.deeds
theorem kept_run {bs bs2 : List (List Stm)} {bits : List Bool} : ∀ (n : Nat) (e e' : ESt) (l : List Th) (s : ESt), KRel e e' l → runE bs bits n e = .go s →
    ∃ m s', m ≤ n + 1 ∧ runE bs2 bits m e' = .go s' ∧ s'.left = [] ∧ s'.taken = s.taken ∧ s'.way = s.way ∧ s'.deeds = .hold :: s.deeds ++ [.back]
  | 0, e, e', l, s, R, h => by
    unfold runE at h
    rw [R.l1] at h
    cases l <;> cases h
  | n + 1, e, e', [], s, R, h => by
    have l1 : e.left = BH :: [] := R.l1
    have l2 : e'.left = .back :: [BH] := R.l2
    have st : stepE bs bits BH { e with left := [] } = .go { e with left := [], begun := [[]], deeds := e.deeds ++ [], way := 0 } := by
      show leaveE 0 false [] [] false _ = _
      unfold leaveE
      dsimp only
      rw [R.b1]
      rfl
    rw [runE_cons' l1 st] at h
    have h : s = { e with left := [], begun := [[]], deeds := e.deeds ++ [], way := 0 } := by
      cases n with
      | zero => cases h; rfl
      | succ n =>
        rw [runE_done' rfl] at h
        cases h
        rfl
    subst h
    have st1 : stepE bs2 bits .back { e' with left := [BH] } = .go { e' with left := [BH], deeds := e'.deeds ++ [Dd.back] } := rfl
    have st2 : stepE bs2 bits BH { { e' with left := [BH], deeds := e'.deeds ++ [Dd.back] } with left := [] } = .go { e' with left := [], begun := [[]], deeds := e'.deeds ++ [Dd.back] ++ [], way := 0 } := by
      show leaveE 0 false [] [] false _ = _
      unfold leaveE
      dsimp only
      rw [R.b2]
      rfl
    refine ⟨2, { e' with left := [], begun := [[]], deeds := e'.deeds ++ [Dd.back] ++ [], way := 0 }, by omega, ?_, rfl, R.tk, rfl, ?_⟩
    · rw [runE_cons' l2 st1, runE_cons' rfl st2]
      rfl
    · show e'.deeds ++ [.back] ++ [] = .hold :: (e.deeds ++ []) ++ [.back]
      rw [R.d, List.append_nil, List.append_nil]
  | n + 1, e, e', x :: l, s, R, h => by
    have l1 : e.left = x :: (l ++ [BH]) := R.l1
    have l2 : e'.left = x :: (l ++ [.back, BH]) := R.l2
    have hx := R.n x List.mem_cons_self
    have hl : ∀ y ∈ l, thN y := fun y m => R.n y (List.mem_cons_of_mem _ m)
    cases hf : isFin x with
    | true =>
      obtain ⟨w, rfl⟩ : ∃ w, x = .st (.fin w) := by
        cases x with
        | st z => cases z <;> first | exact ⟨_, rfl⟩ | cases hf
        | _ => cases hf
      have st : stepE bs bits (.st (.fin w)) { e with left := l ++ [BH] } = .go { e with left := [], begun := [[]], deeds := e.deeds ++ backsL l ++ [], way := wayN w } := by
        show unwindE w _ = _
        unfold unwindE
        dsimp only
        rw [unw_app l hl]
        dsimp only
        unfold leaveE
        dsimp only
        rw [R.b1]
        cases w <;> rfl
      have st2 : stepE bs2 bits (.st (.fin w)) { e' with left := l ++ [.back, BH] } = .go { e' with left := [], begun := [[]], deeds := e'.deeds ++ backsL (l ++ [.back]) ++ [], way := wayN w } := by
        show unwindE w _ = _
        unfold unwindE
        dsimp only
        have e1 : l ++ [Th.back, BH] = (l ++ [.back]) ++ BH :: [] := by rw [List.append_assoc]; rfl
        rw [e1, unw_app (l ++ [.back]) (all_app hl fun y m => by rw [List.mem_singleton.mp m]; exact trivial)]
        dsimp only
        unfold leaveE
        dsimp only
        rw [R.b2]
        cases w <;> rfl
      rw [runE_cons' l1 st] at h
      have h : s = { e with left := [], begun := [[]], deeds := e.deeds ++ backsL l ++ [], way := wayN w } := by
        cases n with
        | zero => cases h; rfl
        | succ n =>
          rw [runE_done' rfl] at h
          cases h
          rfl
      subst h
      refine ⟨1, { e' with left := [], begun := [[]], deeds := e'.deeds ++ backsL (l ++ [.back]) ++ [], way := wayN w }, by omega, ?_, rfl, R.tk, rfl, ?_⟩
      · rw [runE_cons' l2 st2]
        rfl
      · show e'.deeds ++ backsL (l ++ [.back]) ++ [] = .hold :: (e.deeds ++ backsL l ++ []) ++ [.back]
        rw [R.d, List.append_nil, List.append_nil]
        unfold backsL
        rw [List.filterMap_append]
        simp
    | false =>
      cases es : stepE bs bits x { e with left := l ++ [BH] } with
      | no i => rw [runE_no' l1 es] at h; cases h
      | bad =>
        unfold runE at h
        rw [l1] at h
        dsimp only at h
        rw [es] at h
        cases h
      | go s2 =>
        rw [runE_cons' l1 es] at h
        obtain ⟨nw, dd, hn, e2, q⟩ := step_loc hx hf es
        have es2 := q bs2 { e' with left := l ++ [.back, BH] } R.tk
        have R2 : KRel s2 { e' with taken := s2.taken, left := nw ++ (l ++ [.back, BH]), deeds := e'.deeds ++ dd } (nw ++ l) := by
          refine ⟨all_app hn hl, ?_, ?_, rfl, ?_, R.b2, ?_⟩
          · rw [e2]
            show nw ++ (l ++ [BH]) = _
            rw [List.append_assoc]
          · show nw ++ (l ++ [.back, BH]) = _
            rw [List.append_assoc]
          · rw [e2]
            exact R.b1
          · rw [e2]
            show e'.deeds ++ dd = .hold :: (e.deeds ++ dd)
            rw [R.d]
            rfl
        obtain ⟨m, s', hm, hr, h1, h2, h3, h4⟩ := kept_run n s2 _ (nw ++ l) s R2 h
        exact ⟨m + 1, s', by omega, by rw [runE_cons' l2 es2]; exact hr, h1, h2, h3, h4⟩
theorem kept_runO {b : List Stm} {l n : Nat} {bits : List Bool} {e : ESt} (ob : okB 0 b l) (h : runO [b] bits n 0 = .go e) : ∃ e', runO [[.keep b]] bits (n + 2) 0 = .go e' ∧ e'.way = e.way ∧ e'.deeds = .hold :: e.deeds ++ [.back] := by
  have hl := runO_left h
  unfold runO at h
  cases er : runE [b] bits n (startE 0 (initE [b])) with
  | bad => rw [er] at h; cases h
  | no i => rw [er] at h; cases h
  | go s =>
    rw [er] at h
    have h : (if s.taken < bits.length then Out.no s.taken else Out.go s) = .go e := h
    split at h
    · cases h
    · rename_i g
      cases h
      cases n with
      | zero => cases er
      | succ n =>
        have l0 : (startE 0 (initE [b])).left = .st (.call 0 false [] []) :: [] := rfl
        have l0' : (startE 0 (initE [[.keep b]])).left = .st (.call 0 false [] []) :: [] := rfl
        have st : stepE [b] bits (.st (.call 0 false [] [])) { startE 0 (initE [b]) with left := [] } = .go { startE 0 (initE [b]) with left := b.map Th.st ++ [BH], begun := [[0]], deeds := [] } := rfl
        have st' : stepE [[.keep b]] bits (.st (.call 0 false [] [])) { startE 0 (initE [[.keep b]]) with left := [] } = .go { startE 0 (initE [[.keep b]]) with left := .st (.keep b) :: [BH], begun := [[0]], deeds := [] } := rfl
        rw [runE_cons' l0 st] at er
        have st2 : stepE [[.keep b]] bits (.st (.keep b)) { { startE 0 (initE [[.keep b]]) with left := .st (.keep b) :: [BH], begun := [[0]], deeds := [] } with left := [BH] } = .go { startE 0 (initE [[.keep b]]) with left := b.map Th.st ++ [.back, BH], begun := [[0]], deeds := [.hold] } := rfl
        obtain ⟨m, s', hm, hr, h1, h2, h3, h4⟩ := kept_run (bs := [b]) (bs2 := [[.keep b]]) (bits := bits) n { startE 0 (initE [b]) with left := b.map Th.st ++ [BH], begun := [[0]], deeds := [] } { startE 0 (initE [[.keep b]]) with left := b.map Th.st ++ [.back, BH], begun := [[0]], deeds := [.hold] } (b.map Th.st) e ⟨thN_blk ob, rfl, rfl, rfl, rfl, rfl, rfl⟩ er
        have hr2 := runE_more hr h1 (n + 1 - m)
        rw [show m + (n + 1 - m) = n + 1 by omega] at hr2
        refine ⟨s', ?_, h3, h4⟩
        unfold runO
        rw [show n + 1 + 2 = (n + 1) + 1 + 1 by omega, runE_cons' l0' st', runE_cons' rfl st2, hr2]
        show (if s'.taken < bits.length then Out.no s'.taken else Out.go s') = _
        rw [h2, if_neg g]
theorem run_dep0 {bs : List (List Stm)} (ob : OkBook bs) {pr ex : Nat} {bits : List Bool} (hp : pr < bs.length) (hb : bits.length ≤ 100) {s : LSt} (h : runL bs 3000 (initL pr bits ex) = .fin s) (h1 : s.todo = []) : depD s.deeds 0 = some 0 ∧ s.deeds.length ≤ 90000 := by
  obtain ⟨D, I⟩ := dep_run ob.each (inv_init hp hb) (L := initL pr bits ex) ⟨rfl, by intro d hd; cases hd⟩ h
  have h2 := D.dep
  rw [h1] at h2
  refine ⟨h2, ?_⟩
  have := I.todo
  omega
/-- the pen behind the kept deeds -/
def keptP (f : List Int → List Int) (ps : List Int) : List Int := ps.take 4 ++ (f ps).drop 4
theorem fold_app (xs ys : List Dd) (z : List (List Int) × List Int) : penFold (xs ++ ys) z = penFold ys (penFold xs z) := by
  unfold penFold
  rw [List.foldl_append]
/-- what stands below is not touched -/
theorem fold_below : ∀ (ds : List Dd) (hs r : List (List Int)) (p : List Int) (k : Nat), depD ds hs.length = some k → penFold ds (hs ++ r, p) = ((penFold ds (hs, p)).1 ++ r, (penFold ds (hs, p)).2)
  | [], hs, r, p, k, _ => rfl
  | .cmd c :: ds, hs, r, p, k, h => fold_below ds hs r (c.mv p) k h
  | .hold :: ds, hs, r, p, k, h => fold_below ds (p :: hs) r p k h
  | .back :: ds, [], r, p, k, h => by cases h
  | .back :: ds, q :: hs, r, p, k, h => fold_below ds hs r (q.take 4 ++ p.drop 4) k h
theorem end_kept {ds : List Dd} (h : depD ds 0 = some 0) (ps : List Int) : penEnd (.hold :: ds ++ [.back]) ps = keptP (penEnd ds) ps := by
  have e1 : penFold (.hold :: ds ++ [.back]) ([], ps) = penFold [.back] (penFold ds ([ps], ps)) := by
    rw [List.cons_append]
    show penFold (ds ++ [.back]) ([ps], ps) = _
    rw [fold_app]
  have e2 := fold_below ds [] [ps] ps 0 h
  have e3 := dep_len (xs := ds) (z := ([], ps)) h
  unfold penEnd
  rw [e1, show ([ps] : List (List Int)) = [] ++ [ps] from rfl, e2]
  have e4 : (penFold ds ([], ps)).1 = [] := List.length_eq_zero_iff.mp e3
  rw [e4]
  rfl
theorem kept_good {e e' : ESt} (g : GoodE e) (h : depD e.deeds 0 = some 0) (hd : e'.deeds = .hold :: e.deeds ++ [.back]) (hl : e.deeds.length ≤ 90000) : GoodE e' := by
  refine ⟨?_, fun d m => ?_, 0, ?_⟩
  · rw [hd, List.length_append, List.length_cons, List.length_singleton]
    omega
  · rw [hd] at m
    rcases List.mem_append.mp m with m | m
    · rcases List.mem_cons.mp m with rfl | m
      · trivial
      · exact g.ok d m
    · rw [List.mem_singleton.mp m]
      trivial
  · rw [hd, List.cons_append]
    show depD (e.deeds ++ [.back]) 1 = some 0
    have up : ∀ (ds : List Dd) (n k : Nat), depD ds n = some k → depD ds (n + 1) = some (k + 1) := by
      intro ds
      induction ds with
      | nil => intro n k h; cases h; rfl
      | cons d r ih =>
        intro n k h
        cases d with
        | cmd c => exact ih n k h
        | hold => exact ih (n + 1) k h
        | back =>
          cases n with
          | zero => cases h
          | succ n => exact ih n k h
    rw [depD_append, up _ _ _ h]
    rfl
theorem kept_cmds {e e' : ESt} (hd : e'.deeds = .hold :: e.deeds ++ [.back]) : cmdsN e' = cmdsN e := by
  unfold cmdsN
  rw [hd, List.cons_append, List.filter_cons, List.filter_append]
  simp [Dd.isC]
theorem kept_six {f : List Int → List Int} (h6 : ∀ ps : List Int, ps.length = 6 → (f ps).length = 6) {ps : List Int} (h : ps.length = 6) : (keptP f ps).length = 6 := by
  have := h6 ps h
  unfold keptP
  rw [List.length_append, List.length_take, List.length_drop]
  omega
theorem kcut {a b : List Int} (ha : a.length = 6) (hb : b.length = 6) (i : Nat) : (1 :: (a.take 4 ++ b.drop 4)).getD i 0 = if i < 5 then (1 :: a).getD i 0 else (1 :: b).getD i 0 := by
  obtain ⟨a0, a1, a2, a3, a4, a5, rfl⟩ := list6' ha
  obtain ⟨b0, b1, b2, b3, b4, b5, rfl⟩ := list6' hb
  match i with
  | 0 => rfl
  | 1 => rfl
  | 2 => rfl
  | 3 => rfl
  | 4 => rfl
  | 5 => rfl
  | 6 => rfl
  | n + 7 => rfl
theorem mcell_kept {f : List Int → List Int} (h6 : ∀ ps : List Int, ps.length = 6 → (f ps).length = 6) (i l : Nat) : mcell (keptP f) i l = if i < 5 then mcell (fun ps => ps) i l else mcell f i l := by
  unfold mcell keptP
  rw [kcut rfl (h6 _ rfl), kcut (E6_len _) (h6 _ (E6_len _))]
  split <;> split <;> rfl
/-- the rows that a keep puts in -/
def midK : List Int := (List.range 28).map fun k => if (7 + k) % 8 = 0 then 1 else 0
theorem mcell_mid : ∀ t : Fin 28, mcell (fun ps => ps) ((7 + t.val) / 7) ((7 + t.val) % 7) = if (7 + t.val) % 8 = 0 then 1 else 0 := by decide +kernel
theorem kept_mat {f : List Int → List Int} (h6 : ∀ ps : List Int, ps.length = 6 → (f ps).length = 6) : matL (keptP f) = (matL f).take 7 ++ midK ++ (matL f).drop 35 := by
  have lf : ∀ g : List Int → List Int, (matL g).length = 49 := fun g => by unfold matL; rw [List.length_map, List.length_range]
  have at_ : ∀ (g : List Int → List Int) (t : Nat), t < 49 → (matL g)[t]? = some (mcell g (t / 7) (t % 7)) := fun g t h => by
    unfold matL
    rw [List.getElem?_map, List.getElem?_range h]
    rfl
  refine List.ext_getElem? fun t => ?_
  by_cases h : t < 49
  · rw [at_ _ _ h, mcell_kept h6]
    have l1 : ((matL f).take 7).length = 7 := by rw [List.length_take, lf]; rfl
    have l2 : midK.length = 28 := by unfold midK; rw [List.length_map, List.length_range]
    by_cases h1 : t < 7
    · rw [if_pos (by omega), List.append_assoc, List.getElem?_append_left (by omega), List.getElem?_take_of_lt h1, at_ _ _ h]
      have e0 : t / 7 = 0 := by omega
      rw [e0]
      congr 1
    · by_cases h2 : t < 35
      · rw [if_pos (by omega), List.append_assoc, List.getElem?_append_right (by omega), List.getElem?_append_left (by omega), l1]
        have e := mcell_mid ⟨t - 7, by omega⟩
        have e2 : 7 + (t - 7) = t := by omega
        dsimp only at e
        rw [e2] at e
        rw [e]
        unfold midK
        rw [List.getElem?_map, List.getElem?_range (by omega)]
        show _ = some (if (7 + (t - 7)) % 8 = 0 then (1 : Int) else 0)
        rw [e2]
      · rw [if_neg (by omega), List.append_assoc, List.getElem?_append_right (by omega), List.getElem?_append_right (by omega), l1, l2, List.getElem?_drop, show 35 + (t - 7 - 28) = t by omega, at_ _ _ h]
  · rw [List.getElem?_eq_none (by rw [lf]; omega), List.getElem?_eq_none (by
      rw [List.length_append, List.length_append, List.length_take, List.length_drop, lf]
      unfold midK
      rw [List.length_map, List.length_range]
      omega)]

--SPLIT
theorem cutTo {ns : List Int} {n : Nat} : cutV (ns.map V.int) none (some (n : Int)) = (ns.take n).map V.int := by
  rw [cut_to, ← List.map_take]
theorem cutFrom {ns : List Int} {n : Nat} (h : n ≤ ns.length) : cutV (ns.map V.int) (some (n : Int)) none = (ns.drop n).map V.int := by
  unfold cutV
  rw [HT.sIx_none, show HT.sIx (ns.map V.int).length 0 (some (n : Int)) = min n (ns.map V.int).length from HT.sIx_nat _ _ n, Nat.min_eq_left (by rw [List.length_map]; exact h), ← List.map_drop]
  refine List.take_of_length_le ?_
  rw [List.length_map, List.length_map, List.length_drop]
  omega
theorem okB_le {m m2 : Nat} (hm : m ≤ m2) : ∀ (b : List Stm) (l l2 : Nat), l2 ≤ l → okB m b l → okB m2 b l2 := by
  have st : ∀ (n : Nat) (z : Stm) (l l2 : Nat), z.cnt ≤ n → l2 ≤ l → z.ok m l → z.ok m2 l2 := by
    intro n
    induction n with
    | zero => intro z l l2 hc; have := z.cnt_pos; omega
    | succ n ih =>
      have bl : ∀ (b : List Stm) (l l2 : Nat), cntB b ≤ n → l2 ≤ l → okB m b l → okB m2 b l2 := by
        intro b
        induction b with
        | nil => intro l l2 _ _ _; trivial
        | cons z r ihr =>
          intro l l2 hc hl h
          simp only [cntB] at hc
          exact ⟨ih z l l2 (by omega) hl h.1, ihr l l2 (by omega) hl h.2⟩
      intro z l l2 hc hl h
      cases z with
      | cmd c => exact h
      | fin w => trivial
      | keep b => simp only [Stm.cnt] at hc; exact ⟨by have := h.1; omega, h.2.1, bl b _ _ (by omega) (by omega) h.2.2⟩
      | again b => simp only [Stm.cnt] at hc; exact ⟨by have := h.1; omega, h.2.1, bl b _ _ (by omega) (by omega) h.2.2⟩
      | either a b => simp only [Stm.cnt] at hc; exact ⟨by have := h.1; omega, ⟨h.2.1.1, bl a _ _ (by omega) (by omega) h.2.1.2⟩, h.2.2.1, bl b _ _ (by omega) (by omega) h.2.2.2⟩
      | call p s a b => simp only [Stm.cnt] at hc; exact ⟨by have := h.1; omega, by have := h.2.1; omega, ⟨h.2.2.1.1, bl a _ _ (by omega) (by omega) h.2.2.1.2⟩, h.2.2.2.1, bl b _ _ (by omega) (by omega) h.2.2.2.2⟩
  intro b
  induction b with
  | nil => intro l l2 _ _; trivial
  | cons z r ih => intro l l2 hl h; exact ⟨st _ z l l2 (Nat.le_refl _) hl h.1, ih l l2 hl h.2⟩

theorem ob_alone {ss : List Stm} (hc : cntB ss ≤ 6) (ho : okB 0 ss 1) : OkBook [ss] := ⟨Nat.le_refl 1, (by show 1 ≤ 3; decide), fun b m => by
  rw [List.mem_singleton.mp m]
  have := len_cntB ss
  exact ⟨by omega, by omega, okB_le (Nat.zero_le _) ss 1 0 (by decide) ho⟩⟩
theorem ob_inside {ss : List Stm} (hc : cntB ss ≤ 6) (ho : okB 0 ss 1) : OkBook [[.keep ss]] := ⟨Nat.le_refl 1, (by show 1 ≤ 3; decide), fun b m => by
  rw [List.mem_singleton.mp m]
  have := len_cntB ss
  exact ⟨(by show 1 ≤ 8; decide), by simp only [cntB, Stm.cnt]; omega, ⟨by decide, by omega, okB_le (Nat.zero_le _) ss 1 1 (by decide) ho⟩, trivial⟩⟩
def spLaw (K : PySem.W.Frag) : Sp := fun vs H Q _ => ∃ (a : Addr) (ns : List Int), vs = [.ref a] ∧ SqL K H a (ns.map V.int) ∧ ns.length ≤ 63 ∧ ∀ H', Q (.bl true) H'
set_option maxHeartbeats 2000000 in
theorem ok_law (T : Top w K mg) : FnG P w K mg base CX0 20 T.a_law T.d_law ["_law_script"] (spLaw K) := by
  refine fun_okG T.F_law sc_law (fun vs H Q E h => ?_) (fun cdv A outer s H vs Q E hgd hr h => ?_)
  · obtain ⟨a, ns, rfl, _⟩ := h
    rfl
  · obtain ⟨a, ns, rfl, hS, hlen, q⟩ := h
    refine ⟨_, (pss_cons (ps_set (i := 1) sc_law.nd rfl (Or.inl rfl) (pe_call (ok__law_pool T) (hr.mono (by decide)) (by rfl) T.g__law_pool T.F__law_pool.kp (b__law_pool T) .nil pass0 (pa_cons (pv 0) pa_nil)))
      (pss_cons (ps_set (i := 2) sc_law.nd rfl (Or.inl rfl) (pe_call (ok__law_draw T) (hr.mono (by decide)) (by rfl) T.g__law_draw T.F__law_draw.kp (b__law_draw T) .nil pass0 (pa_cons (pv 1) (pa_cons pe_int pa_nil))))
      (pss_cons (ps_set (i := 3) sc_law.nd rfl (Or.inl rfl) (pe_lst (pa_cons pe_int pa_nil)))
      (pss_cons (ps_set (i := 4) sc_law.nd rfl (Or.inl rfl) (pe_lst pa_nil))
      (pss_cons (ps_for PassesOwn.never rfl (pi_range1 (by rfl) T.z_range (pa_cons (pe_op op_add pe_int (pe_call (ok__law_draw T) (hr.mono (by decide)) (by rfl) T.g__law_draw T.F__law_draw.kp (b__law_draw T) .nil pass0 (pa_cons (pv 1) (pa_cons pe_int pa_nil)))) pa_nil)) (pg_name (i := 5) sc_law.nd rfl (Or.inl rfl)) (pss_one (ps_if (pt_cmpR op_gt (pe_ix (k_ixL K) (pv 3) pe_int (fun _ _ => rfl)) pe_int (nomark _)) (pss_one (ps_set (i := 4) sc_law.nd rfl (Or.inl rfl) (pe_op op_cat (pv 4) (pe_call (ok__law_piece T) hr (by rfl) T.g__law_piece T.F__law_piece.kp (b__law_piece T) .nil pass0 (pa_cons (pv 1) (pa_cons (pv 2) (pa_cons pe_int (pa_cons (pv 3) (pa_cons (pe_lst (pa_cons pe_int (pa_cons pe_int pa_nil))) (pa_cons pe_int pa_nil)))))))))) pss_nil)))
      (pss_cons (ps_set (i := 6) sc_law.nd rfl (Or.inl rfl) (pe_make T.mk_Book (ok_Book___init__ T) (hr.mono (by decide)) (by rfl) T.g_Book (b_Book___init__ T) .nil pass0 (pa_cons (pe_lst (pa_cons (pe_call (ok__law_copy T) (hr.mono (by decide)) (by rfl) T.g__law_copy T.F__law_copy.kp (b__law_copy T) .nil pass0 (pa_cons (pv 4) pa_nil)) pa_nil)) pa_nil)))
      (pss_cons (ps_set (i := 7) sc_law.nd rfl (Or.inl rfl) (pe_make T.mk_Book (ok_Book___init__ T) (hr.mono (by decide)) (by rfl) T.g_Book (b_Book___init__ T) .nil pass0 (pa_cons (pe_lst (pa_cons (pe_lst (pa_cons (pe_tup (pa_cons pe_str (pa_cons (pe_call (ok__law_copy T) (hr.mono (by decide)) (by rfl) T.g__law_copy T.F__law_copy.kp (b__law_copy T) .nil pass0 (pa_cons (pv 4) pa_nil)) pa_nil))) pa_nil)) pa_nil)) pa_nil)))
      (pss_cons (ps_for PassesOwn.never rfl (pi_range1 (by rfl) T.z_range (pa_cons (pe_callB (call_min2 rfl) (by rfl) T.z_min bt_min (pa_cons pe_int (pa_cons (pe_callB (k_len K) (by rfl) T.z_len bt_len (pa_cons (pv 1) pa_nil)) pa_nil))) pa_nil)) (pg_name (i := 5) sc_law.nd rfl (Or.inl rfl)) (pss_cons (ps_set (i := 8) sc_law.nd rfl (Or.inl rfl) (pe_call (ok__law_pen T) (hr.mono (by decide)) (by rfl) T.g__law_pen T.F__law_pen.kp (b__law_pen T) .nil pass0 (pa_cons (pv 1) pa_nil)))
        (pss_cons (ps_set (i := 9) sc_law.nd rfl (Or.inl rfl) (pe_callG hgd (ok__law_steered T) (hr.mono (by decide)) (by rfl) T.g__law_steered T.F__law_steered.kp (b__law_steered T) (pa_cons (pv 1) (pa_cons (pe_lst (pa_cons (pv 4) pa_nil)) (pa_cons pe_int (pa_cons pe_int (pa_cons pe_int pa_nil)))))))
        (pss_one (ps_if (pt_cmpR op_eq (pe_ix (k_ixT K) (pv 9) pe_int (fun _ _ => rfl)) pe_str (nomark _)) (pss_cons (ps_set (i := 10) sc_law.nd rfl (Or.inl rfl) (pe_callTy (k_list K) (by rfl) T.z_list bt_list (pa_cons (pe_ix (k_ixT K) (pv 9) pe_int (fun _ _ => rfl)) pa_nil)))
          (pss_cons (ps_set (i := 11) sc_law.nd rfl (Or.inl rfl) (pe_callN (ok_ran T) (hr.mono (by decide)) (by rfl) T.g_ran T.F_ran.kp (bk_ran T) passX0 (pa_cons (pv 6) (pa_cons pe_int (pa_cons (pv 10) pa_nil))) (pk_cons (pv 8) pk_nil)))
          (pss_cons (ps_set (i := 12) sc_law.nd rfl (Or.inl rfl) (pe_callN (ok_ran T) (hr.mono (by decide)) (by rfl) T.g_ran T.F_ran.kp (bk_ran T) passX0 (pa_cons (pv 7) (pa_cons pe_int (pa_cons (pv 10) pa_nil))) (pk_cons (pv 8) pk_nil)))
          (pss_cons (ps_set (i := 13) sc_law.nd rfl (Or.inl rfl) (pe_ix (k_ixL K) (pe_call (ok__law_pens T) (hr.mono (by decide)) (by rfl) T.g__law_pens T.F__law_pens.kp (b__law_pens T) .nil pass0 (pa_cons (pe_ix (k_ixT K) (pv 9) pe_int (fun _ _ => rfl)) (pa_cons (pv 8) pa_nil))) pe_int (fun _ _ => rfl)))
          (pss_cons (ps_if (pt_not (pt_val (pe_call (ok__law_same T) (hr.mono (by decide)) (by rfl) T.g__law_same T.F__law_same.kp (b__law_same T) .nil pass0 (pa_cons (pv 11) (pa_cons (pe_tup (pa_cons (pe_ix (k_ixT K) (pv 9) pe_int (fun _ _ => rfl)) (pa_cons (pv 13) (pa_cons (pe_call (ok__law_length T) (hr.mono (by decide)) (by rfl) T.g__law_length T.F__law_length.kp (b__law_length T) .nil pass0 (pa_cons (pe_ix (k_ixT K) (pv 9) pe_int (fun _ _ => rfl)) pa_nil)) pa_nil)))) pa_nil))))) (pss_one (ps_ret pe_bl)) pss_nil)
          (pss_cons (ps_set (i := 14) sc_law.nd rfl (Or.inl rfl) (pe_tup (pa_cons (pe_ix (k_ixT K) (pv 8) pe_int (fun _ _ => rfl)) (pa_cons (pe_ix (k_ixT K) (pv 8) pe_int (fun _ _ => rfl)) (pa_cons (pe_ix (k_ixT K) (pv 8) pe_int (fun _ _ => rfl)) (pa_cons (pe_ix (k_ixT K) (pv 8) pe_int (fun _ _ => rfl)) (pa_cons (pe_ix (k_ixT K) (pv 13) pe_int (fun _ _ => rfl)) (pa_cons (pe_ix (k_ixT K) (pv 13) pe_int (fun _ _ => rfl)) pa_nil))))))))
          (pss_cons (ps_if (pt_not (pt_val (pe_call (ok__law_same T) (hr.mono (by decide)) (by rfl) T.g__law_same T.F__law_same.kp (b__law_same T) .nil pass0 (pa_cons (pv 12) (pa_cons (pe_tup (pa_cons (pe_ix (k_ixT K) (pv 9) pe_int (fun _ _ => rfl)) (pa_cons (pv 14) (pa_cons (pe_call (ok__law_length T) (hr.mono (by decide)) (by rfl) T.g__law_length T.F__law_length.kp (b__law_length T) .nil pass0 (pa_cons (pe_ix (k_ixT K) (pv 9) pe_int (fun _ _ => rfl)) pa_nil)) pa_nil)))) pa_nil))))) (pss_one (ps_ret pe_bl)) pss_nil)
          (pss_cons (ps_set (i := 15) sc_law.nd rfl (Or.inl rfl) (pe_call (ok__law_probe T) (hr.mono (by decide)) (by rfl) T.g__law_probe T.F__law_probe.kp (b__law_probe T) .nil pass0 (pa_cons (pe_ix (k_ixT K) (pv 9) pe_int (fun _ _ => rfl)) pa_nil)))
          (pss_cons (ps_setLc (i := 16) (own := [("_law_k", 17)]) (g := (gName 17)) (tt := tYes) rfl sc_law.nd rfl rfl (sw_true rfl rfl rfl (by decide +kernel)) (pi_range2 (by rfl) T.z_range (pa_cons pe_int (pa_cons pe_int pa_nil))) (blkOk_by (N := N_law) (sc := defScope s_law) (by decide +kernel)) (fun _ _ _ _ _ => (pg_name (i := 17) sc_law.nd rfl (Or.inl rfl))) (fun _ _ _ _ _ => pts_nil) (fun _ _ _ _ _ => (pe_callTy call_intB (by rfl) T.z_int bt_int (pa_cons (pe_cmpR op_eq (pe_op op_mod (pv 17) pe_int) pe_int (nomark _)) pa_nil))))
          (pss_one (ps_if (pt_cmpR (k_neI K (hu64 hr)) (pe_ix (k_ixT K) (pe_call (ok_run_matrix T) (hr.mono (by decide)) (by rfl) T.g_run_matrix T.F_run_matrix.kp (b_run_matrix T) .nil passX0 (pa_cons (pv 7) (pa_cons pe_int (pa_cons (pv 10) pa_nil)))) pe_int (fun _ _ => rfl)) (pe_op op_cat (pe_op op_cat (pe_slice (k_slL K) (pv 15) po_none (po_some pe_int)) (pv 16)) (pe_slice (k_slL K) (pv 15) (po_some pe_int) po_none)) (nomark _)) (pss_one (ps_ret pe_bl)) pss_nil))))))))))) pss_nil)))))
      (pss_one (ps_ret pe_bl)))))))))), ?_⟩
    refine ⟨_, rfl, a, ns, rfl, hS, hlen, fun H1 p L s1 np pl h2 h64 => ?_⟩
    refine ⟨_, rfl, p, L, 6, rfl, pl, h2, h64, by decide, by decide, fun md H2 md0 md6 k1 pl1 => ?_⟩
    refine ⟨small100 (n := 1) (by decide), fun r nr => ?_⟩
    have nrp := pl1.ne nr
    have nr1 := k1.none nr nrp
    have k2 := k1.new (o := .lst [V.int 6]) nr1
    have pl2 := pl1.new (o := .lst [V.int 6]) nr
    have hr2 : (upd H2 r (.lst [V.int 6])) r = some (.lst [V.int 6]) := upd_same
    generalize upd H2 r (.lst [V.int 6]) = H3 at *
    refine ⟨small100 (n := 0) (by decide), fun b0 nb => ?_⟩
    have nbp := pl2.ne nb
    have nb1 := k2.none nb nbp
    have k3 := k2.new (o := .lst []) nb1
    have pl3 := pl2.new (o := .lst []) nb
    have nbr : r ≠ b0 := ne_of_none hr2 nb
    have hr3 : (upd H3 b0 (.lst [])) r = some (.lst [V.int 6]) := by rw [upd_ne nbr]; exact hr2
    have tb3 : Tr (fun x => H1 x = none ∧ x ≠ r) (upd H3 b0 (.lst [])) (bD []) (.ref b0) := ⟨b0, [], rfl, ⟨nb1, nbr.symm⟩, upd_same, TrAll.nil⟩
    generalize upd H3 b0 (.lst []) = H4 at *
    have hp1 : ∀ {x : Addr}, H1 x = none → x ≠ p := fun {x} n e => by
      obtain ⟨n1, h, _⟩ := pl
      rw [e, h] at n
      cases n
    refine ⟨_, rfl, p, L, 5, rfl, pl3, h2, h64, by decide, by decide, fun nz H5 z0 z5 k4 pl4 => ⟨_, _, rfl, rfl, 1 + nz, rfl, by omega, by omega, ?_⟩⟩
    have hr4 := k4 _ _ nrp hr3
    have tb4 := kp_tr k4 pl3 (fun n => hp1 n.1 rfl) tb3
    have k5 := k3.trans k4
    refine for_range (n := (1 + nz).toNat) (fun j σ J => ∃ (y5 : Option V) (b : Addr) (ss : List Stm) (m : Int), σ = [some (.ref a), some (.ref p), some (.int md), some (.ref r), some (.ref b), y5, none, none, none, none, none, none, none, none, none, none, none, none] ∧ Kp p H1 J ∧ Pool J p L ∧ J r = some (.lst [.int m]) ∧ 0 ≤ m ∧ m + cntB ss = 6 ∧ okB 0 ss 1 ∧ Tr (fun x => H1 x = none ∧ x ≠ r) J (bD ss) (.ref b)) ⟨none, b0, [], 6, rfl, k5, pl4, hr4, by decide, by simp [cntB], trivial, tb4⟩ (fun j σ J hj h => ?_) (fun σ J h => ?_)
    · obtain ⟨y5, b, ss, m, rfl, kJ, plJ, hrJ, m0, mc, ho, tb⟩ := h
      refine ⟨_, rfl, r, _, 0, _, rfl, rfl, SqL.of hrJ, at_of (j := 0) (by decide) rfl, _, _, rfl, rfl, _, rfl, ite2 (fun g => ?_) (fun g => ?_)⟩
      · have g : m > 0 := of_decide_eq_true g
        refine ⟨_, rfl, _, rfl, _, rfl, _, rfl, small100 (n := 2) (by decide), fun c nc => ?_⟩
        have ncp := plJ.ne nc
        have ncr : r ≠ c := ne_of_none hrJ nc
        have sc := same_upd (o := .lst [V.int 0, .int 1]) nc
        have hc : (upd J c (.lst [V.int 0, .int 1])) c = some (.lst [V.int 0, .int ((1 : Nat) : Int)]) := upd_same
        have tb1 := (Tr.tracked _ _ tb)
        have plC := plJ.new (o := .lst [V.int 0, .int 1]) nc
        have hrC := sc _ _ hrJ
        have kC := kJ.new (o := .lst [V.int 0, .int 1]) (kJ.none nc ncp)
        have tb2 := tb1.same sc
        generalize upd J c (.lst [V.int 0, .int 1]) = J1 at *
        refine ⟨p, r, c, L, 1, 1, 0, md, m, 0, 0, rfl, ⟨nrp.symm, ncp.symm, ncr⟩, ⟨plC, hrC, hc⟩, ⟨h2, h64, md0, by omega, by decide, by decide, by omega, by omega, by omega, by decide, .inr ⟨rfl, by decide⟩⟩, fun q2 ss2 J2 m2 c2 e3 d3 g0 hc2 ho2 t3 => ?_⟩
        have tb3 := Tr.kpl e3 (fun x n h => by
          rcases h with h | h | h
          · exact hp1 n.1.1 h
          · exact n.1.2 h
          · rw [h] at n; exact n.2 nc) _ _ tb2
        have t4 : Tr (fun x => H1 x = none ∧ x ≠ r) J2 (bD ss2) (.ref q2) := Tr.mono (fun x n => by
          have n : J1 x = none := n
          refine ⟨kC.none n fun e => ?_, fun e => ?_⟩
          · obtain ⟨n1, h, _⟩ := plC
            rw [e, h] at n
            cases n
          · rw [e, hrC] at n
            cases n) _ _ t3
        have tb5 : Tr (fun x => H1 x = none ∧ x ≠ r) J2 (bD ss) (.ref b) := Tr.mono (fun x n => n.1) _ _ tb3
        obtain ⟨_, xs, eb, sb, hb, tx⟩ := tb5
        cases eb
        obtain ⟨_, ys, eq, sq, hq2, ty⟩ := t4
        cases eq
        have lx := tx.len
        have ly := ty.len
        rw [blkD_len] at lx ly
        have c1 := len_cntB ss
        have c3 := len_cntB ss2
        refine ⟨b, q2, xs, ys, rfl, rfl, hb, hq2, small100 (by omega), fun z nz => ?_⟩
        have nc1 := kJ.none nc ncp
        have kz : Kp p H1 J2 := fun x o n e => e3 x o (fun h => by
          rcases h with h | h | h
          · exact absurd h n
          · rw [h, nr1] at e; cases e
          · rw [h, nc1] at e; cases e) (kC x o n e)
        have sz := same_upd (o := .lst (xs ++ ys)) nz
        have nz1 := kz.none nz (d3.pl.ne nz)
        have hrz := sz _ _ d3.r
        refine ⟨_, z, ss ++ ss2, m2, rfl, kz.new nz1, d3.pl.new nz, hrz, g0.1, by rw [cntB_append]; omega, okB_append ho ho2, z, xs ++ ys, rfl, ⟨nz1, Ne.symm (ne_of_none d3.r nz)⟩, upd_same, ?_⟩
        rw [blkD_append]
        exact (tx.append ty).same sz
      · exact ⟨_, b, ss, m, rfl, kJ, plJ, hrJ, m0, mc, ho, tb⟩
    · obtain ⟨y5, b, ss, m, rfl, kJ, plJ, hrJ, m0, mc, ho, tb⟩ := h
      have lss := len_cntB ss
      have hc6 : cntB ss ≤ 6 := by omega
      have ob1 := ob_alone hc6 ho
      have ob2 := ob_inside hc6 ho
      have npS : ¬ (fun x => H1 x = none ∧ x ≠ r) p := fun n => hp1 n.1 rfl
      clear hr4 tb4 hr3 tb3 hr2 k5 k4 k3 k2
      refine ⟨_, rfl, _, ss, .ref b, 0, 1, rfl, tb, by omega, ho, by decide, by decide, fun cp1 H6 s6 tp1 => ⟨small100 (n := 1) (by decide), fun l1 nl1 => ?_⟩⟩
      have s7 := same_upd (o := .lst [cp1]) nl1
      have tl1 : Tr (fun _ => True) (upd H6 l1 (.lst [cp1])) (bookD [ss]) (.ref l1) := ⟨l1, _, rfl, trivial, upd_same, .one (Tr.mono (fun _ _ => trivial) _ _ (tp1.same s7))⟩
      generalize upd H6 l1 (.lst [cp1]) = H7 at *
      refine fun b1 dx1 nb1' nd1 ne1 => made tl1 ob1 nb1' nd1 ne1 fun H8 s8 B1 => ?_
      have s68 := s6.trans (s7.trans s8)
      have tb8 := tb.same s68
      refine ⟨_, rfl, _, ss, .ref b, 0, 1, rfl, tb8, by omega, ho, by decide, by decide, fun cp2 H9 s9 tp2 => ⟨small100 (n := 2) (by decide), fun t2 nt2 => ⟨small100 (n := 1) (by decide), fun l2 nl2 => ⟨small100 (n := 1) (by decide), fun l3 nl3 => ?_⟩⟩⟩⟩
      have s10 := same_upd (o := .tup [V.str "keep", cp2]) nt2
      have ht2 : (upd H9 t2 (.tup [V.str "keep", cp2])) t2 = some (.tup [V.str "keep", cp2]) := upd_same
      generalize upd H9 t2 (.tup [V.str "keep", cp2]) = H10 at *
      have s11 := same_upd (o := .lst [V.ref t2]) nl2
      have hl2 : (upd H10 l2 (.lst [V.ref t2])) l2 = some (.lst [V.ref t2]) := upd_same
      generalize upd H10 l2 (.lst [V.ref t2]) = H11 at *
      have s12 := same_upd (o := .lst [V.ref l2]) nl3
      have hl3 : (upd H11 l3 (.lst [V.ref l2])) l3 = some (.lst [V.ref l2]) := upd_same
      generalize upd H11 l3 (.lst [V.ref l2]) = H12 at *
      have tl3 : Tr (fun _ => True) H12 (bookD [[.keep ss]]) (.ref l3) := by
        refine ⟨l3, _, rfl, trivial, hl3, .one ⟨l2, _, rfl, trivial, s12 _ _ hl2, .one ?_⟩⟩
        have ed : (Stm.keep ss).d = .tuple [.str "keep", bD ss] := by simp only [Stm.d]
        show Tr _ _ (Stm.keep ss).d _
        rw [ed]
        exact ⟨t2, _, rfl, (s11.trans s12) _ _ ht2, .cons rfl (.one (Tr.mono (fun _ _ => trivial) _ _ (tp2.same (s10.trans (s11.trans s12)))))⟩
      have s812 := s9.trans (s10.trans (s11.trans s12))
      clear hl2 hl3 ht2 s10 s11 s12 nl2 nl3 nt2 s9 tp2
      refine fun b2 dx2 nb2 nd2 ne2 => made tl3 ob2 nb2 nd2 ne2 fun H13 s13 B2 => ?_
      have s613 := s68.trans (s812.trans s13)
      have pl13 : Pool H13 p L := by
        obtain ⟨n1, hp, l1⟩ := plJ
        exact ⟨n1, s613 _ _ hp, l1⟩
      have tb13 := tb.same s613
      have B1' := B1.same (s812.trans s13)
      have nN1 : ¬ New H7 p := fun n => by
        obtain ⟨n1, hp, _⟩ := plJ
        have n : H7 p = none := n
        rw [(s6.trans s7) _ _ hp] at n
        cases n
      have nN2 : ¬ New H12 p := fun n => by
        obtain ⟨n1, hp, _⟩ := plJ
        have n : H12 p = none := n
        rw [(s68.trans s812) _ _ hp] at n
        cases n
      clear B1 tl1 tl3 tb8 s68 s812
      obtain ⟨pn, hpn, hpl⟩ := id pl13
      refine ⟨_, rfl, p, _, rfl, .inl (SqL.of hpn), 8, _, rfl, ?_⟩
      have lb : ∀ j : Int, j = 8 ∨ j = ((pn.map V.int).length : Int) → -(2 ^ 62) ≤ j ∧ j < 2 ^ 62 := fun j h => by
        rw [List.length_map, hpl] at h
        omega
      refine ⟨_, rfl, (lb _ ?_).1, (lb _ ?_).2, ?_⟩
      · split
        · exact .inr rfl
        · exact .inl rfl
      · split
        · exact .inr rfl
        · exact .inl rfl
      generalize (if (((pn.map V.int).length : Int)) < 8 then ((pn.map V.int).length : Int) else 8) = j
      refine for_range (n := j.toNat) (fun i σ J => ∃ (y5 y8 y9 y10 y11 y12 y13 y14 y15 y16 : Option V), σ = [some (.ref a), some (.ref p), some (.int md), some (.ref r), some (.ref b), y5, some (.ref b1), some (.ref b2), y8, y9, y10, y11, y12, y13, y14, y15, y16, none] ∧ Kp p H13 J ∧ Pool J p L) ⟨_, _, _, _, _, _, _, _, _, _, rfl, Kp.refl _ _, pl13⟩ (fun i σ J' hi h => ?_) (fun σ J' h => ?_)
      · obtain ⟨y5, y8, y9, y10, y11, y12, y13, y14, y15, y16, rfl, kB, plB⟩ := h
        refine ⟨_, rfl, p, L, rfl, plB, h2, h64, fun bq ps J2 hl6 hbd k6 pl6 nbq hbq => ?_⟩
        have kB2 := kB.trans k6
        have tb6 := kp_tr kB2 pl13 npS tb13
        refine ⟨_, rfl, _, rfl, small100 (n := 1) (by decide), fun lb1 nlb => ?_⟩
        have slb := same_upd (o := .lst [V.ref b]) nlb
        have tlb : Tr (fun x => x ≠ p) (upd J2 lb1 (.lst [V.ref b])) (bookD [ss]) (.ref lb1) := ⟨lb1, _, rfl, pl6.ne nlb, upd_same, .one (Tr.mono (fun x n => hp1 n.1) _ _ (tb6.same slb))⟩
        have plb := pl6.new (o := .lst [V.ref b]) nlb
        have kB3 : Kp p H13 (upd J2 lb1 (.lst [V.ref b])) := kB2.trans (Kp.of slb)
        have hbq := slb _ _ hbq
        generalize upd J2 lb1 (.lst [V.ref b]) = J3 at *
        refine ⟨_, p, lb1, L, [ss], 0, 14, 10, rfl, plb, h2, h64, by decide, by decide, tlb, fun n => n rfl, ob1, Nat.zero_lt_succ _, fun fq bits J4 hbl k7 pl7 nfq told => ?_⟩
        have kB4 := kB3.trans k7
        obtain ⟨aD, aB, dsv, hF, hD, tD, hB, _, _⟩ := told.ex
        have hbq := k7 _ _ (plB.ne nbq) hbq
        refine ⟨_, rfl, fq, _, 0, _, rfl, rfl, SqT.of hF, atI_nat (j := 0) rfl, rfl, _, rfl, ?_⟩
        by_cases hw : (tellL (runL [ss] 3000 (initL 0 bits 14))).1 = "run"
        · refine iteP (congrArg V.str hw) ?_
          obtain ⟨s, hs, e1, e2, et⟩ := tell_run hw
          obtain ⟨e, hr2, ed, ew, gd, _⟩ := run_go ob1 (Nat.zero_lt_succ _) hbl hs e1 e2
          obtain ⟨dep0, l90⟩ := run_dep0 ob1 (Nat.zero_lt_succ _) hbl hs e1
          rw [← ed] at dep0 l90
          rw [et] at hF tD hB
          dsimp only at hF tD hB
          rw [← ed] at tD
          rw [← ew] at hF
          obtain ⟨e', hr3, ew3, ed3⟩ := kept_runO ho hr2
          have gd3 := kept_good gd dep0 ed3 l90
          have cm3 := kept_cmds ed3
          have pe3 : ∀ ps, penEnd e'.deeds ps = keptP (penEnd e.deeds) ps := fun ps => by rw [ed3]; exact end_kept dep0 ps
          clear hbl hs e1 e2 et ed ew told hw
          have B1J := kp_book kB4 pl13 nN1 B1'
          have B2J := kp_book kB4 pl13 nN2 B2
          -- the bits
          refine ⟨_, rfl, fq, _, 3, _, rfl, rfl, SqT.of hF, atI_nat (j := 3) rfl, aB, _, rfl, .inl (SqL.of hB), fun la nla => ?_⟩
          have z1 := same_upd (o := .lst (s.bits.map bitV)) nla
          have hla : (upd J4 la (.lst (s.bits.map bitV))) la = some (.lst (s.bits.map bitV)) := upd_same
          generalize upd J4 la (.lst (s.bits.map bitV)) = J5 at *
          refine ⟨_, rfl, _, rfl, _, rfl, rfl, rfl, ran_run (pr := 0) (B1J.same z1) ob1 (Nat.zero_lt_succ _) hla (pv_of (SqT.of (z1 _ _ hbq)) hl6) hl6 (by decide) hr2 gd fun t1 d1 J6 z2 ht1 hd1 => ?_⟩
          have z12 := z1.trans z2
          refine ⟨_, rfl, _, rfl, _, rfl, rfl, rfl, ran_run (pr := 0) (B2J.same z12) ob2 (Nat.zero_lt_succ _) (z2 _ _ hla) (pv_of (SqT.of (z12 _ _ hbq)) hl6) hl6 (by decide) hr3 gd3 fun t3 d3 J7 z3 ht3 hd3 => ?_⟩
          have z13 := z12.trans z3
          refine ⟨_, rfl, fq, _, 2, _, rfl, rfl, SqT.of (z13 _ _ hF), atI_nat (j := 2) rfl, _, rfl, aD, bq, dsv, e.deeds, ps, rfl, z13 _ _ hD, tD.same z13, gd.len, gd.ok, gd.dep, z13 _ _ hbq, hl6, fun lp x o J8 z4 nlp hlp ho8 => ?_⟩
          refine ⟨lp, _, 1, _, rfl, rfl, SqL.of hlp, atI_nat (j := 1) rfl, ?_⟩
          have z14 := z13.trans z4
          -- the first comparison
          refine ⟨_, rfl, _, rfl, fq, _, 1, _, rfl, rfl, SqT.of (z14 _ _ hF), atI_nat (j := 1) rfl, _, rfl, _, rfl, fq, _, 2, _, rfl, rfl, SqT.of (z14 _ _ hF), atI_nat (j := 2) rfl, aD, dsv, e.deeds, rfl, z14 _ _ hD, tD.same z14, gd.len, fun J9 z5 => ⟨small100 (n := 3) (by decide), fun u1 nu1 => ?_⟩⟩
          have z6 := same_upd (o := .tup [V.int e.way, .ref o, natV (e.deeds.filter Dd.isC).length]) nu1
          have hu1 : (upd J9 u1 (.tup [V.int e.way, .ref o, natV (e.deeds.filter Dd.isC).length])) u1 = some (.tup [V.int e.way, .ref o, natV (e.deeds.filter Dd.isC).length]) := upd_same
          generalize upd J9 u1 (.tup [V.int e.way, .ref o, natV (e.deeds.filter Dd.isC).length]) = J10 at *
          have z56 := z5.trans z6
          have z36 := z3.trans (z4.trans z56)
          refine ⟨ansD e ps, ansD e ps, .ref t1, .ref u1, rfl, tq_ansD (z36 _ _ ht1) (sqT_same hd1 z36), tq_ansD hu1 (SqT.of (z56 _ _ ho8)), fit_ansD hl6, fit_ansD hl6, by decide, fun J11 z7 => ⟨_, rfl, ?_⟩⟩
          rw [same_ansD hl6]
          refine iteF ?_
          -- what is due of the kept one
          have z411 := z4.trans (z56.trans z7)
          have z111 := z13.trans z411
          have ho11 := (z56.trans z7) _ _ ho8
          have hbq11 := z111 _ _ hbq
          have l6e := run_len6 (ds := e.deeds) hl6
          have kp6 : keptP (penEnd e.deeds) ps = [ps.getD 0 0, ps.getD 1 0, ps.getD 2 0, ps.getD 3 0, (penEnd e.deeds ps).getD 4 0, (penEnd e.deeds ps).getD 5 0] := by
            unfold keptP
            generalize penEnd e.deeds ps = qs at *
            obtain ⟨x0, x1, x2, x3, x4, x5, rfl⟩ := list6' hl6
            obtain ⟨y0, y1, y2, y3, y4, y5, rfl⟩ := list6' l6e
            rfl
          refine ⟨_, rfl, bq, _, _, _, rfl, rfl, SqT.of hbq11, at_nat (t := 0) rfl (by rw [hl6]; decide), ?_⟩
          refine ⟨_, rfl, bq, _, _, _, rfl, rfl, SqT.of hbq11, at_nat (t := 1) rfl (by rw [hl6]; decide), ?_⟩
          refine ⟨_, rfl, bq, _, _, _, rfl, rfl, SqT.of hbq11, at_nat (t := 2) rfl (by rw [hl6]; decide), ?_⟩
          refine ⟨_, rfl, bq, _, _, _, rfl, rfl, SqT.of hbq11, at_nat (t := 3) rfl (by rw [hl6]; decide), ?_⟩
          refine ⟨_, rfl, o, _, _, _, rfl, rfl, SqT.of ho11, at_nat (t := 4) rfl (by rw [l6e]; decide), ?_⟩
          refine ⟨_, rfl, o, _, _, _, rfl, rfl, SqT.of ho11, at_nat (t := 5) rfl (by rw [l6e]; decide), small100 (n := 6) (by decide), fun du ndu => ?_⟩
          have ek : (HO.tup [V.int (ps.getD 0 0), .int (ps.getD 1 0), .int (ps.getD 2 0), .int (ps.getD 3 0), .int ((penEnd e.deeds ps).getD 4 0), .int ((penEnd e.deeds ps).getD 5 0)]) = .tup ((penEnd e'.deeds ps).map V.int) := by rw [pe3, kp6]; rfl
          rw [ek]
          have x1 := same_upd (o := .tup ((penEnd e'.deeds ps).map V.int)) ndu
          have hdu : (upd J11 du (.tup ((penEnd e'.deeds ps).map V.int))) du = some (.tup ((penEnd e'.deeds ps).map V.int)) := upd_same
          generalize upd J11 du (.tup ((penEnd e'.deeds ps).map V.int)) = J12 at *
          have z112 := z111.trans x1
          refine ⟨_, rfl, _, rfl, fq, _, 1, _, rfl, rfl, SqT.of (z112 _ _ hF), atI_nat (j := 1) rfl, _, rfl, _, rfl, fq, _, 2, _, rfl, rfl, SqT.of (z112 _ _ hF), atI_nat (j := 2) rfl, aD, dsv, e.deeds, rfl, z112 _ _ hD, tD.same z112, gd.len, fun J13 x2 => ⟨small100 (n := 3) (by decide), fun u2 nu2 => ?_⟩⟩
          have cm3' : (e'.deeds.filter Dd.isC).length = (e.deeds.filter Dd.isC).length := cm3
          rw [← ew3, ← cm3']
          have x3 := same_upd (o := .tup [V.int e'.way, .ref du, natV (e'.deeds.filter Dd.isC).length]) nu2
          have hu2 : (upd J13 u2 (.tup [V.int e'.way, .ref du, natV (e'.deeds.filter Dd.isC).length])) u2 = some (.tup [V.int e'.way, .ref du, natV (e'.deeds.filter Dd.isC).length]) := upd_same
          generalize upd J13 u2 (.tup [V.int e'.way, .ref du, natV (e'.deeds.filter Dd.isC).length]) = J14 at *
          have x23 := x2.trans x3
          have z414 := z411.trans (x1.trans x23)
          refine ⟨ansD e' ps, ansD e' ps, .ref t3, .ref u2, rfl, tq_ansD (z414 _ _ ht3) (sqT_same hd3 z414), tq_ansD hu2 (SqT.of (x23 _ _ hdu)), fit_ansD hl6, fit_ansD hl6, by decide, fun J15 x4 => ⟨_, rfl, ?_⟩⟩
          rw [same_ansD hl6]
          refine iteF ?_
          have z115 := z112.trans (x23.trans x4)
          clear z36 z411 z414 z111 z112 hu1 hu2 hdu ek ho11 hbq11
          -- the rows
          rw [ew3] at *
          refine ⟨_, rfl, fq, _, 2, _, rfl, rfl, SqT.of (z115 _ _ hF), atI_nat (j := 2) rfl, aD, dsv, e.deeds, rfl, z115 _ _ hD, tD.same z115, gd.len, gd.ok, gd.dep, fun m1 J16 x5 nm1 hm1 => ?_⟩
          refine ⟨7, 35, rfl, ⟨by decide, by decide, by decide, by decide⟩, fun D nD => ?_⟩
          refine lc_range (n := 28) (fun k J => Same J16 J ∧ J D = some (.lst (((List.range k).map fun k => if (7 + k) % 8 = 0 then (1 : Int) else 0).map V.int))) ⟨same_upd nD, upd_same⟩ (fun k J hk h => ?_) (fun J17 h => ?_)
          · obtain ⟨sm, hD'⟩ := h
            refine ⟨rfl, _, rfl, _, _, rfl, rfl, (show (0 : Int) < 8 by decide), rfl, _, rfl, _, hD', ?_, same_new sm nD, ?_⟩
            · rw [List.length_map, List.length_map, List.length_range]
              exact small1000 (by omega)
            · rw [upd_same]
              have e0 : (if decide (V.int ((7 + (k : Int)) % 8) = V.int 0) = true then (1 : Int) else 0) = if (7 + k) % 8 = 0 then 1 else 0 := by
                by_cases g : (7 + k) % 8 = 0
                · rw [if_pos g, if_pos (decide_eq_true (congrArg V.int (by omega)))]
                · rw [if_neg g, if_neg (fun h => g (by have := V.int.inj (of_decide_eq_true h); omega))]
              rw [e0]
              exact congrArg (fun z => some (HO.lst z)) (range_snoc (fun k => if (7 + k) % 8 = 0 then (1 : Int) else 0) k)
          · obtain ⟨sm, hD'⟩ := h
            have hmid : J17 D = some (.lst (midK.map V.int)) := hD'
            have z117 := z115.trans (x5.trans sm)
            have hm17 := sm _ _ hm1
            refine ⟨_, rfl, _, rfl, mat_run (pr := 0) (B2J.same z117) ob2 (Nat.zero_lt_succ _) ((z2.trans (z3.trans (z4.trans (z56.trans (z7.trans (x1.trans (x23.trans (x4.trans (x5.trans sm))))))))) _ _ hla) (by decide) hr3 gd3 fun t5 m5 J18 x6 nt5 nm5 ht5 hm5 => ?_⟩
            refine ⟨t5, _, 1, _, rfl, rfl, SqT.of ht5, atI_nat (j := 1) rfl, ?_⟩
            have hm18 := x6 _ _ hm17
            refine ⟨_, rfl, 7, rfl, m1, _, rfl, SqL.of hm18, fun p1 np1 => ?_⟩
            have c7 : cutV ((matL (penEnd e.deeds)).map V.int) none (some 7) = ((matL (penEnd e.deeds)).take 7).map V.int := cutTo (n := 7)
            rw [c7]
            have w1 := same_upd (o := .lst (((matL (penEnd e.deeds)).take 7).map V.int)) np1
            have hp1 : (upd J18 p1 (.lst (((matL (penEnd e.deeds)).take 7).map V.int))) p1 = some (.lst (((matL (penEnd e.deeds)).take 7).map V.int)) := upd_same
            generalize upd J18 p1 (.lst (((matL (penEnd e.deeds)).take 7).map V.int)) = J19 at *
            refine ⟨_, rfl, p1, D, _, _, rfl, rfl, hp1, (x6.trans w1) _ _ hmid, small100 (by rw [List.length_map, List.length_map, List.length_take]; unfold midK; rw [List.length_map, List.length_range]; omega), fun p2 np2 => ?_⟩
            rw [← List.map_append]
            have w2 := same_upd (o := .lst (((matL (penEnd e.deeds)).take 7 ++ midK).map V.int)) np2
            have hp2 : (upd J19 p2 (.lst (((matL (penEnd e.deeds)).take 7 ++ midK).map V.int))) p2 = some (.lst (((matL (penEnd e.deeds)).take 7 ++ midK).map V.int)) := upd_same
            generalize upd J19 p2 (.lst (((matL (penEnd e.deeds)).take 7 ++ midK).map V.int)) = J20 at *
            refine ⟨_, rfl, 35, rfl, m1, _, rfl, SqL.of ((w1.trans w2) _ _ hm18), fun p3 np3 => ?_⟩
            have lm : (matL (penEnd e.deeds)).length = 49 := by unfold matL; rw [List.length_map, List.length_range]
            have c35 : cutV ((matL (penEnd e.deeds)).map V.int) (some 35) none = ((matL (penEnd e.deeds)).drop 35).map V.int := cutFrom (n := 35) (by rw [lm]; decide)
            rw [c35]
            have w3 := same_upd (o := .lst (((matL (penEnd e.deeds)).drop 35).map V.int)) np3
            have hp3 : (upd J20 p3 (.lst (((matL (penEnd e.deeds)).drop 35).map V.int))) p3 = some (.lst (((matL (penEnd e.deeds)).drop 35).map V.int)) := upd_same
            generalize upd J20 p3 (.lst (((matL (penEnd e.deeds)).drop 35).map V.int)) = J21 at *
            refine ⟨p2, p3, _, _, rfl, rfl, w3 _ _ hp2, hp3, small100 (by rw [List.length_map, List.length_map, List.length_append, List.length_take, List.length_drop, lm]; unfold midK; rw [List.length_map, List.length_range]; decide), fun p4 np4 => ?_⟩
            rw [← List.map_append, ← kept_mat fun ps h => run_len6 h]
            have em : matL (penEnd e'.deeds) = matL (keptP (penEnd e.deeds)) := congrArg matL (funext fun ps => pe3 ps)
            rw [← em]
            have w4 := same_upd (o := .lst ((matL (penEnd e'.deeds)).map V.int)) np4
            have hp4 : (upd J21 p4 (.lst ((matL (penEnd e'.deeds)).map V.int))) p4 = some (.lst ((matL (penEnd e'.deeds)).map V.int)) := upd_same
            generalize upd J21 p4 (.lst ((matL (penEnd e'.deeds)).map V.int)) = J22 at *
            have w14 := w1.trans (w2.trans (w3.trans w4))
            refine ⟨m5, p4, _, _, rfl, rfl, SqL.of (w14 _ _ hm5), SqL.of hp4, _, rfl, ?_⟩
            rw [decide_eq_true rfl]
            refine iteF ?_
            have zz := z117.trans (x6.trans w14)
            obtain ⟨n2, hp2', l2'⟩ := pl7
            exact ⟨_, _, _, _, _, _, _, _, _, _, rfl, kB4.trans (Kp.of zz), n2, zz _ _ hp2', l2'⟩
        · refine iteN (fun h => hw (V.str.inj h)) ?_
          exact ⟨_, _, _, _, _, _, _, _, _, _, rfl, kB4, pl7⟩
      · obtain ⟨y5, y8, y9, y10, y11, y12, y13, y14, y15, y16, rfl, kB, plB⟩ := h
        exact q J'
end
theorem all_mk {l : PySem.W.OpenLaw} {w : World} {K : PySem.W.Frag} {h : Heap} {mg : Str → Option Value} {fa f0 f1 f2 f3 f4 f5 f6 f7 f8 f9 f10 f11 f12 f13 f14 f15 f16 f17 f18 f19 f20 f21 f22 f23 f24 f25 f26 f27 f28 f29 f30 f31 f32 f33 f34 f35 f36 f37 f38 f39 f40 f41 f42 f43 f44 f45 f46 f47 f48 f49 f50 f51 f52 f53 f54 f55 f56 f57 f58 f59 f60 f61 : Addr} (X : K.In h) (G : h.Ns mainGlobals mg) (hfa : mg "law" = some (.ref fa))
    {od0 an0 od1 an1 od2 an2 od3 an3 od4 an4 od5 an5 od6 an6 od7 an7 od8 an8 od9 an9 od10 an10 od11 an11 od12 an12 od13 an13 od14 an14 od15 an15 od16 an16 od17 an17 od18 an18 od19 an19 od20 an20 od21 an21 od22 an22 od23 an23 od24 an24 od25 an25 od26 an26 od27 an27 od28 an28 od29 an29 od30 an30 od31 an31 od32 an32 od33 an33 od34 an34 od35 an35 od36 an36 od37 an37 od38 an38 od39 an39 od40 an40 od41 an41 od42 an42 od43 an43 od44 an44 od45 an45 od46 an46 od47 an47 od48 an48 od49 an49 od50 an50 od51 an51 od52 an52 od53 an53 od54 an54 od55 an55 od56 an56 od57 an57 od58 an58 od59 an59 od60 an60 od61 an61 : Option Addr} {sl0 sl1 sl2 sl3 sl4 sl5 sl6 sl7 sl8 sl9 sl10 sl11 sl12 sl13 sl14 sl15 sl16 sl17 sl18 sl19 sl20 sl21 sl22 sl23 sl24 sl25 sl26 sl27 sl28 sl29 sl30 sl31 sl32 sl33 sl34 sl35 sl36 sl37 sl38 sl39 sl40 sl41 sl42 sl43 sl44 sl45 sl46 sl47 sl48 sl49 sl50 sl51 sl52 sl53 sl54 sl55 sl56 sl57 sl58 sl59 sl60 sl61 : Array (Option Value)}
    {oc0 dc0 pm0 cd0 ct0 kV0 oc1 dc1 pm1 cd1 ct1 kV1 oc2 dc2 pm2 cd2 ct2 kV2 oc3 dc3 pm3 cd3 ct3 kV3 oc4 dc4 pm4 cd4 ct4 kV4 oc5 dc5 pm5 cd5 ct5 kV5 oc6 dc6 pm6 cd6 ct6 kV6 oc7 dc7 pm7 cd7 ct7 kV7 oc8 dc8 pm8 cd8 ct8 kV8 oc9 dc9 pm9 cd9 ct9 kV9 oc10 dc10 pm10 cd10 ct10 kV10 oc11 dc11 pm11 cd11 ct11 kV11 oc12 dc12 pm12 cd12 ct12 kV12 oc13 dc13 pm13 cd13 ct13 kV13 oc14 dc14 pm14 cd14 ct14 kV14 oc15 dc15 pm15 cd15 ct15 kV15 oc16 dc16 pm16 cd16 ct16 kV16 oc17 dc17 pm17 cd17 ct17 kV17 oc18 dc18 pm18 cd18 ct18 kV18 oc19 dc19 pm19 cd19 ct19 kV19 oc20 dc20 pm20 cd20 ct20 kV20 oc21 dc21 pm21 cd21 ct21 kV21 oc22 dc22 pm22 cd22 ct22 kV22 oc23 dc23 pm23 cd23 ct23 kV23 oc24 dc24 pm24 cd24 ct24 kV24 oc25 dc25 pm25 cd25 ct25 kV25 oc26 dc26 pm26 cd26 ct26 kV26 oc27 dc27 pm27 cd27 ct27 kV27 oc28 dc28 pm28 cd28 ct28 kV28 oc29 dc29 pm29 cd29 ct29 kV29 oc30 dc30 pm30 cd30 ct30 kV30 oc31 dc31 pm31 cd31 ct31 kV31 oc32 dc32 pm32 cd32 ct32 kV32 oc33 dc33 pm33 cd33 ct33 kV33 oc34 dc34 pm34 cd34 ct34 kV34 oc35 dc35 pm35 cd35 ct35 kV35 oc36 dc36 pm36 cd36 ct36 kV36 oc37 dc37 pm37 cd37 ct37 kV37 oc38 dc38 pm38 cd38 ct38 oc39 dc39 pm39 cd39 ct39 kV39 oc40 dc40 pm40 cd40 ct40 kV40 oc41 dc41 pm41 cd41 ct41 kV41 oc42 dc42 pm42 cd42 ct42 kV42 oc43 dc43 pm43 cd43 ct43 kV43 oc44 dc44 pm44 cd44 ct44 kV44 oc45 dc45 pm45 cd45 ct45 kV45 oc46 dc46 pm46 cd46 ct46 kV46 oc47 dc47 pm47 cd47 ct47 kV47 oc48 dc48 pm48 cd48 ct48 kV48 oc49 dc49 pm49 cd49 ct49 kV49 oc50 dc50 pm50 cd50 ct50 kV50 oc51 dc51 pm51 cd51 ct51 kV51 oc52 dc52 pm52 cd52 ct52 kV52 oc53 dc53 pm53 cd53 ct53 kV53 oc54 dc54 pm54 cd54 ct54 kV54 oc55 dc55 pm55 cd55 ct55 kV55 oc56 dc56 pm56 cd56 ct56 kV56 oc57 dc57 pm57 cd57 ct57 kV57 oc58 dc58 pm58 cd58 ct58 kV58 oc59 dc59 pm59 cd59 ct59 kV59 oc60 dc60 pm60 cd60 ct60 kV60 oc61 dc61 pm61 cd61 ct61 kV61 : Value}
    {CC0 CC1 : Addr}
    {ti0 ti1 ti2 ti3 : Tok}
    (qa0 : PySem.W.nsIn K mainGlobals "Book" = some (some (.ref CC0)))
    (qg0 : PySem.W.plainGet K CC0 Str.empty = true)
    (qh0 : PySem.W.hasDictIn K CC0 = true)
    (qp0 : PySem.W.plainOver K CC0 = true)
    (qs0 : PySem.W.findIn K (.ref CC0) "__setattr__" = some (some (.builtin "object.__setattr__")))
    (qm0 : PySem.W.makesIn K CC0 = true)
    (qk0 : PySem.W.keepIn K (.ref CC0) = true)
    (qn0_0 : PySem.W.findIn K (.ref CC0) "_bodies" = some none)
    (qa1 : PySem.W.nsIn K mainGlobals "Execution" = some (some (.ref CC1)))
    (qg1 : PySem.W.plainGet K CC1 Str.empty = true)
    (qh1 : PySem.W.hasDictIn K CC1 = true)
    (qp1 : PySem.W.plainOver K CC1 = true)
    (qs1 : PySem.W.findIn K (.ref CC1) "__setattr__" = some (some (.builtin "object.__setattr__")))
    (qm1 : PySem.W.makesIn K CC1 = true)
    (qk1 : PySem.W.keepIn K (.ref CC1) = true)
    (qn1_0 : PySem.W.findIn K (.ref CC1) "procedures" = some none)
    (qn1_1 : PySem.W.findIn K (.ref CC1) "bits" = some none)
    (qn1_2 : PySem.W.findIn K (.ref CC1) "taken" = some none)
    (qn1_3 : PySem.W.findIn K (.ref CC1) "left" = some none)
    (qn1_4 : PySem.W.findIn K (.ref CC1) "begun" = some none)
    (qn1_5 : PySem.W.findIn K (.ref CC1) "deeds" = some none)
    (qn1_6 : PySem.W.findIn K (.ref CC1) "way" = some none)
    {HE : Addr} {CE0 : Addr}

    (ea0 : PySem.W.nsIn K mainGlobals "NoRun" = some (some (.ref CE0)))
    (el0 : ∃ nm q N bs sn sub ab col dd k0 k1 k2 k3 k5, K.lookup CE0 = some (excClassObj nm q CE0 N bs [.ref HE, .type "ValueError", .type "Exception", .type "BaseException", .type "object"] true sn sub ab col dd k0 k1 k2 k3 k5 "ValueError.__new__"))
    (es0 : PySem.W.findIn K (.ref CE0) "__setattr__" = some (some (.builtin "object.__setattr__")))
    (eb0 : PySem.W.subIn K (.ref CE0) (.type "BaseException") = some true)
    (et0 : PySem.W.typeIn K (.ref CE0) = some (.type "type"))
    (ek0 : PySem.W.keepIn K (.ref CE0) = true)
    (ec0 : PySem.W.isClsIn K CE0 = true)
    (eg0 : PySem.W.findIn K (.ref CE0) "__getattribute__" = some (some (.builtin "BaseException.__getattribute__")))
    (eh0 : PySem.W.findIn K (.ref CE0) "__getattr__" = some none)
    (ed0 : PySem.W.hasDictIn K CE0 = true)
    (eS0 : PySem.W.subIn K (.ref CE0) (.ref CE0) = some true)
    (en0_0 : PySem.W.findIn K (.ref CE0) "index" = some none)
    (a0 : PySem.W.findIn K (.ref CE0) "__init__" = some (some (.ref f0)))
    (i0 : PySem.W.typeIn K (.ref f0) = some (.type "function"))
    (l0 : K.lookup f0 = some ⟨oc0, od0, .func (PySem.W.fnOf "__init__" "NoRun.__init__" (defArgs s_NoRun___init__) (defBody s_NoRun___init__) (defScope s_NoRun___init__) .none kV0 dc0 pm0 an0 cd0 ct0), sl0⟩)
    (c0 : PySem.W.codeIn K cd0 "NoRun.__init__" = true)
    (k0 : PySem.W.keepIn K (.ref f0) = true)
    (a1 : PySem.W.nsIn K mainGlobals "is_integer" = some (some (.ref f1)))
    (l1 : K.lookup f1 = some ⟨oc1, od1, .func (PySem.W.fnOf "is_integer" "is_integer" (defArgs s_is_integer) (defBody s_is_integer) (defScope s_is_integer) .none kV1 dc1 pm1 an1 cd1 ct1), sl1⟩)
    (c1 : PySem.W.codeIn K cd1 "is_integer" = true)
    (k1 : PySem.W.keepIn K (.ref f1) = true)
    (a2 : PySem.W.nsIn K mainGlobals "is_pen" = some (some (.ref f2)))
    (l2 : K.lookup f2 = some ⟨oc2, od2, .func (PySem.W.fnOf "is_pen" "is_pen" (defArgs s_is_pen) (defBody s_is_pen) (defScope s_is_pen) .none kV2 dc2 pm2 an2 cd2 ct2), sl2⟩)
    (c2 : PySem.W.codeIn K cd2 "is_pen" = true)
    (k2 : PySem.W.keepIn K (.ref f2) = true)
    (a3 : PySem.W.nsIn K mainGlobals "is_within" = some (some (.ref f3)))
    (l3 : K.lookup f3 = some ⟨oc3, od3, .func (PySem.W.fnOf "is_within" "is_within" (defArgs s_is_within) (defBody s_is_within) (defScope s_is_within) .none kV3 dc3 pm3 an3 cd3 ct3), sl3⟩)
    (c3 : PySem.W.codeIn K cd3 "is_within" = true)
    (k3 : PySem.W.keepIn K (.ref f3) = true)
    (a4 : PySem.W.nsIn K mainGlobals "is_bit" = some (some (.ref f4)))
    (l4 : K.lookup f4 = some ⟨oc4, od4, .func (PySem.W.fnOf "is_bit" "is_bit" (defArgs s_is_bit) (defBody s_is_bit) (defScope s_is_bit) .none kV4 dc4 pm4 an4 cd4 ct4), sl4⟩)
    (c4 : PySem.W.codeIn K cd4 "is_bit" = true)
    (k4 : PySem.W.keepIn K (.ref f4) = true)
    (a5 : PySem.W.nsIn K mainGlobals "is_command" = some (some (.ref f5)))
    (l5 : K.lookup f5 = some ⟨oc5, od5, .func (PySem.W.fnOf "is_command" "is_command" (defArgs s_is_command) (defBody s_is_command) (defScope s_is_command) .none kV5 dc5 pm5 an5 cd5 ct5), sl5⟩)
    (c5 : PySem.W.codeIn K cd5 "is_command" = true)
    (k5 : PySem.W.keepIn K (.ref f5) = true)
    (a6 : PySem.W.nsIn K mainGlobals "turned" = some (some (.ref f6)))
    (l6 : K.lookup f6 = some ⟨oc6, od6, .func (PySem.W.fnOf "turned" "turned" (defArgs s_turned) (defBody s_turned) (defScope s_turned) .none kV6 dc6 pm6 an6 cd6 ct6), sl6⟩)
    (c6 : PySem.W.codeIn K cd6 "turned" = true)
    (k6 : PySem.W.keepIn K (.ref f6) = true)
    (a7 : PySem.W.nsIn K mainGlobals "moved" = some (some (.ref f7)))
    (l7 : K.lookup f7 = some ⟨oc7, od7, .func (PySem.W.fnOf "moved" "moved" (defArgs s_moved) (defBody s_moved) (defScope s_moved) .none kV7 dc7 pm7 an7 cd7 ct7), sl7⟩)
    (c7 : PySem.W.codeIn K cd7 "moved" = true)
    (k7 : PySem.W.keepIn K (.ref f7) = true)
    (a8 : PySem.W.nsIn K mainGlobals "is_index" = some (some (.ref f8)))
    (l8 : K.lookup f8 = some ⟨oc8, od8, .func (PySem.W.fnOf "is_index" "is_index" (defArgs s_is_index) (defBody s_is_index) (defScope s_is_index) .none kV8 dc8 pm8 an8 cd8 ct8), sl8⟩)
    (c8 : PySem.W.codeIn K cd8 "is_index" = true)
    (k8 : PySem.W.keepIn K (.ref f8) = true)
    (a9 : PySem.W.nsIn K mainGlobals "are_blocks" = some (some (.ref f9)))
    (l9 : K.lookup f9 = some ⟨oc9, od9, .func (PySem.W.fnOf "are_blocks" "are_blocks" (defArgs s_are_blocks) (defBody s_are_blocks) (defScope s_are_blocks) .none kV9 dc9 pm9 an9 cd9 ct9), sl9⟩)
    (c9 : PySem.W.codeIn K cd9 "are_blocks" = true)
    (k9 : PySem.W.keepIn K (.ref f9) = true)
    (a10 : PySem.W.nsIn K mainGlobals "is_call" = some (some (.ref f10)))
    (l10 : K.lookup f10 = some ⟨oc10, od10, .func (PySem.W.fnOf "is_call" "is_call" (defArgs s_is_call) (defBody s_is_call) (defScope s_is_call) .none kV10 dc10 pm10 an10 cd10 ct10), sl10⟩)
    (c10 : PySem.W.codeIn K cd10 "is_call" = true)
    (k10 : PySem.W.keepIn K (.ref f10) = true)
    (a11 : PySem.W.nsIn K mainGlobals "is_statement" = some (some (.ref f11)))
    (l11 : K.lookup f11 = some ⟨oc11, od11, .func (PySem.W.fnOf "is_statement" "is_statement" (defArgs s_is_statement) (defBody s_is_statement) (defScope s_is_statement) .none kV11 dc11 pm11 an11 cd11 ct11), sl11⟩)
    (c11 : PySem.W.codeIn K cd11 "is_statement" = true)
    (k11 : PySem.W.keepIn K (.ref f11) = true)
    (a12 : PySem.W.nsIn K mainGlobals "blocks_of" = some (some (.ref f12)))
    (l12 : K.lookup f12 = some ⟨oc12, od12, .func (PySem.W.fnOf "blocks_of" "blocks_of" (defArgs s_blocks_of) (defBody s_blocks_of) (defScope s_blocks_of) .none kV12 dc12 pm12 an12 cd12 ct12), sl12⟩)
    (c12 : PySem.W.codeIn K cd12 "blocks_of" = true)
    (k12 : PySem.W.keepIn K (.ref f12) = true)
    (a13 : PySem.W.nsIn K mainGlobals "with_blocks" = some (some (.ref f13)))
    (l13 : K.lookup f13 = some ⟨oc13, od13, .func (PySem.W.fnOf "with_blocks" "with_blocks" (defArgs s_with_blocks) (defBody s_with_blocks) (defScope s_with_blocks) .none kV13 dc13 pm13 an13 cd13 ct13), sl13⟩)
    (c13 : PySem.W.codeIn K cd13 "with_blocks" = true)
    (k13 : PySem.W.keepIn K (.ref f13) = true)
    (a14 : PySem.W.nsIn K mainGlobals "copied_statement" = some (some (.ref f14)))
    (l14 : K.lookup f14 = some ⟨oc14, od14, .func (PySem.W.fnOf "copied_statement" "copied_statement" (defArgs s_copied_statement) (defBody s_copied_statement) (defScope s_copied_statement) .none kV14 dc14 pm14 an14 cd14 ct14), sl14⟩)
    (c14 : PySem.W.codeIn K cd14 "copied_statement" = true)
    (k14 : PySem.W.keepIn K (.ref f14) = true)
    (a15 : PySem.W.nsIn K mainGlobals "copied" = some (some (.ref f15)))
    (l15 : K.lookup f15 = some ⟨oc15, od15, .func (PySem.W.fnOf "copied" "copied" (defArgs s_copied) (defBody s_copied) (defScope s_copied) .none kV15 dc15 pm15 an15 cd15 ct15), sl15⟩)
    (c15 : PySem.W.codeIn K cd15 "copied" = true)
    (k15 : PySem.W.keepIn K (.ref f15) = true)
    (a16 : PySem.W.nsIn K mainGlobals "check_block" = some (some (.ref f16)))
    (l16 : K.lookup f16 = some ⟨oc16, od16, .func (PySem.W.fnOf "check_block" "check_block" (defArgs s_check_block) (defBody s_check_block) (defScope s_check_block) .none kV16 dc16 pm16 an16 cd16 ct16), sl16⟩)
    (c16 : PySem.W.codeIn K cd16 "check_block" = true)
    (k16 : PySem.W.keepIn K (.ref f16) = true)
    (a17 : PySem.W.nsIn K mainGlobals "check_bodies" = some (some (.ref f17)))
    (l17 : K.lookup f17 = some ⟨oc17, od17, .func (PySem.W.fnOf "check_bodies" "check_bodies" (defArgs s_check_bodies) (defBody s_check_bodies) (defScope s_check_bodies) .none kV17 dc17 pm17 an17 cd17 ct17), sl17⟩)
    (c17 : PySem.W.codeIn K cd17 "check_bodies" = true)
    (k17 : PySem.W.keepIn K (.ref f17) = true)
    (a18 : PySem.W.findIn K (.ref CC0) "__init__" = some (some (.ref f18)))
    (i18 : PySem.W.isFn K (.ref f18) = true)
    (l18 : K.lookup f18 = some ⟨oc18, od18, .func (PySem.W.fnOf "__init__" "Book.__init__" (defArgs s_Book___init__) (defBody s_Book___init__) (defScope s_Book___init__) .none kV18 dc18 pm18 an18 cd18 ct18), sl18⟩)
    (c18 : PySem.W.codeIn K cd18 "Book.__init__" = true)
    (k18 : PySem.W.keepIn K (.ref f18) = true)
    (a19 : PySem.W.findIn K (.ref CC0) "__len__" = some (some (.ref f19)))
    (i19 : PySem.W.isFn K (.ref f19) = true)
    (l19 : K.lookup f19 = some ⟨oc19, od19, .func (PySem.W.fnOf "__len__" "Book.__len__" (defArgs s_Book___len__) (defBody s_Book___len__) (defScope s_Book___len__) .none kV19 dc19 pm19 an19 cd19 ct19), sl19⟩)
    (c19 : PySem.W.codeIn K cd19 "Book.__len__" = true)
    (k19 : PySem.W.keepIn K (.ref f19) = true)
    (a20 : PySem.W.findIn K (.ref CC0) "bodies" = some (some (.ref f20)))
    (i20 : PySem.W.isFn K (.ref f20) = true)
    (l20 : K.lookup f20 = some ⟨oc20, od20, .func (PySem.W.fnOf "bodies" "Book.bodies" (defArgs s_Book_bodies) (defBody s_Book_bodies) (defScope s_Book_bodies) .none kV20 dc20 pm20 an20 cd20 ct20), sl20⟩)
    (c20 : PySem.W.codeIn K cd20 "Book.bodies" = true)
    (k20 : PySem.W.keepIn K (.ref f20) = true)
    (a21 : PySem.W.nsIn K mainGlobals "vector" = some (some (.ref f21)))
    (l21 : K.lookup f21 = some ⟨oc21, od21, .func (PySem.W.fnOf "vector" "vector" (defArgs s_vector) (defBody s_vector) (defScope s_vector) .none kV21 dc21 pm21 an21 cd21 ct21), sl21⟩)
    (c21 : PySem.W.codeIn K cd21 "vector" = true)
    (k21 : PySem.W.keepIn K (.ref f21) = true)
    (a22 : PySem.W.nsIn K mainGlobals "unit_pen" = some (some (.ref f22)))
    (l22 : K.lookup f22 = some ⟨oc22, od22, .func (PySem.W.fnOf "unit_pen" "unit_pen" (defArgs s_unit_pen) (defBody s_unit_pen) (defScope s_unit_pen) .none kV22 dc22 pm22 an22 cd22 ct22), sl22⟩)
    (c22 : PySem.W.codeIn K cd22 "unit_pen" = true)
    (k22 : PySem.W.keepIn K (.ref f22) = true)
    (a23 : PySem.W.nsIn K mainGlobals "probes" = some (some (.ref f23)))
    (l23 : K.lookup f23 = some ⟨oc23, od23, .func (PySem.W.fnOf "probes" "probes" (defArgs s_probes) (defBody s_probes) (defScope s_probes) .none kV23 dc23 pm23 an23 cd23 ct23), sl23⟩)
    (c23 : PySem.W.codeIn K cd23 "probes" = true)
    (k23 : PySem.W.keepIn K (.ref f23) = true)
    (a24 : PySem.W.nsIn K mainGlobals "matrix_from" = some (some (.ref f24)))
    (l24 : K.lookup f24 = some ⟨oc24, od24, .func (PySem.W.fnOf "matrix_from" "matrix_from" (defArgs s_matrix_from) (defBody s_matrix_from) (defScope s_matrix_from) .none kV24 dc24 pm24 an24 cd24 ct24), sl24⟩)
    (c24 : PySem.W.codeIn K cd24 "matrix_from" = true)
    (k24 : PySem.W.keepIn K (.ref f24) = true)
    (a25 : PySem.W.findIn K (.ref CC1) "__init__" = some (some (.ref f25)))
    (i25 : PySem.W.isFn K (.ref f25) = true)
    (l25 : K.lookup f25 = some ⟨oc25, od25, .func (PySem.W.fnOf "__init__" "Execution.__init__" (defArgs s_Execution___init__) (defBody s_Execution___init__) (defScope s_Execution___init__) .none kV25 dc25 pm25 an25 cd25 ct25), sl25⟩)
    (c25 : PySem.W.codeIn K cd25 "Execution.__init__" = true)
    (k25 : PySem.W.keepIn K (.ref f25) = true)
    (a26 : PySem.W.findIn K (.ref CC1) "finish" = some (some (.ref f26)))
    (i26 : PySem.W.isFn K (.ref f26) = true)
    (l26 : K.lookup f26 = some ⟨oc26, od26, .func (PySem.W.fnOf "finish" "Execution.finish" (defArgs s_Execution_finish) (defBody s_Execution_finish) (defScope s_Execution_finish) .none kV26 dc26 pm26 an26 cd26 ct26), sl26⟩)
    (c26 : PySem.W.codeIn K cd26 "Execution.finish" = true)
    (k26 : PySem.W.keepIn K (.ref f26) = true)
    (a27 : PySem.W.findIn K (.ref CC1) "step" = some (some (.ref f27)))
    (i27 : PySem.W.isFn K (.ref f27) = true)
    (l27 : K.lookup f27 = some ⟨oc27, od27, .func (PySem.W.fnOf "step" "Execution.step" (defArgs s_Execution_step) (defBody s_Execution_step) (defScope s_Execution_step) .none kV27 dc27 pm27 an27 cd27 ct27), sl27⟩)
    (c27 : PySem.W.codeIn K cd27 "Execution.step" = true)
    (k27 : PySem.W.keepIn K (.ref f27) = true)
    (a28 : PySem.W.findIn K (.ref CC1) "enter" = some (some (.ref f28)))
    (i28 : PySem.W.isFn K (.ref f28) = true)
    (l28 : K.lookup f28 = some ⟨oc28, od28, .func (PySem.W.fnOf "enter" "Execution.enter" (defArgs s_Execution_enter) (defBody s_Execution_enter) (defScope s_Execution_enter) .none kV28 dc28 pm28 an28 cd28 ct28), sl28⟩)
    (c28 : PySem.W.codeIn K cd28 "Execution.enter" = true)
    (k28 : PySem.W.keepIn K (.ref f28) = true)
    (a29 : PySem.W.findIn K (.ref CC1) "take" = some (some (.ref f29)))
    (i29 : PySem.W.isFn K (.ref f29) = true)
    (l29 : K.lookup f29 = some ⟨oc29, od29, .func (PySem.W.fnOf "take" "Execution.take" (defArgs s_Execution_take) (defBody s_Execution_take) (defScope s_Execution_take) .none kV29 dc29 pm29 an29 cd29 ct29), sl29⟩)
    (c29 : PySem.W.codeIn K cd29 "Execution.take" = true)
    (k29 : PySem.W.keepIn K (.ref f29) = true)
    (a30 : PySem.W.findIn K (.ref CC1) "begin" = some (some (.ref f30)))
    (i30 : PySem.W.isFn K (.ref f30) = true)
    (l30 : K.lookup f30 = some ⟨oc30, od30, .func (PySem.W.fnOf "begin" "Execution.begin" (defArgs s_Execution_begin) (defBody s_Execution_begin) (defScope s_Execution_begin) .none kV30 dc30 pm30 an30 cd30 ct30), sl30⟩)
    (c30 : PySem.W.codeIn K cd30 "Execution.begin" = true)
    (k30 : PySem.W.keepIn K (.ref f30) = true)
    (a31 : PySem.W.findIn K (.ref CC1) "unwind" = some (some (.ref f31)))
    (i31 : PySem.W.isFn K (.ref f31) = true)
    (l31 : K.lookup f31 = some ⟨oc31, od31, .func (PySem.W.fnOf "unwind" "Execution.unwind" (defArgs s_Execution_unwind) (defBody s_Execution_unwind) (defScope s_Execution_unwind) .none kV31 dc31 pm31 an31 cd31 ct31), sl31⟩)
    (c31 : PySem.W.codeIn K cd31 "Execution.unwind" = true)
    (k31 : PySem.W.keepIn K (.ref f31) = true)
    (a32 : PySem.W.findIn K (.ref CC1) "leave" = some (some (.ref f32)))
    (i32 : PySem.W.isFn K (.ref f32) = true)
    (l32 : K.lookup f32 = some ⟨oc32, od32, .func (PySem.W.fnOf "leave" "Execution.leave" (defArgs s_Execution_leave) (defBody s_Execution_leave) (defScope s_Execution_leave) .none kV32 dc32 pm32 an32 cd32 ct32), sl32⟩)
    (c32 : PySem.W.codeIn K cd32 "Execution.leave" = true)
    (k32 : PySem.W.keepIn K (.ref f32) = true)
    (a33 : PySem.W.nsIn K mainGlobals "check_bits" = some (some (.ref f33)))
    (l33 : K.lookup f33 = some ⟨oc33, od33, .func (PySem.W.fnOf "check_bits" "check_bits" (defArgs s_check_bits) (defBody s_check_bits) (defScope s_check_bits) .none kV33 dc33 pm33 an33 cd33 ct33), sl33⟩)
    (c33 : PySem.W.codeIn K cd33 "check_bits" = true)
    (k33 : PySem.W.keepIn K (.ref f33) = true)
    (a34 : PySem.W.nsIn K mainGlobals "executed" = some (some (.ref f34)))
    (l34 : K.lookup f34 = some ⟨oc34, od34, .func (PySem.W.fnOf "executed" "executed" (defArgs s_executed) (defBody s_executed) (defScope s_executed) .none kV34 dc34 pm34 an34 cd34 ct34), sl34⟩)
    (c34 : PySem.W.codeIn K cd34 "executed" = true)
    (k34 : PySem.W.keepIn K (.ref f34) = true)
    (a35 : PySem.W.nsIn K mainGlobals "length_of" = some (some (.ref f35)))
    (l35 : K.lookup f35 = some ⟨oc35, od35, .func (PySem.W.fnOf "length_of" "length_of" (defArgs s_length_of) (defBody s_length_of) (defScope s_length_of) .none kV35 dc35 pm35 an35 cd35 ct35), sl35⟩)
    (c35 : PySem.W.codeIn K cd35 "length_of" = true)
    (k35 : PySem.W.keepIn K (.ref f35) = true)
    (a36 : PySem.W.nsIn K mainGlobals "pens_behind" = some (some (.ref f36)))
    (l36 : K.lookup f36 = some ⟨oc36, od36, .func (PySem.W.fnOf "pens_behind" "pens_behind" (defArgs s_pens_behind) (defBody s_pens_behind) (defScope s_pens_behind) .none kV36 dc36 pm36 an36 cd36 ct36), sl36⟩)
    (c36 : PySem.W.codeIn K cd36 "pens_behind" = true)
    (k36 : PySem.W.keepIn K (.ref f36) = true)
    (a37 : PySem.W.nsIn K mainGlobals "end_of" = some (some (.ref f37)))
    (l37 : K.lookup f37 = some ⟨oc37, od37, .func (PySem.W.fnOf "end_of" "end_of" (defArgs s_end_of) (defBody s_end_of) (defScope s_end_of) .none kV37 dc37 pm37 an37 cd37 ct37), sl37⟩)
    (c37 : PySem.W.codeIn K cd37 "end_of" = true)
    (k37 : PySem.W.keepIn K (.ref f37) = true)
    (a38 : PySem.W.nsIn K mainGlobals "ran" = some (some (.ref f38)))
    {kD38 : Addr}
    (l38 : K.lookup f38 = some ⟨oc38, od38, .func (PySem.W.fnOf "ran" "ran" (defArgs s_ran) (defBody s_ran) (defScope s_ran) .none (.ref kD38) dc38 pm38 an38 cd38 ct38), sl38⟩)
    (kw38_pen : PySem.W.nsIn K kD38 "pen" = some (some (.ref aX_HOME)))
    (c38 : PySem.W.codeIn K cd38 "ran" = true)
    (k38 : PySem.W.keepIn K (.ref f38) = true)
    (a39 : PySem.W.nsIn K mainGlobals "run_matrix" = some (some (.ref f39)))
    (l39 : K.lookup f39 = some ⟨oc39, od39, .func (PySem.W.fnOf "run_matrix" "run_matrix" (defArgs s_run_matrix) (defBody s_run_matrix) (defScope s_run_matrix) .none kV39 dc39 pm39 an39 cd39 ct39), sl39⟩)
    (c39 : PySem.W.codeIn K cd39 "run_matrix" = true)
    (k39 : PySem.W.keepIn K (.ref f39) = true)
    (a40 : PySem.W.nsIn K mainGlobals "_law_pool" = some (some (.ref f40)))
    (l40 : K.lookup f40 = some ⟨oc40, od40, .func (PySem.W.fnOf "_law_pool" "_law_pool" (defArgs s__law_pool) (defBody s__law_pool) (defScope s__law_pool) .none kV40 dc40 pm40 an40 cd40 ct40), sl40⟩)
    (c40 : PySem.W.codeIn K cd40 "_law_pool" = true)
    (k40 : PySem.W.keepIn K (.ref f40) = true)
    (a41 : PySem.W.nsIn K mainGlobals "_law_draw" = some (some (.ref f41)))
    (l41 : K.lookup f41 = some ⟨oc41, od41, .func (PySem.W.fnOf "_law_draw" "_law_draw" (defArgs s__law_draw) (defBody s__law_draw) (defScope s__law_draw) .none kV41 dc41 pm41 an41 cd41 ct41), sl41⟩)
    (c41 : PySem.W.codeIn K cd41 "_law_draw" = true)
    (k41 : PySem.W.keepIn K (.ref f41) = true)
    (a42 : PySem.W.nsIn K mainGlobals "_law_command" = some (some (.ref f42)))
    (l42 : K.lookup f42 = some ⟨oc42, od42, .func (PySem.W.fnOf "_law_command" "_law_command" (defArgs s__law_command) (defBody s__law_command) (defScope s__law_command) .none kV42 dc42 pm42 an42 cd42 ct42), sl42⟩)
    (c42 : PySem.W.codeIn K cd42 "_law_command" = true)
    (k42 : PySem.W.keepIn K (.ref f42) = true)
    (a43 : PySem.W.nsIn K mainGlobals "_law_pair" = some (some (.ref f43)))
    (l43 : K.lookup f43 = some ⟨oc43, od43, .func (PySem.W.fnOf "_law_pair" "_law_pair" (defArgs s__law_pair) (defBody s__law_pair) (defScope s__law_pair) .none kV43 dc43 pm43 an43 cd43 ct43), sl43⟩)
    (c43 : PySem.W.codeIn K cd43 "_law_pair" = true)
    (k43 : PySem.W.keepIn K (.ref f43) = true)
    (a44 : PySem.W.nsIn K mainGlobals "_law_block" = some (some (.ref f44)))
    (l44 : K.lookup f44 = some ⟨oc44, od44, .func (PySem.W.fnOf "_law_block" "_law_block" (defArgs s__law_block) (defBody s__law_block) (defScope s__law_block) .none kV44 dc44 pm44 an44 cd44 ct44), sl44⟩)
    (c44 : PySem.W.codeIn K cd44 "_law_block" = true)
    (k44 : PySem.W.keepIn K (.ref f44) = true)
    (a45 : PySem.W.nsIn K mainGlobals "_law_piece" = some (some (.ref f45)))
    (l45 : K.lookup f45 = some ⟨oc45, od45, .func (PySem.W.fnOf "_law_piece" "_law_piece" (defArgs s__law_piece) (defBody s__law_piece) (defScope s__law_piece) .none kV45 dc45 pm45 an45 cd45 ct45), sl45⟩)
    (c45 : PySem.W.codeIn K cd45 "_law_piece" = true)
    (k45 : PySem.W.keepIn K (.ref f45) = true)
    (a46 : PySem.W.nsIn K mainGlobals "_law_number" = some (some (.ref f46)))
    (l46 : K.lookup f46 = some ⟨oc46, od46, .func (PySem.W.fnOf "_law_number" "_law_number" (defArgs s__law_number) (defBody s__law_number) (defScope s__law_number) .none kV46 dc46 pm46 an46 cd46 ct46), sl46⟩)
    (c46 : PySem.W.codeIn K cd46 "_law_number" = true)
    (k46 : PySem.W.keepIn K (.ref f46) = true)
    (a47 : PySem.W.nsIn K mainGlobals "_law_pen" = some (some (.ref f47)))
    (l47 : K.lookup f47 = some ⟨oc47, od47, .func (PySem.W.fnOf "_law_pen" "_law_pen" (defArgs s__law_pen) (defBody s__law_pen) (defScope s__law_pen) .none kV47 dc47 pm47 an47 cd47 ct47), sl47⟩)
    (c47 : PySem.W.codeIn K cd47 "_law_pen" = true)
    (k47 : PySem.W.keepIn K (.ref f47) = true)
    (a48 : PySem.W.nsIn K mainGlobals "_law_move" = some (some (.ref f48)))
    (l48 : K.lookup f48 = some ⟨oc48, od48, .func (PySem.W.fnOf "_law_move" "_law_move" (defArgs s__law_move) (defBody s__law_move) (defScope s__law_move) .none kV48 dc48 pm48 an48 cd48 ct48), sl48⟩)
    (c48 : PySem.W.codeIn K cd48 "_law_move" = true)
    (k48 : PySem.W.keepIn K (.ref f48) = true)
    (a49 : PySem.W.nsIn K mainGlobals "_law_bit" = some (some (.ref f49)))
    (l49 : K.lookup f49 = some ⟨oc49, od49, .func (PySem.W.fnOf "_law_bit" "_law_bit" (defArgs s__law_bit) (defBody s__law_bit) (defScope s__law_bit) .none kV49 dc49 pm49 an49 cd49 ct49), sl49⟩)
    (c49 : PySem.W.codeIn K cd49 "_law_bit" = true)
    (k49 : PySem.W.keepIn K (.ref f49) = true)
    (a50 : PySem.W.nsIn K mainGlobals "_law_run" = some (some (.ref f50)))
    (l50 : K.lookup f50 = some ⟨oc50, od50, .func (PySem.W.fnOf "_law_run" "_law_run" (defArgs s__law_run) (defBody s__law_run) (defScope s__law_run) .none kV50 dc50 pm50 an50 cd50 ct50), sl50⟩)
    (c50 : PySem.W.codeIn K cd50 "_law_run" = true)
    (k50 : PySem.W.keepIn K (.ref f50) = true)
    (a51 : PySem.W.nsIn K mainGlobals "_law_bits" = some (some (.ref f51)))
    (l51 : K.lookup f51 = some ⟨oc51, od51, .func (PySem.W.fnOf "_law_bits" "_law_bits" (defArgs s__law_bits) (defBody s__law_bits) (defScope s__law_bits) .none kV51 dc51 pm51 an51 cd51 ct51), sl51⟩)
    (c51 : PySem.W.codeIn K cd51 "_law_bits" = true)
    (k51 : PySem.W.keepIn K (.ref f51) = true)
    (a52 : PySem.W.nsIn K mainGlobals "_law_pens" = some (some (.ref f52)))
    (l52 : K.lookup f52 = some ⟨oc52, od52, .func (PySem.W.fnOf "_law_pens" "_law_pens" (defArgs s__law_pens) (defBody s__law_pens) (defScope s__law_pens) .none kV52 dc52 pm52 an52 cd52 ct52), sl52⟩)
    (c52 : PySem.W.codeIn K cd52 "_law_pens" = true)
    (k52 : PySem.W.keepIn K (.ref f52) = true)
    (a53 : PySem.W.nsIn K mainGlobals "_law_probe" = some (some (.ref f53)))
    (l53 : K.lookup f53 = some ⟨oc53, od53, .func (PySem.W.fnOf "_law_probe" "_law_probe" (defArgs s__law_probe) (defBody s__law_probe) (defScope s__law_probe) .none kV53 dc53 pm53 an53 cd53 ct53), sl53⟩)
    (c53 : PySem.W.codeIn K cd53 "_law_probe" = true)
    (k53 : PySem.W.keepIn K (.ref f53) = true)
    (a54 : PySem.W.nsIn K mainGlobals "_law_length" = some (some (.ref f54)))
    (l54 : K.lookup f54 = some ⟨oc54, od54, .func (PySem.W.fnOf "_law_length" "_law_length" (defArgs s__law_length) (defBody s__law_length) (defScope s__law_length) .none kV54 dc54 pm54 an54 cd54 ct54), sl54⟩)
    (c54 : PySem.W.codeIn K cd54 "_law_length" = true)
    (k54 : PySem.W.keepIn K (.ref f54) = true)
    (a55 : PySem.W.nsIn K mainGlobals "_law_blocks" = some (some (.ref f55)))
    (l55 : K.lookup f55 = some ⟨oc55, od55, .func (PySem.W.fnOf "_law_blocks" "_law_blocks" (defArgs s__law_blocks) (defBody s__law_blocks) (defScope s__law_blocks) .none kV55 dc55 pm55 an55 cd55 ct55), sl55⟩)
    (c55 : PySem.W.codeIn K cd55 "_law_blocks" = true)
    (k55 : PySem.W.keepIn K (.ref f55) = true)
    (a56 : PySem.W.nsIn K mainGlobals "_law_with" = some (some (.ref f56)))
    (l56 : K.lookup f56 = some ⟨oc56, od56, .func (PySem.W.fnOf "_law_with" "_law_with" (defArgs s__law_with) (defBody s__law_with) (defScope s__law_with) .none kV56 dc56 pm56 an56 cd56 ct56), sl56⟩)
    (c56 : PySem.W.codeIn K cd56 "_law_with" = true)
    (k56 : PySem.W.keepIn K (.ref f56) = true)
    (a57 : PySem.W.nsIn K mainGlobals "_law_copy" = some (some (.ref f57)))
    (l57 : K.lookup f57 = some ⟨oc57, od57, .func (PySem.W.fnOf "_law_copy" "_law_copy" (defArgs s__law_copy) (defBody s__law_copy) (defScope s__law_copy) .none kV57 dc57 pm57 an57 cd57 ct57), sl57⟩)
    (c57 : PySem.W.codeIn K cd57 "_law_copy" = true)
    (k57 : PySem.W.keepIn K (.ref f57) = true)
    (a58 : PySem.W.nsIn K mainGlobals "_law_same" = some (some (.ref f58)))
    (l58 : K.lookup f58 = some ⟨oc58, od58, .func (PySem.W.fnOf "_law_same" "_law_same" (defArgs s__law_same) (defBody s__law_same) (defScope s__law_same) .none kV58 dc58 pm58 an58 cd58 ct58), sl58⟩)
    (c58 : PySem.W.codeIn K cd58 "_law_same" = true)
    (k58 : PySem.W.keepIn K (.ref f58) = true)
    (a59 : PySem.W.nsIn K mainGlobals "_law_steered" = some (some (.ref f59)))
    (l59 : K.lookup f59 = some ⟨oc59, od59, .func (PySem.W.fnOf "_law_steered" "_law_steered" (defArgs s__law_steered) (defBody s__law_steered) (defScope s__law_steered) .none kV59 dc59 pm59 an59 cd59 ct59), sl59⟩)
    (c59 : PySem.W.codeIn K cd59 "_law_steered" = true)
    (k59 : PySem.W.keepIn K (.ref f59) = true)
    (a60 : PySem.W.nsIn K mainGlobals "_law_task" = some (some (.ref f60)))
    (l60 : K.lookup f60 = some ⟨oc60, od60, .func (PySem.W.fnOf "_law_task" "_law_task" (defArgs s__law_task) (defBody s__law_task) (defScope s__law_task) .none kV60 dc60 pm60 an60 cd60 ct60), sl60⟩)
    (c60 : PySem.W.codeIn K cd60 "_law_task" = true)
    (k60 : PySem.W.keepIn K (.ref f60) = true)
    (a61 : PySem.W.nsIn K mainGlobals "law" = some (some (.ref f61)))
    (l61 : K.lookup f61 = some ⟨oc61, od61, .func (PySem.W.fnOf "law" "law" (defArgs s_law) (defBody s_law) (defScope s_law) .none kV61 dc61 pm61 an61 cd61 ct61), sl61⟩)
    (c61 : PySem.W.codeIn K cd61 "law" = true)
    (k61 : PySem.W.keepIn K (.ref f61) = true)
    (z0 : PySem.W.nsIn K mainGlobals "all" = some none)
    (z1 : PySem.W.nsIn K mainGlobals "bool" = some none)
    (z2 : PySem.W.nsIn K mainGlobals "enumerate" = some none)
    (z3 : PySem.W.nsIn K mainGlobals "int" = some none)
    (z4 : PySem.W.nsIn K mainGlobals "isinstance" = some none)
    (z5 : PySem.W.nsIn K mainGlobals "len" = some none)
    (z6 : PySem.W.nsIn K mainGlobals "list" = some none)
    (z7 : PySem.W.nsIn K mainGlobals "min" = some none)
    (z8 : PySem.W.nsIn K mainGlobals "range" = some none)
    (z9 : PySem.W.nsIn K mainGlobals "str" = some none)
    (z10 : PySem.W.nsIn K mainGlobals "tuple" = some none)
    (z11 : PySem.W.nsIn K mainGlobals "zip" = some none)
    (gi0 : PySem.W.nsIn K mainGlobals "DEEPEST_LEVEL" = some (some (.int 3 ti0)))
    (gi1 : PySem.W.nsIn K mainGlobals "MOST_IN_A_LIST" = some (some (.int 8 ti1)))
    (gi2 : PySem.W.nsIn K mainGlobals "MOST_IN_A_PROCEDURE" = some (some (.int 12 ti2)))
    (gi3 : PySem.W.nsIn K mainGlobals "MOST_PROCEDURES" = some (some (.int 3 ti3)))
    {aB : Addr}
    (gB : PySem.W.nsIn K mainGlobals "BOUNDS" = some (some (.ref aB)))
    {eB : Array DictEntry}
    {nB : Nat}
    (lB : K.lookup aB = some ⟨.type "dict", none, .dict eB nB, #[]⟩) (iB : PySem.W.KeysLit w.params eB.toList) (wB : (aB == sysModules) = false)
    {b0 : Addr} {db0 : Option Addr} {nb0 : Nat} {sb0 : Array (Option Value)} {p0_0 : Addr} {dp0_0 : Option Addr} {np0_0 : Nat} {sp0_0 : Array (Option Value)} {t0_0 u0_0 : Tok} {b1 : Addr} {db1 : Option Addr} {nb1 : Nat} {sb1 : Array (Option Value)} {p1_0 : Addr} {dp1_0 : Option Addr} {np1_0 : Nat} {sp1_0 : Array (Option Value)} {t1_0 u1_0 : Tok} {b2 : Addr} {db2 : Option Addr} {nb2 : Nat} {sb2 : Array (Option Value)} {b3 : Addr} {db3 : Option Addr} {nb3 : Nat} {sb3 : Array (Option Value)} {p3_0 : Addr} {dp3_0 : Option Addr} {np3_0 : Nat} {sp3_0 : Array (Option Value)} {t3_0 u3_0 : Tok} {b4 : Addr} {db4 : Option Addr} {nb4 : Nat} {sb4 : Array (Option Value)} {p4_0 : Addr} {dp4_0 : Option Addr} {np4_0 : Nat} {sp4_0 : Array (Option Value)} {t4_0 u4_0 : Tok} {p4_1 : Addr} {dp4_1 : Option Addr} {np4_1 : Nat} {sp4_1 : Array (Option Value)} {t4_1 u4_1 : Tok} {b5 : Addr} {db5 : Option Addr} {nb5 : Nat} {sb5 : Array (Option Value)} {p5_0 : Addr} {dp5_0 : Option Addr} {np5_0 : Nat} {sp5_0 : Array (Option Value)} {t5_0 u5_0 : Tok} {p5_1 : Addr} {dp5_1 : Option Addr} {np5_1 : Nat} {sp5_1 : Array (Option Value)} {t5_1 u5_1 : Tok} {b6 : Addr} {db6 : Option Addr} {nb6 : Nat} {sb6 : Array (Option Value)} {b7 : Addr} {db7 : Option Addr} {nb7 : Nat} {sb7 : Array (Option Value)} {b8 : Addr} {db8 : Option Addr} {nb8 : Nat} {sb8 : Array (Option Value)} (rn0 : PySem.W.nsIn K aB "go" = some (some (.ref b0))) (rl0 : K.lookup b0 = some ⟨.type "tuple", db0, .seq ([.ref p0_0] : List Value).toArray nb0, sb0⟩) (rp0_0 : K.lookup p0_0 = some ⟨.type "tuple", dp0_0, .seq ([.int (-9) t0_0, .int 9 u0_0] : List Value).toArray np0_0, sp0_0⟩) (rn1 : PySem.W.nsIn K aB "turn" = some (some (.ref b1))) (rl1 : K.lookup b1 = some ⟨.type "tuple", db1, .seq ([.ref p1_0] : List Value).toArray nb1, sb1⟩) (rp1_0 : K.lookup p1_0 = some ⟨.type "tuple", dp1_0, .seq ([.int (1) t1_0, .int 3 u1_0] : List Value).toArray np1_0, sp1_0⟩) (rn2 : PySem.W.nsIn K aB "mirror" = some (some (.ref b2))) (rl2 : K.lookup b2 = some ⟨.type "tuple", db2, .seq ([] : List Value).toArray nb2, sb2⟩) (rn3 : PySem.W.nsIn K aB "scale" = some (some (.ref b3))) (rl3 : K.lookup b3 = some ⟨.type "tuple", db3, .seq ([.ref p3_0] : List Value).toArray nb3, sb3⟩) (rp3_0 : K.lookup p3_0 = some ⟨.type "tuple", dp3_0, .seq ([.int (-3) t3_0, .int 3 u3_0] : List Value).toArray np3_0, sp3_0⟩) (rn4 : PySem.W.nsIn K aB "aim" = some (some (.ref b4))) (rl4 : K.lookup b4 = some ⟨.type "tuple", db4, .seq ([.ref p4_0, .ref p4_1] : List Value).toArray nb4, sb4⟩) (rp4_0 : K.lookup p4_0 = some ⟨.type "tuple", dp4_0, .seq ([.int (-9) t4_0, .int 9 u4_0] : List Value).toArray np4_0, sp4_0⟩) (rp4_1 : K.lookup p4_1 = some ⟨.type "tuple", dp4_1, .seq ([.int (-9) t4_1, .int 9 u4_1] : List Value).toArray np4_1, sp4_1⟩) (rn5 : PySem.W.nsIn K aB "place" = some (some (.ref b5))) (rl5 : K.lookup b5 = some ⟨.type "tuple", db5, .seq ([.ref p5_0, .ref p5_1] : List Value).toArray nb5, sb5⟩) (rp5_0 : K.lookup p5_0 = some ⟨.type "tuple", dp5_0, .seq ([.int (-9) t5_0, .int 9 u5_0] : List Value).toArray np5_0, sp5_0⟩) (rp5_1 : K.lookup p5_1 = some ⟨.type "tuple", dp5_1, .seq ([.int (-9) t5_1, .int 9 u5_1] : List Value).toArray np5_1, sp5_1⟩) (rn6 : PySem.W.nsIn K aB "mark" = some (some (.ref b6))) (rl6 : K.lookup b6 = some ⟨.type "tuple", db6, .seq ([] : List Value).toArray nb6, sb6⟩) (rn7 : PySem.W.nsIn K aB "return" = some (some (.ref b7))) (rl7 : K.lookup b7 = some ⟨.type "tuple", db7, .seq ([] : List Value).toArray nb7, sb7⟩) (rn8 : PySem.W.nsIn K aB "exchange" = some (some (.ref b8))) (rl8 : K.lookup b8 = some ⟨.type "tuple", db8, .seq ([] : List Value).toArray nb8, sb8⟩)
    (ow0 : PySem.W.nsIn K aB "keep" = some none) (ow1 : PySem.W.nsIn K aB "again" = some none) (ow2 : PySem.W.nsIn K aB "either" = some none) (ow3 : PySem.W.nsIn K aB "call" = some none) (ow4 : PySem.W.nsIn K aB "end" = some none) (ow5 : PySem.W.nsIn K aB "Mark" = some none) (ow6 : PySem.W.nsIn K aB "bad" = some none)
    {aNPr : Addr}
    {aNP : Addr}
    (gNPr : PySem.W.nsIn K mainGlobals "NoProcedure" = some (some (.ref aNPr))) (qNPr : PySem.W.excIn K aNPr [.type "ValueError", .type "Exception", .type "BaseException", .type "object"] "ValueError.__new__" = true) (kNPr : PySem.W.keepIn K (.ref aNPr) = true) (bNPr : PySem.W.subIn K (.ref aNPr) (.type "BaseException") = some true) (tNPr : PySem.W.typeIn K (.ref aNPr) = some (.type "type")) (iNPr : PySem.W.isClsIn K aNPr = true) (sNPr : PySem.W.subIn K (.ref aNPr) (.ref aNPr) = some true)
    (gNP : PySem.W.nsIn K mainGlobals "NoPen" = some (some (.ref aNP))) (qNP : PySem.W.excIn K aNP [.type "ValueError", .type "Exception", .type "BaseException", .type "object"] "ValueError.__new__" = true) (kNP : PySem.W.keepIn K (.ref aNP) = true) (bNP : PySem.W.subIn K (.ref aNP) (.type "BaseException") = some true) (tNP : PySem.W.typeIn K (.ref aNP) = some (.type "type")) (iNP : PySem.W.isClsIn K aNP = true) (sNP : PySem.W.subIn K (.ref aNP) (.ref aNP) = some true)
    {dH : Option Addr} {nH : Nat} {sH : Array (Option Value)} {h0 h1 h2 h3 h4 h5 : Tok}
    (gH : PySem.W.nsIn K mainGlobals "HOME" = some (some (.ref aX_HOME)))
    (lH : K.lookup aX_HOME = some ⟨.type "tuple", dH, .seq ([.int 0 h0, .int 0 h1, .int 1 h2, .int 0 h3, .int 0 h4, .int 0 h5] : List Value).toArray nH, sH⟩)
    {aHo : Addr} {dHo : Option Addr} {nHo : Nat} {sHo : Array (Option Value)} {tHo : Tok}
    (gHo : PySem.W.nsIn K mainGlobals "HOLD" = some (some (.ref aHo)))
    (lHo : K.lookup aHo = some ⟨.type "tuple", dHo, .seq ([.str "hold" tHo] : List Value).toArray nHo, sHo⟩)
    {aBa : Addr} {dBa : Option Addr} {nBa : Nat} {sBa : Array (Option Value)} {tBa : Tok}
    (gBa : PySem.W.nsIn K mainGlobals "BACK" = some (some (.ref aBa)))
    (lBa : K.lookup aBa = some ⟨.type "tuple", dBa, .seq ([.str "back" tBa] : List Value).toArray nBa, sBa⟩)
    (wd0 : PySem.W.nsIn K aB "hold" = some none)
    (wd1 : PySem.W.nsIn K aB "back" = some none)
    : ∃ fd : FuncData, (∀ (s : Shared) (v : Value), BindsTo s fd ⟨[v], []⟩ [("_law_script", v)]) ∧ ∀ base : Heap, K.In base → base.Ns mainGlobals mg → FnG l.prog w K mg base CX0 20 fa fd ["_law_script"] (spLaw K) := by
  have e := hfa.symm.trans (PySem.W.mg_of X G a61)
  cases e
  have F0 := fun_mk (st := s_NoRun___init__) l0 c0 k0
  have F1 := fun_mk (st := s_is_integer) l1 c1 k1
  have F2 := fun_mk (st := s_is_pen) l2 c2 k2
  have F3 := fun_mk (st := s_is_within) l3 c3 k3
  have F4 := fun_mk (st := s_is_bit) l4 c4 k4
  have F5 := fun_mk (st := s_is_command) l5 c5 k5
  have F6 := fun_mk (st := s_turned) l6 c6 k6
  have F7 := fun_mk (st := s_moved) l7 c7 k7
  have F8 := fun_mk (st := s_is_index) l8 c8 k8
  have F9 := fun_mk (st := s_are_blocks) l9 c9 k9
  have F10 := fun_mk (st := s_is_call) l10 c10 k10
  have F11 := fun_mk (st := s_is_statement) l11 c11 k11
  have F12 := fun_mk (st := s_blocks_of) l12 c12 k12
  have F13 := fun_mk (st := s_with_blocks) l13 c13 k13
  have F14 := fun_mk (st := s_copied_statement) l14 c14 k14
  have F15 := fun_mk (st := s_copied) l15 c15 k15
  have F16 := fun_mk (st := s_check_block) l16 c16 k16
  have F17 := fun_mk (st := s_check_bodies) l17 c17 k17
  have F18 := fun_mk (st := s_Book___init__) l18 c18 k18
  have F19 := fun_mk (st := s_Book___len__) l19 c19 k19
  have F20 := fun_mk (st := s_Book_bodies) l20 c20 k20
  have F21 := fun_mk (st := s_vector) l21 c21 k21
  have F22 := fun_mk (st := s_unit_pen) l22 c22 k22
  have F23 := fun_mk (st := s_probes) l23 c23 k23
  have F24 := fun_mk (st := s_matrix_from) l24 c24 k24
  have F25 := fun_mk (st := s_Execution___init__) l25 c25 k25
  have F26 := fun_mk (st := s_Execution_finish) l26 c26 k26
  have F27 := fun_mk (st := s_Execution_step) l27 c27 k27
  have F28 := fun_mk (st := s_Execution_enter) l28 c28 k28
  have F29 := fun_mk (st := s_Execution_take) l29 c29 k29
  have F30 := fun_mk (st := s_Execution_begin) l30 c30 k30
  have F31 := fun_mk (st := s_Execution_unwind) l31 c31 k31
  have F32 := fun_mk (st := s_Execution_leave) l32 c32 k32
  have F33 := fun_mk (st := s_check_bits) l33 c33 k33
  have F34 := fun_mk (st := s_executed) l34 c34 k34
  have F35 := fun_mk (st := s_length_of) l35 c35 k35
  have F36 := fun_mk (st := s_pens_behind) l36 c36 k36
  have F37 := fun_mk (st := s_end_of) l37 c37 k37
  have F38 := fun_mk (st := s_ran) l38 c38 k38
  have FD38 : FunD K "ran" "ran" (defArgs s_ran) (defBody s_ran) (defScope s_ran) [] [("pen", .ref aX_HOME)] f38 (PySem.W.fnOf "ran" "ran" (defArgs s_ran) (defBody s_ran) (defScope s_ran) .none (.ref kD38) dc38 pm38 an38 cd38 ct38) := ⟨⟨_, _, _, _, _, _, _, _, _, _, rfl, l38, c38, .inl ⟨rfl, rfl⟩, .inr ⟨kD38, rfl, fun q hq => by rw [List.mem_singleton.mp hq]; exact ⟨_, kw38_pen, rfl⟩⟩⟩, k38⟩
  have F39 := fun_mk (st := s_run_matrix) l39 c39 k39
  have F40 := fun_mk (st := s__law_pool) l40 c40 k40
  have F41 := fun_mk (st := s__law_draw) l41 c41 k41
  have F42 := fun_mk (st := s__law_command) l42 c42 k42
  have F43 := fun_mk (st := s__law_pair) l43 c43 k43
  have F44 := fun_mk (st := s__law_block) l44 c44 k44
  have F45 := fun_mk (st := s__law_piece) l45 c45 k45
  have F46 := fun_mk (st := s__law_number) l46 c46 k46
  have F47 := fun_mk (st := s__law_pen) l47 c47 k47
  have F48 := fun_mk (st := s__law_move) l48 c48 k48
  have F49 := fun_mk (st := s__law_bit) l49 c49 k49
  have F50 := fun_mk (st := s__law_run) l50 c50 k50
  have F51 := fun_mk (st := s__law_bits) l51 c51 k51
  have F52 := fun_mk (st := s__law_pens) l52 c52 k52
  have F53 := fun_mk (st := s__law_probe) l53 c53 k53
  have F54 := fun_mk (st := s__law_length) l54 c54 k54
  have F55 := fun_mk (st := s__law_blocks) l55 c55 k55
  have F56 := fun_mk (st := s__law_with) l56 c56 k56
  have F57 := fun_mk (st := s__law_copy) l57 c57 k57
  have F58 := fun_mk (st := s__law_same) l58 c58 k58
  have F59 := fun_mk (st := s__law_steered) l59 c59 k59
  have F60 := fun_mk (st := s__law_task) l60 c60 k60
  have F61 := fun_mk (st := s_law) l61 c61 k61
  have T : ∃ T : Top w K mg, T.a_law = fa ∧ T.d_law = PySem.W.fnOf "law" "law" (defArgs s_law) (defBody s_law) (defScope s_law) .none kV61 dc61 pm61 an61 cd61 ct61 := ⟨{ C_Book := CC0, g_Book := PySem.W.mg_of X G qa0, cl_Book := ⟨qg0, qh0, qp0, qs0⟩, na_Book__bodies := qn0_0, C_Execution := CC1, g_Execution := PySem.W.mg_of X G qa1, cl_Execution := ⟨qg1, qh1, qp1, qs1⟩, na_Execution_procedures := qn1_0, na_Execution_bits := qn1_1, na_Execution_taken := qn1_2, na_Execution_left := qn1_3, na_Execution_begun := qn1_4, na_Execution_deeds := qn1_5, na_Execution_way := qn1_6, C_NoRun := CE0, g_NoRun := PySem.W.mg_of X G ea0, O_NoRun := ⟨oex_cls el0, es0, eb0, et0, ek0⟩, x_NoRun := exm_of eb0 ec0 et0 eS0, xf_NoRun := ⟨eg0, eh0, eb0, ed0⟩, no_NoRun_index := en0_0, a_NoRun___init__ := f0, d_NoRun___init__ := PySem.W.fnOf "__init__" "NoRun.__init__" (defArgs s_NoRun___init__) (defBody s_NoRun___init__) (defScope s_NoRun___init__) .none kV0 dc0 pm0 an0 cd0 ct0, F_NoRun___init__ := F0, io_NoRun := a0, to_NoRun := i0, a_is_integer := f1, d_is_integer := PySem.W.fnOf "is_integer" "is_integer" (defArgs s_is_integer) (defBody s_is_integer) (defScope s_is_integer) .none kV1 dc1 pm1 an1 cd1 ct1, F_is_integer := F1, g_is_integer := PySem.W.mg_of X G a1, a_is_pen := f2, d_is_pen := PySem.W.fnOf "is_pen" "is_pen" (defArgs s_is_pen) (defBody s_is_pen) (defScope s_is_pen) .none kV2 dc2 pm2 an2 cd2 ct2, F_is_pen := F2, g_is_pen := PySem.W.mg_of X G a2, a_is_within := f3, d_is_within := PySem.W.fnOf "is_within" "is_within" (defArgs s_is_within) (defBody s_is_within) (defScope s_is_within) .none kV3 dc3 pm3 an3 cd3 ct3, F_is_within := F3, g_is_within := PySem.W.mg_of X G a3, a_is_bit := f4, d_is_bit := PySem.W.fnOf "is_bit" "is_bit" (defArgs s_is_bit) (defBody s_is_bit) (defScope s_is_bit) .none kV4 dc4 pm4 an4 cd4 ct4, F_is_bit := F4, g_is_bit := PySem.W.mg_of X G a4, a_is_command := f5, d_is_command := PySem.W.fnOf "is_command" "is_command" (defArgs s_is_command) (defBody s_is_command) (defScope s_is_command) .none kV5 dc5 pm5 an5 cd5 ct5, F_is_command := F5, g_is_command := PySem.W.mg_of X G a5, a_turned := f6, d_turned := PySem.W.fnOf "turned" "turned" (defArgs s_turned) (defBody s_turned) (defScope s_turned) .none kV6 dc6 pm6 an6 cd6 ct6, F_turned := F6, g_turned := PySem.W.mg_of X G a6, a_moved := f7, d_moved := PySem.W.fnOf "moved" "moved" (defArgs s_moved) (defBody s_moved) (defScope s_moved) .none kV7 dc7 pm7 an7 cd7 ct7, F_moved := F7, g_moved := PySem.W.mg_of X G a7, a_is_index := f8, d_is_index := PySem.W.fnOf "is_index" "is_index" (defArgs s_is_index) (defBody s_is_index) (defScope s_is_index) .none kV8 dc8 pm8 an8 cd8 ct8, F_is_index := F8, g_is_index := PySem.W.mg_of X G a8, a_are_blocks := f9, d_are_blocks := PySem.W.fnOf "are_blocks" "are_blocks" (defArgs s_are_blocks) (defBody s_are_blocks) (defScope s_are_blocks) .none kV9 dc9 pm9 an9 cd9 ct9, F_are_blocks := F9, g_are_blocks := PySem.W.mg_of X G a9, a_is_call := f10, d_is_call := PySem.W.fnOf "is_call" "is_call" (defArgs s_is_call) (defBody s_is_call) (defScope s_is_call) .none kV10 dc10 pm10 an10 cd10 ct10, F_is_call := F10, g_is_call := PySem.W.mg_of X G a10, a_is_statement := f11, d_is_statement := PySem.W.fnOf "is_statement" "is_statement" (defArgs s_is_statement) (defBody s_is_statement) (defScope s_is_statement) .none kV11 dc11 pm11 an11 cd11 ct11, F_is_statement := F11, g_is_statement := PySem.W.mg_of X G a11, a_blocks_of := f12, d_blocks_of := PySem.W.fnOf "blocks_of" "blocks_of" (defArgs s_blocks_of) (defBody s_blocks_of) (defScope s_blocks_of) .none kV12 dc12 pm12 an12 cd12 ct12, F_blocks_of := F12, g_blocks_of := PySem.W.mg_of X G a12, a_with_blocks := f13, d_with_blocks := PySem.W.fnOf "with_blocks" "with_blocks" (defArgs s_with_blocks) (defBody s_with_blocks) (defScope s_with_blocks) .none kV13 dc13 pm13 an13 cd13 ct13, F_with_blocks := F13, g_with_blocks := PySem.W.mg_of X G a13, a_copied_statement := f14, d_copied_statement := PySem.W.fnOf "copied_statement" "copied_statement" (defArgs s_copied_statement) (defBody s_copied_statement) (defScope s_copied_statement) .none kV14 dc14 pm14 an14 cd14 ct14, F_copied_statement := F14, g_copied_statement := PySem.W.mg_of X G a14, a_copied := f15, d_copied := PySem.W.fnOf "copied" "copied" (defArgs s_copied) (defBody s_copied) (defScope s_copied) .none kV15 dc15 pm15 an15 cd15 ct15, F_copied := F15, g_copied := PySem.W.mg_of X G a15, a_check_block := f16, d_check_block := PySem.W.fnOf "check_block" "check_block" (defArgs s_check_block) (defBody s_check_block) (defScope s_check_block) .none kV16 dc16 pm16 an16 cd16 ct16, F_check_block := F16, g_check_block := PySem.W.mg_of X G a16, a_check_bodies := f17, d_check_bodies := PySem.W.fnOf "check_bodies" "check_bodies" (defArgs s_check_bodies) (defBody s_check_bodies) (defScope s_check_bodies) .none kV17 dc17 pm17 an17 cd17 ct17, F_check_bodies := F17, g_check_bodies := PySem.W.mg_of X G a17, a_Book___init__ := f18, d_Book___init__ := PySem.W.fnOf "__init__" "Book.__init__" (defArgs s_Book___init__) (defBody s_Book___init__) (defScope s_Book___init__) .none kV18 dc18 pm18 an18 cd18 ct18, F_Book___init__ := F18, mk_Book := ⟨qm0, a18, i18, qk0⟩, a_Book___len__ := f19, d_Book___len__ := PySem.W.fnOf "__len__" "Book.__len__" (defArgs s_Book___len__) (defBody s_Book___len__) (defScope s_Book___len__) .none kV19 dc19 pm19 an19 cd19 ct19, F_Book___len__ := F19, m_Book___len__ := ⟨a19, i19, k19⟩, a_Book_bodies := f20, d_Book_bodies := PySem.W.fnOf "bodies" "Book.bodies" (defArgs s_Book_bodies) (defBody s_Book_bodies) (defScope s_Book_bodies) .none kV20 dc20 pm20 an20 cd20 ct20, F_Book_bodies := F20, m_Book_bodies := ⟨a20, i20, k20⟩, a_vector := f21, d_vector := PySem.W.fnOf "vector" "vector" (defArgs s_vector) (defBody s_vector) (defScope s_vector) .none kV21 dc21 pm21 an21 cd21 ct21, F_vector := F21, g_vector := PySem.W.mg_of X G a21, a_unit_pen := f22, d_unit_pen := PySem.W.fnOf "unit_pen" "unit_pen" (defArgs s_unit_pen) (defBody s_unit_pen) (defScope s_unit_pen) .none kV22 dc22 pm22 an22 cd22 ct22, F_unit_pen := F22, g_unit_pen := PySem.W.mg_of X G a22, a_probes := f23, d_probes := PySem.W.fnOf "probes" "probes" (defArgs s_probes) (defBody s_probes) (defScope s_probes) .none kV23 dc23 pm23 an23 cd23 ct23, F_probes := F23, g_probes := PySem.W.mg_of X G a23, a_matrix_from := f24, d_matrix_from := PySem.W.fnOf "matrix_from" "matrix_from" (defArgs s_matrix_from) (defBody s_matrix_from) (defScope s_matrix_from) .none kV24 dc24 pm24 an24 cd24 ct24, F_matrix_from := F24, g_matrix_from := PySem.W.mg_of X G a24, a_Execution___init__ := f25, d_Execution___init__ := PySem.W.fnOf "__init__" "Execution.__init__" (defArgs s_Execution___init__) (defBody s_Execution___init__) (defScope s_Execution___init__) .none kV25 dc25 pm25 an25 cd25 ct25, F_Execution___init__ := F25, mk_Execution := ⟨qm1, a25, i25, qk1⟩, a_Execution_finish := f26, d_Execution_finish := PySem.W.fnOf "finish" "Execution.finish" (defArgs s_Execution_finish) (defBody s_Execution_finish) (defScope s_Execution_finish) .none kV26 dc26 pm26 an26 cd26 ct26, F_Execution_finish := F26, m_Execution_finish := ⟨a26, i26, k26⟩, a_Execution_step := f27, d_Execution_step := PySem.W.fnOf "step" "Execution.step" (defArgs s_Execution_step) (defBody s_Execution_step) (defScope s_Execution_step) .none kV27 dc27 pm27 an27 cd27 ct27, F_Execution_step := F27, m_Execution_step := ⟨a27, i27, k27⟩, a_Execution_enter := f28, d_Execution_enter := PySem.W.fnOf "enter" "Execution.enter" (defArgs s_Execution_enter) (defBody s_Execution_enter) (defScope s_Execution_enter) .none kV28 dc28 pm28 an28 cd28 ct28, F_Execution_enter := F28, m_Execution_enter := ⟨a28, i28, k28⟩, a_Execution_take := f29, d_Execution_take := PySem.W.fnOf "take" "Execution.take" (defArgs s_Execution_take) (defBody s_Execution_take) (defScope s_Execution_take) .none kV29 dc29 pm29 an29 cd29 ct29, F_Execution_take := F29, m_Execution_take := ⟨a29, i29, k29⟩, a_Execution_begin := f30, d_Execution_begin := PySem.W.fnOf "begin" "Execution.begin" (defArgs s_Execution_begin) (defBody s_Execution_begin) (defScope s_Execution_begin) .none kV30 dc30 pm30 an30 cd30 ct30, F_Execution_begin := F30, m_Execution_begin := ⟨a30, i30, k30⟩, a_Execution_unwind := f31, d_Execution_unwind := PySem.W.fnOf "unwind" "Execution.unwind" (defArgs s_Execution_unwind) (defBody s_Execution_unwind) (defScope s_Execution_unwind) .none kV31 dc31 pm31 an31 cd31 ct31, F_Execution_unwind := F31, m_Execution_unwind := ⟨a31, i31, k31⟩, a_Execution_leave := f32, d_Execution_leave := PySem.W.fnOf "leave" "Execution.leave" (defArgs s_Execution_leave) (defBody s_Execution_leave) (defScope s_Execution_leave) .none kV32 dc32 pm32 an32 cd32 ct32, F_Execution_leave := F32, m_Execution_leave := ⟨a32, i32, k32⟩, a_check_bits := f33, d_check_bits := PySem.W.fnOf "check_bits" "check_bits" (defArgs s_check_bits) (defBody s_check_bits) (defScope s_check_bits) .none kV33 dc33 pm33 an33 cd33 ct33, F_check_bits := F33, g_check_bits := PySem.W.mg_of X G a33, a_executed := f34, d_executed := PySem.W.fnOf "executed" "executed" (defArgs s_executed) (defBody s_executed) (defScope s_executed) .none kV34 dc34 pm34 an34 cd34 ct34, F_executed := F34, g_executed := PySem.W.mg_of X G a34, a_length_of := f35, d_length_of := PySem.W.fnOf "length_of" "length_of" (defArgs s_length_of) (defBody s_length_of) (defScope s_length_of) .none kV35 dc35 pm35 an35 cd35 ct35, F_length_of := F35, g_length_of := PySem.W.mg_of X G a35, a_pens_behind := f36, d_pens_behind := PySem.W.fnOf "pens_behind" "pens_behind" (defArgs s_pens_behind) (defBody s_pens_behind) (defScope s_pens_behind) .none kV36 dc36 pm36 an36 cd36 ct36, F_pens_behind := F36, g_pens_behind := PySem.W.mg_of X G a36, a_end_of := f37, d_end_of := PySem.W.fnOf "end_of" "end_of" (defArgs s_end_of) (defBody s_end_of) (defScope s_end_of) .none kV37 dc37 pm37 an37 cd37 ct37, F_end_of := F37, g_end_of := PySem.W.mg_of X G a37, FD_ran := FD38, a_ran := f38, d_ran := PySem.W.fnOf "ran" "ran" (defArgs s_ran) (defBody s_ran) (defScope s_ran) .none (.ref kD38) dc38 pm38 an38 cd38 ct38, F_ran := F38, g_ran := PySem.W.mg_of X G a38, a_run_matrix := f39, d_run_matrix := PySem.W.fnOf "run_matrix" "run_matrix" (defArgs s_run_matrix) (defBody s_run_matrix) (defScope s_run_matrix) .none kV39 dc39 pm39 an39 cd39 ct39, F_run_matrix := F39, g_run_matrix := PySem.W.mg_of X G a39, a__law_pool := f40, d__law_pool := PySem.W.fnOf "_law_pool" "_law_pool" (defArgs s__law_pool) (defBody s__law_pool) (defScope s__law_pool) .none kV40 dc40 pm40 an40 cd40 ct40, F__law_pool := F40, g__law_pool := PySem.W.mg_of X G a40, a__law_draw := f41, d__law_draw := PySem.W.fnOf "_law_draw" "_law_draw" (defArgs s__law_draw) (defBody s__law_draw) (defScope s__law_draw) .none kV41 dc41 pm41 an41 cd41 ct41, F__law_draw := F41, g__law_draw := PySem.W.mg_of X G a41, a__law_command := f42, d__law_command := PySem.W.fnOf "_law_command" "_law_command" (defArgs s__law_command) (defBody s__law_command) (defScope s__law_command) .none kV42 dc42 pm42 an42 cd42 ct42, F__law_command := F42, g__law_command := PySem.W.mg_of X G a42, a__law_pair := f43, d__law_pair := PySem.W.fnOf "_law_pair" "_law_pair" (defArgs s__law_pair) (defBody s__law_pair) (defScope s__law_pair) .none kV43 dc43 pm43 an43 cd43 ct43, F__law_pair := F43, g__law_pair := PySem.W.mg_of X G a43, a__law_block := f44, d__law_block := PySem.W.fnOf "_law_block" "_law_block" (defArgs s__law_block) (defBody s__law_block) (defScope s__law_block) .none kV44 dc44 pm44 an44 cd44 ct44, F__law_block := F44, g__law_block := PySem.W.mg_of X G a44, a__law_piece := f45, d__law_piece := PySem.W.fnOf "_law_piece" "_law_piece" (defArgs s__law_piece) (defBody s__law_piece) (defScope s__law_piece) .none kV45 dc45 pm45 an45 cd45 ct45, F__law_piece := F45, g__law_piece := PySem.W.mg_of X G a45, a__law_number := f46, d__law_number := PySem.W.fnOf "_law_number" "_law_number" (defArgs s__law_number) (defBody s__law_number) (defScope s__law_number) .none kV46 dc46 pm46 an46 cd46 ct46, F__law_number := F46, g__law_number := PySem.W.mg_of X G a46, a__law_pen := f47, d__law_pen := PySem.W.fnOf "_law_pen" "_law_pen" (defArgs s__law_pen) (defBody s__law_pen) (defScope s__law_pen) .none kV47 dc47 pm47 an47 cd47 ct47, F__law_pen := F47, g__law_pen := PySem.W.mg_of X G a47, a__law_move := f48, d__law_move := PySem.W.fnOf "_law_move" "_law_move" (defArgs s__law_move) (defBody s__law_move) (defScope s__law_move) .none kV48 dc48 pm48 an48 cd48 ct48, F__law_move := F48, g__law_move := PySem.W.mg_of X G a48, a__law_bit := f49, d__law_bit := PySem.W.fnOf "_law_bit" "_law_bit" (defArgs s__law_bit) (defBody s__law_bit) (defScope s__law_bit) .none kV49 dc49 pm49 an49 cd49 ct49, F__law_bit := F49, g__law_bit := PySem.W.mg_of X G a49, a__law_run := f50, d__law_run := PySem.W.fnOf "_law_run" "_law_run" (defArgs s__law_run) (defBody s__law_run) (defScope s__law_run) .none kV50 dc50 pm50 an50 cd50 ct50, F__law_run := F50, g__law_run := PySem.W.mg_of X G a50, a__law_bits := f51, d__law_bits := PySem.W.fnOf "_law_bits" "_law_bits" (defArgs s__law_bits) (defBody s__law_bits) (defScope s__law_bits) .none kV51 dc51 pm51 an51 cd51 ct51, F__law_bits := F51, g__law_bits := PySem.W.mg_of X G a51, a__law_pens := f52, d__law_pens := PySem.W.fnOf "_law_pens" "_law_pens" (defArgs s__law_pens) (defBody s__law_pens) (defScope s__law_pens) .none kV52 dc52 pm52 an52 cd52 ct52, F__law_pens := F52, g__law_pens := PySem.W.mg_of X G a52, a__law_probe := f53, d__law_probe := PySem.W.fnOf "_law_probe" "_law_probe" (defArgs s__law_probe) (defBody s__law_probe) (defScope s__law_probe) .none kV53 dc53 pm53 an53 cd53 ct53, F__law_probe := F53, g__law_probe := PySem.W.mg_of X G a53, a__law_length := f54, d__law_length := PySem.W.fnOf "_law_length" "_law_length" (defArgs s__law_length) (defBody s__law_length) (defScope s__law_length) .none kV54 dc54 pm54 an54 cd54 ct54, F__law_length := F54, g__law_length := PySem.W.mg_of X G a54, a__law_blocks := f55, d__law_blocks := PySem.W.fnOf "_law_blocks" "_law_blocks" (defArgs s__law_blocks) (defBody s__law_blocks) (defScope s__law_blocks) .none kV55 dc55 pm55 an55 cd55 ct55, F__law_blocks := F55, g__law_blocks := PySem.W.mg_of X G a55, a__law_with := f56, d__law_with := PySem.W.fnOf "_law_with" "_law_with" (defArgs s__law_with) (defBody s__law_with) (defScope s__law_with) .none kV56 dc56 pm56 an56 cd56 ct56, F__law_with := F56, g__law_with := PySem.W.mg_of X G a56, a__law_copy := f57, d__law_copy := PySem.W.fnOf "_law_copy" "_law_copy" (defArgs s__law_copy) (defBody s__law_copy) (defScope s__law_copy) .none kV57 dc57 pm57 an57 cd57 ct57, F__law_copy := F57, g__law_copy := PySem.W.mg_of X G a57, a__law_same := f58, d__law_same := PySem.W.fnOf "_law_same" "_law_same" (defArgs s__law_same) (defBody s__law_same) (defScope s__law_same) .none kV58 dc58 pm58 an58 cd58 ct58, F__law_same := F58, g__law_same := PySem.W.mg_of X G a58, a__law_steered := f59, d__law_steered := PySem.W.fnOf "_law_steered" "_law_steered" (defArgs s__law_steered) (defBody s__law_steered) (defScope s__law_steered) .none kV59 dc59 pm59 an59 cd59 ct59, F__law_steered := F59, g__law_steered := PySem.W.mg_of X G a59, a__law_task := f60, d__law_task := PySem.W.fnOf "_law_task" "_law_task" (defArgs s__law_task) (defBody s__law_task) (defScope s__law_task) .none kV60 dc60 pm60 an60 cd60 ct60, F__law_task := F60, g__law_task := PySem.W.mg_of X G a60, a_law := fa, d_law := PySem.W.fnOf "law" "law" (defArgs s_law) (defBody s_law) (defScope s_law) .none kV61 dc61 pm61 an61 cd61 ct61, F_law := F61, g_law := PySem.W.mg_of X G a61, z_all := PySem.W.mg_none_of X G z0, z_bool := PySem.W.mg_none_of X G z1, z_enumerate := PySem.W.mg_none_of X G z2, z_int := PySem.W.mg_none_of X G z3, z_isinstance := PySem.W.mg_none_of X G z4, z_len := PySem.W.mg_none_of X G z5, z_list := PySem.W.mg_none_of X G z6, z_min := PySem.W.mg_none_of X G z7, z_range := PySem.W.mg_none_of X G z8, z_str := PySem.W.mg_none_of X G z9, z_tuple := PySem.W.mg_none_of X G z10, z_zip := PySem.W.mg_none_of X G z11, c_DEEPEST_LEVEL := ⟨_, PySem.W.mg_of X G gi0, ⟨_, rfl⟩⟩, c_MOST_IN_A_LIST := ⟨_, PySem.W.mg_of X G gi1, ⟨_, rfl⟩⟩, c_MOST_IN_A_PROCEDURE := ⟨_, PySem.W.mg_of X G gi2, ⟨_, rfl⟩⟩, c_MOST_PROCEDURES := ⟨_, PySem.W.mg_of X G gi3, ⟨_, rfl⟩⟩, a_BOUNDS := aB, c_BOUNDS := ⟨_, PySem.W.mg_of X G gB, rfl⟩, e_B := eB, n_B := nB, D_B := ⟨lB, iB, wB⟩, L_B := lims_of (row1 lB iB rn0 rl0 rp0_0) (row1 lB iB rn1 rl1 rp1_0) (row0 lB iB rn2 rl2) (row1 lB iB rn3 rl3 rp3_0) (row2 lB iB rn4 rl4 rp4_0 rp4_1) (row2 lB iB rn5 rl5 rp5_0 rp5_1) (row0 lB iB rn6 rl6) (row0 lB iB rn7 rl7) (row0 lB iB rn8 rl8), W_B := oddw ow0 ow1 ow2 ow3 ow4 ow5 ow6, a_NoProcedure := aNPr, a_NoPen := aNP, X_NPr := ⟨PySem.W.mg_of X G gNPr, qNPr, kNPr, bNPr, tNPr, exm_of bNPr iNPr tNPr sNPr⟩, X_NP := ⟨PySem.W.mg_of X G gNP, qNP, kNP, bNP, tNP, exm_of bNP iNP tNP sNP⟩, a_HOME := aX_HOME, c_HOME := ⟨_, PySem.W.mg_of X G gH, rfl⟩, h_HOME := sqK lH (by simp) (.cons ⟨_, rfl⟩ (.cons ⟨_, rfl⟩ (.cons ⟨_, rfl⟩ (.cons ⟨_, rfl⟩ (.cons ⟨_, rfl⟩ (.cons ⟨_, rfl⟩ .nil)))))), a_HOLD := aHo, c_HOLD := ⟨_, PySem.W.mg_of X G gHo, rfl⟩, h_HOLD := sqK lHo (by simp) (.cons ⟨_, rfl⟩ .nil), a_BACK := aBa, c_BACK := ⟨_, PySem.W.mg_of X G gBa, rfl⟩, h_BACK := sqK lBa (by simp) (.cons ⟨_, rfl⟩ .nil), W_D0 := wd0, W_D1 := wd1 }, rfl, rfl⟩
  obtain ⟨T, e1, e2⟩ := T
  refine ⟨PySem.W.fnOf "law" "law" (defArgs s_law) (defBody s_law) (defScope s_law) .none kV61 dc61 pm61 an61 cd61 ct61, fun s v => .of_eq rfl, fun base _ _ => ?_⟩
  · rw [← e1, ← e2]; exact ok_law T
end My
open PySem PySem.W PyProof.Rows
set_option maxRecDepth 100000 in
set_option maxHeartbeats 0 in
theorem PySem.Challenge.cw_penhome_k20_keep_puts_place_and_heading_holds : PySem.Challenge.rw_penhome_k20_keep_puts_place_and_heading.Holds := by
  w_on; o_law; k_head; (case hw => w_witness2)
  k_fill
  refine My.walk_ofG (l := PySem.Challenge.rw_penhome_k20_keep_puts_place_and_heading) (n := 63) (k := 20) (x := "_law_script") (sp := fun w => My.spLaw _) rfl (by decide) rfl ⟨rfl, by decide, by decide⟩ (fun w h Y => PySem.W.kIn_of Y) ?F (fun _ _ a ns hl _ hS => ⟨a, ns, rfl, hS, hl, fun _ => rfl⟩)
  case F =>
    intro w mg fa h KX G hmg
    refine' My.all_mk KX G hmg ?qa0 ?qg0 ?qh0 ?qp0 ?qs0 ?qm0 ?qk0 ?qn0_0 ?qa1 ?qg1 ?qh1 ?qp1 ?qs1 ?qm1 ?qk1 ?qn1_0 ?qn1_1 ?qn1_2 ?qn1_3 ?qn1_4 ?qn1_5 ?qn1_6 ?ea0 ?el0 ?es0 ?eb0 ?et0 ?ek0 ?ec0 ?eg0 ?eh0 ?ed0 ?eS0 ?en0_0 ?a0 ?i0 ?l0 ?c0 ?k0 ?a1 ?l1 ?c1 ?k1 ?a2 ?l2 ?c2 ?k2 ?a3 ?l3 ?c3 ?k3 ?a4 ?l4 ?c4 ?k4 ?a5 ?l5 ?c5 ?k5 ?a6 ?l6 ?c6 ?k6 ?a7 ?l7 ?c7 ?k7 ?a8 ?l8 ?c8 ?k8 ?a9 ?l9 ?c9 ?k9 ?a10 ?l10 ?c10 ?k10 ?a11 ?l11 ?c11 ?k11 ?a12 ?l12 ?c12 ?k12 ?a13 ?l13 ?c13 ?k13 ?a14 ?l14 ?c14 ?k14 ?a15 ?l15 ?c15 ?k15 ?a16 ?l16 ?c16 ?k16 ?a17 ?l17 ?c17 ?k17 ?a18 ?i18 ?l18 ?c18 ?k18 ?a19 ?i19 ?l19 ?c19 ?k19 ?a20 ?i20 ?l20 ?c20 ?k20 ?a21 ?l21 ?c21 ?k21 ?a22 ?l22 ?c22 ?k22 ?a23 ?l23 ?c23 ?k23 ?a24 ?l24 ?c24 ?k24 ?a25 ?i25 ?l25 ?c25 ?k25 ?a26 ?i26 ?l26 ?c26 ?k26 ?a27 ?i27 ?l27 ?c27 ?k27 ?a28 ?i28 ?l28 ?c28 ?k28 ?a29 ?i29 ?l29 ?c29 ?k29 ?a30 ?i30 ?l30 ?c30 ?k30 ?a31 ?i31 ?l31 ?c31 ?k31 ?a32 ?i32 ?l32 ?c32 ?k32 ?a33 ?l33 ?c33 ?k33 ?a34 ?l34 ?c34 ?k34 ?a35 ?l35 ?c35 ?k35 ?a36 ?l36 ?c36 ?k36 ?a37 ?l37 ?c37 ?k37 ?a38 ?l38 ?kw38_pen ?c38 ?k38 ?a39 ?l39 ?c39 ?k39 ?a40 ?l40 ?c40 ?k40 ?a41 ?l41 ?c41 ?k41 ?a42 ?l42 ?c42 ?k42 ?a43 ?l43 ?c43 ?k43 ?a44 ?l44 ?c44 ?k44 ?a45 ?l45 ?c45 ?k45 ?a46 ?l46 ?c46 ?k46 ?a47 ?l47 ?c47 ?k47 ?a48 ?l48 ?c48 ?k48 ?a49 ?l49 ?c49 ?k49 ?a50 ?l50 ?c50 ?k50 ?a51 ?l51 ?c51 ?k51 ?a52 ?l52 ?c52 ?k52 ?a53 ?l53 ?c53 ?k53 ?a54 ?l54 ?c54 ?k54 ?a55 ?l55 ?c55 ?k55 ?a56 ?l56 ?c56 ?k56 ?a57 ?l57 ?c57 ?k57 ?a58 ?l58 ?c58 ?k58 ?a59 ?l59 ?c59 ?k59 ?a60 ?l60 ?c60 ?k60 ?a61 ?l61 ?c61 ?k61 ?z0 ?z1 ?z2 ?z3 ?z4 ?z5 ?z6 ?z7 ?z8 ?z9 ?z10 ?z11 ?gi0 ?gi1 ?gi2 ?gi3 ?gB ?lB ?iB ?wB ?rn0 ?rl0 ?rp0_0 ?rn1 ?rl1 ?rp1_0 ?rn2 ?rl2 ?rn3 ?rl3 ?rp3_0 ?rn4 ?rl4 ?rp4_0 ?rp4_1 ?rn5 ?rl5 ?rp5_0 ?rp5_1 ?rn6 ?rl6 ?rn7 ?rl7 ?rn8 ?rl8 ?ow0 ?ow1 ?ow2 ?ow3 ?ow4 ?ow5 ?ow6 ?gNPr ?qNPr ?kNPr ?bNPr ?tNPr ?iNPr ?sNPr ?gNP ?qNP ?kNP ?bNP ?tNP ?iNP ?sNP ?gH ?lH ?gHo ?lHo ?gBa ?lBa ?wd0 ?wd1
    (case qa0 => k_is); (case qg0 => k_is); (case qh0 => k_is); (case qp0 => k_is); (case qs0 => k_is); (case qm0 => k_is); (case qk0 => k_is); (case qn0_0 => k_is); (case qa1 => k_is); (case qg1 => k_is); (case qh1 => k_is); (case qp1 => k_is); (case qs1 => k_is); (case qm1 => k_is); (case qk1 => k_is); (case qn1_0 => k_is); (case qn1_1 => k_is); (case qn1_2 => k_is); (case qn1_3 => k_is); (case qn1_4 => k_is); (case qn1_5 => k_is); (case qn1_6 => k_is); (case ea0 => k_is); (case el0 => exact ⟨_, _, _, _, _, _, _, _, _, _, _, _, _, _, by k_is⟩); (case es0 => k_is); (case eb0 => k_is); (case et0 => k_is); (case ek0 => k_is); (case ec0 => k_is); (case eg0 => k_is); (case eh0 => k_is); (case ed0 => k_is); (case eS0 => first | rfl | k_is); (case en0_0 => k_is); (case a0 => k_is); (case i0 => k_is); (case l0 => k_is); (case c0 => k_is); (case k0 => k_is); (case a1 => k_is); (case l1 => k_is); (case c1 => k_is); (case k1 => k_is); (case a2 => k_is); (case l2 => k_is); (case c2 => k_is); (case k2 => k_is); (case a3 => k_is); (case l3 => k_is); (case c3 => k_is); (case k3 => k_is); (case a4 => k_is); (case l4 => k_is); (case c4 => k_is); (case k4 => k_is); (case a5 => k_is); (case l5 => k_is); (case c5 => k_is); (case k5 => k_is); (case a6 => k_is); (case l6 => k_is); (case c6 => k_is); (case k6 => k_is); (case a7 => k_is); (case l7 => k_is); (case c7 => k_is); (case k7 => k_is); (case a8 => k_is); (case l8 => k_is); (case c8 => k_is); (case k8 => k_is); (case a9 => k_is); (case l9 => k_is); (case c9 => k_is); (case k9 => k_is); (case a10 => k_is); (case l10 => k_is); (case c10 => k_is); (case k10 => k_is); (case a11 => k_is); (case l11 => k_is); (case c11 => k_is); (case k11 => k_is); (case a12 => k_is); (case l12 => k_is); (case c12 => k_is); (case k12 => k_is); (case a13 => k_is); (case l13 => k_is); (case c13 => k_is); (case k13 => k_is); (case a14 => k_is); (case l14 => k_is); (case c14 => k_is); (case k14 => k_is); (case a15 => k_is); (case l15 => k_is); (case c15 => k_is); (case k15 => k_is); (case a16 => k_is); (case l16 => k_is); (case c16 => k_is); (case k16 => k_is); (case a17 => k_is); (case l17 => k_is); (case c17 => k_is); (case k17 => k_is); (case a18 => k_is); (case i18 => k_is); (case l18 => k_is); (case c18 => k_is); (case k18 => k_is); (case a19 => k_is); (case i19 => k_is); (case l19 => k_is); (case c19 => k_is); (case k19 => k_is); (case a20 => k_is); (case i20 => k_is); (case l20 => k_is); (case c20 => k_is); (case k20 => k_is); (case a21 => k_is); (case l21 => k_is); (case c21 => k_is); (case k21 => k_is); (case a22 => k_is); (case l22 => k_is); (case c22 => k_is); (case k22 => k_is); (case a23 => k_is); (case l23 => k_is); (case c23 => k_is); (case k23 => k_is); (case a24 => k_is); (case l24 => k_is); (case c24 => k_is); (case k24 => k_is); (case a25 => k_is); (case i25 => k_is); (case l25 => k_is); (case c25 => k_is); (case k25 => k_is); (case a26 => k_is); (case i26 => k_is); (case l26 => k_is); (case c26 => k_is); (case k26 => k_is); (case a27 => k_is); (case i27 => k_is); (case l27 => k_is); (case c27 => k_is); (case k27 => k_is); (case a28 => k_is); (case i28 => k_is); (case l28 => k_is); (case c28 => k_is); (case k28 => k_is); (case a29 => k_is); (case i29 => k_is); (case l29 => k_is); (case c29 => k_is); (case k29 => k_is); (case a30 => k_is); (case i30 => k_is); (case l30 => k_is); (case c30 => k_is); (case k30 => k_is); (case a31 => k_is); (case i31 => k_is); (case l31 => k_is); (case c31 => k_is); (case k31 => k_is); (case a32 => k_is); (case i32 => k_is); (case l32 => k_is); (case c32 => k_is); (case k32 => k_is); (case a33 => k_is); (case l33 => k_is); (case c33 => k_is); (case k33 => k_is); (case a34 => k_is); (case l34 => k_is); (case c34 => k_is); (case k34 => k_is); (case a35 => k_is); (case l35 => k_is); (case c35 => k_is); (case k35 => k_is); (case a36 => k_is); (case l36 => k_is); (case c36 => k_is); (case k36 => k_is); (case a37 => k_is); (case l37 => k_is); (case c37 => k_is); (case k37 => k_is); (case a38 => k_is); (case l38 => k_is); (case kw38_pen => k_is); (case c38 => k_is); (case k38 => k_is); (case a39 => k_is); (case l39 => k_is); (case c39 => k_is); (case k39 => k_is); (case a40 => k_is); (case l40 => k_is); (case c40 => k_is); (case k40 => k_is); (case a41 => k_is); (case l41 => k_is); (case c41 => k_is); (case k41 => k_is); (case a42 => k_is); (case l42 => k_is); (case c42 => k_is); (case k42 => k_is); (case a43 => k_is); (case l43 => k_is); (case c43 => k_is); (case k43 => k_is); (case a44 => k_is); (case l44 => k_is); (case c44 => k_is); (case k44 => k_is); (case a45 => k_is); (case l45 => k_is); (case c45 => k_is); (case k45 => k_is); (case a46 => k_is); (case l46 => k_is); (case c46 => k_is); (case k46 => k_is); (case a47 => k_is); (case l47 => k_is); (case c47 => k_is); (case k47 => k_is); (case a48 => k_is); (case l48 => k_is); (case c48 => k_is); (case k48 => k_is); (case a49 => k_is); (case l49 => k_is); (case c49 => k_is); (case k49 => k_is); (case a50 => k_is); (case l50 => k_is); (case c50 => k_is); (case k50 => k_is); (case a51 => k_is); (case l51 => k_is); (case c51 => k_is); (case k51 => k_is); (case a52 => k_is); (case l52 => k_is); (case c52 => k_is); (case k52 => k_is); (case a53 => k_is); (case l53 => k_is); (case c53 => k_is); (case k53 => k_is); (case a54 => k_is); (case l54 => k_is); (case c54 => k_is); (case k54 => k_is); (case a55 => k_is); (case l55 => k_is); (case c55 => k_is); (case k55 => k_is); (case a56 => k_is); (case l56 => k_is); (case c56 => k_is); (case k56 => k_is); (case a57 => k_is); (case l57 => k_is); (case c57 => k_is); (case k57 => k_is); (case a58 => k_is); (case l58 => k_is); (case c58 => k_is); (case k58 => k_is); (case a59 => k_is); (case l59 => k_is); (case c59 => k_is); (case k59 => k_is); (case a60 => k_is); (case l60 => k_is); (case c60 => k_is); (case k60 => k_is); (case a61 => k_is); (case l61 => k_is); (case c61 => k_is); (case k61 => k_is); (case z0 => k_is); (case z1 => k_is); (case z2 => k_is); (case z3 => k_is); (case z4 => k_is); (case z5 => k_is); (case z6 => k_is); (case z7 => k_is); (case z8 => k_is); (case z9 => k_is); (case z10 => k_is); (case z11 => k_is); (case gi0 => k_is); (case gi1 => k_is); (case gi2 => k_is); (case gi3 => k_is); (case gB => k_is); (case lB => k_is); (case iB => repeat (first | exact True.intro | refine ⟨⟨_, _, rfl, rfl⟩, ?_⟩)); (case wB => decide); (case rn0 => k_is); (case rl0 => k_is); (case rp0_0 => k_is); (case rn1 => k_is); (case rl1 => k_is); (case rp1_0 => k_is); (case rn2 => k_is); (case rl2 => k_is); (case rn3 => k_is); (case rl3 => k_is); (case rp3_0 => k_is); (case rn4 => k_is); (case rl4 => k_is); (case rp4_0 => k_is); (case rp4_1 => k_is); (case rn5 => k_is); (case rl5 => k_is); (case rp5_0 => k_is); (case rp5_1 => k_is); (case rn6 => k_is); (case rl6 => k_is); (case rn7 => k_is); (case rl7 => k_is); (case rn8 => k_is); (case rl8 => k_is); (case ow0 => k_is); (case ow1 => k_is); (case ow2 => k_is); (case ow3 => k_is); (case ow4 => k_is); (case ow5 => k_is); (case ow6 => k_is); (case gNPr => k_is); (case qNPr => k_exc); (case kNPr => k_is); (case bNPr => k_is); (case tNPr => k_is); (case iNPr => k_is); (case sNPr => k_is); (case gNP => k_is); (case qNP => k_exc); (case kNP => k_is); (case bNP => k_is); (case tNP => k_is); (case iNP => k_is); (case sNP => first | rfl | k_is); (case gH => k_is); (case lH => k_is); (case gHo => k_is); (case lHo => k_is); (case gBa => k_is); (case lBa => k_is); (case wd0 => k_is); (case wd1 => k_is)

