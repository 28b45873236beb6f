import PyProof.Rows.All
import Wide.All
import OpenK.AllK
import Wide.FinOn
import HandS.ForMost
import HandS.Star
import HandS.Wide
import HandS.Flow
import HandS.IsInst
import HandS.Walk
import HandS.Zip
import HandS.More
import HandS.Codes
import KE.GoesMore
import KE.GoesZip
import KE.GoesEnum
import PyProof.CollectIter
import PyProof.WalksMore
import KE.KUnpack
import PySem.Challenge.RW_penhome_k03_matrix_of_a_command
set_option Elab.async false
set_option linter.all false
set_option maxRecDepth 100000
namespace My
open PySem PySem.Spec PyProof.Rows L2
theorem hu64 {A : Around} {k : Nat} (hr : Room k A) : A.units + 64 < cLine := by
  have := hr.un
  omega
section
variable {X : Cx}
theorem call_intI : CallR X (.type "int") (fun xs H Q => ∃ i, xs = [.int i] ∧ Q (.int i) H) := fun pins s σ H xs us Q I r ⟨i, e, q⟩ => call_int1 pins s σ H xs us Q I r (.inl ⟨i, e, q⟩)
theorem call_intB : CallR X (.type "int") (fun xs H Q => ∃ k, xs = [.bl k] ∧ Q (.int (if k then 1 else 0)) H) := fun pins s σ H xs us Q I r ⟨i, e, q⟩ => call_int1 pins s σ H xs us Q I r (.inr ⟨i, e, q⟩)
theorem call_lenA : CallR X (.builtin "len") (fun xs H Q => ∃ p ys, xs = [.ref p] ∧ (SqL X.K H p ys ∨ SqT X.K H p ys) ∧ Q (.int ys.length) H) := call_len_seq
theorem call_listL : CallR X (.type "list") (fun xs H Q => ∃ p ys, xs = [.ref p] ∧ (SqL X.K H p ys ∨ SqT X.K H p ys) ∧ ∀ l, H l = none → Q (.ref l) (upd H l (.lst ys))) := call_list_of
theorem call_tupL : CallR X (.type "tuple") (fun xs H Q => ∃ p ys, xs = [.ref p] ∧ SqL X.K H p ys ∧ ∀ l, H l = none → Q (.ref l) (upd H l (.tup ys))) := fun pins s σ H xs us Q I r ⟨p, ys, e, h, q⟩ => call_tuple_of pins s σ H xs us Q I r ⟨p, ys, e, .inl ⟨h, q⟩⟩
theorem get_lst : PGet X (fun o i H Q => ∃ p xs k v, o = .ref p ∧ i = .int k ∧ 0 ≤ k ∧ SqL X.K H p xs ∧ xs[k.toNat]? = some v ∧ Q v H) := by
  intro pins s σ H o i ov iv Q I r1 r2 h
  obtain ⟨p, xs, k, v, rfl, rfl, h0, hq, he, q⟩ := h
  cases r1
  obtain ⟨t, rfl⟩ := r2
  obtain ⟨its, r, pl, hz⟩ := I.list hq
  obtain ⟨w, ew, rw'⟩ := r.get he
  have hl := r.length
  have hn := line63
  have hlt : k.toNat < xs.length := (List.getElem?_eq_some_iff.mp he).1
  exact wpAny_getItem_list pl.isList h0 (by omega) (by simpa using ew) ⟨v, H, I, rw', q⟩
end
/-! ### lists and tuples of ints compared -/
theorem dpAllInts {K : PySem.W.Frag} {H : Hp} : ∀ ns : List Int, DpAll K H (ns.map V.int) (ns.map PyData.int)
  | [] => .nil
  | n :: r => .cons (.int n) (dpAllInts r)
theorem canAllInts : ∀ ns : List Int, PyData.canLayAll0 (ns.map PyData.int) = true
  | [] => by simp [PyData.canLayAll0]
  | n :: r => by simp [PyData.canLayAll0, PyData.canLay0, canAllInts r]
theorem depthAllInts : ∀ ns : List Int, PyData.depthAll (ns.map PyData.int) = 0
  | [] => by simp [PyData.depthAll]
  | n :: r => by simp [PyData.depthAll, PyData.depth, depthAllInts r]
theorem shList (ns : List Int) : SeqAt.shaped (.list (ns.map PyData.int)) = true := by
  simp [SeqAt.shaped, PyData.canLay0, PyData.depth, canAllInts, depthAllInts]
theorem shTup (ns : List Int) : SeqAt.shaped (.tuple (ns.map PyData.int)) = true := by
  simp [SeqAt.shaped, PyData.canLay0, PyData.depth, canAllInts, depthAllInts]
theorem eqvAllInts : ∀ ns ms : List Int, PyData.eqvAll (ns.map PyData.int) (ms.map PyData.int) = decide (ns = ms)
  | [], [] => by simp [PyData.eqvAll]
  | [], m :: r => by simp [PyData.eqvAll]
  | n :: r, [] => by simp [PyData.eqvAll]
  | n :: r, m :: q => by
    rw [List.map_cons, List.map_cons, PyData.eqvAll, eqvAllInts r q, PyData.eqv]
    by_cases e : n = m
    · subst e; simp
    · simp [e]
section
variable {X : Cx}
def rEqI (K : PySem.W.Frag) : R2 := fun x y H Q => ∃ (a b : Addr) (ns ms : List Int), x = .ref a ∧ y = .ref b ∧ SqL K H a (ns.map V.int) ∧ SqL K H b (ms.map V.int) ∧ Q (.bl (decide (ns = ms))) H
def rNeI (K : PySem.W.Frag) : R2 := fun x y H Q => ∃ (a b : Addr) (ns ms : List Int), x = .ref a ∧ y = .ref b ∧ SqL K H a (ns.map V.int) ∧ SqL K H b (ms.map V.int) ∧ Q (.bl (!decide (ns = ms))) H
def rEqTI (K : PySem.W.Frag) : R2 := fun x y H Q => ∃ (a b : Addr) (ns ms : List Int), x = .ref a ∧ y = .ref b ∧ SqT K H a (ns.map V.int) ∧ SqT K H b (ms.map V.int) ∧ Q (.bl (decide (ns = ms))) H
def rNeTI (K : PySem.W.Frag) : R2 := fun x y H Q => ∃ (a b : Addr) (ns ms : List Int), x = .ref a ∧ y = .ref b ∧ SqT K H a (ns.map V.int) ∧ SqT K H b (ms.map V.int) ∧ Q (.bl (!decide (ns = ms))) H
theorem op_eqI (hu : X.A.units + 64 < cLine) : OpR X (compareOp .Eq) (rEqI X.K) := fun pins s σ H x y v u Q I rx ry ⟨a, b, ns, ms, e1, e2, h1, h2, q⟩ =>
  op_eqD hu pins s σ H x y v u Q I rx ry ⟨_, _, e1 ▸ .lst h1 (dpAllInts ns), e2 ▸ .lst h2 (dpAllInts ms), shList ns, shList ms, by rw [PyData.eqv, eqvAllInts]; exact q⟩
theorem op_neI (hu : X.A.units + 64 < cLine) : OpR X (compareOp .NotEq) (rNeI X.K) := fun pins s σ H x y v u Q I rx ry ⟨a, b, ns, ms, e1, e2, h1, h2, q⟩ =>
  op_neD hu pins s σ H x y v u Q I rx ry ⟨_, _, e1 ▸ .lst h1 (dpAllInts ns), e2 ▸ .lst h2 (dpAllInts ms), shList ns, shList ms, by rw [PyData.eqv, eqvAllInts]; exact q⟩
theorem op_eqTI (hu : X.A.units + 64 < cLine) : OpR X (compareOp .Eq) (rEqTI X.K) := fun pins s σ H x y v u Q I rx ry ⟨a, b, ns, ms, e1, e2, h1, h2, q⟩ =>
  op_eqD hu pins s σ H x y v u Q I rx ry ⟨_, _, e1 ▸ .tup h1 (dpAllInts ns), e2 ▸ .tup h2 (dpAllInts ms), shTup ns, shTup ms, by rw [PyData.eqv, eqvAllInts]; exact q⟩
theorem op_neTI (hu : X.A.units + 64 < cLine) : OpR X (compareOp .NotEq) (rNeTI X.K) := fun pins s σ H x y v u Q I rx ry ⟨a, b, ns, ms, e1, e2, h1, h2, q⟩ =>
  op_neD hu pins s σ H x y v u Q I rx ry ⟨_, _, e1 ▸ .tup h1 (dpAllInts ns), e2 ▸ .tup h2 (dpAllInts ms), shTup ns, shTup ms, by rw [PyData.eqv, eqvAllInts]; exact q⟩
end
/-! ### heaps -/
theorem same_upd {H : Hp} {p : Addr} {o : HO} (h : H p = none) : Same H (upd H p o) := fun b x e => by
  rw [upd_ne (ne_of_none e h)]
  exact e
/-- all that was tracked is as it was, but for what is at p -/
def Kp (p : Addr) (H H' : Hp) : Prop := ∀ b o, b ≠ p → H b = some o → H' b = some o
theorem Kp.refl (p : Addr) (H : Hp) : Kp p H H := fun _ _ _ h => h
theorem Kp.trans {p : Addr} {H H1 H2 : Hp} (a : Kp p H H1) (b : Kp p H1 H2) : Kp p H H2 := fun c o n h => b c o n (a c o n h)
theorem Kp.upd {p : Addr} {H : Hp} {o : HO} : Kp p H (upd H p o) := fun b x n e => by rw [upd_ne n]; exact e
theorem Kp.of {p : Addr} {H H' : Hp} (s : Same H H') : Kp p H H' := fun b o _ e => s b o e
theorem Kp.new {p q : Addr} {H H1 : Hp} {o : HO} (k : Kp p H H1) (n : H q = none) : Kp p H (L2.upd H1 q o) := fun b x nb e => by
  rw [upd_ne (ne_of_none e n)]
  exact k b x nb e
theorem same_new {q : Addr} {H H1 : Hp} {o : HO} (k : Same H H1) (n : H q = none) : Same H (upd H1 q o) := fun b x e => by
  rw [upd_ne (ne_of_none e n)]
  exact k b x e
theorem Kp.none {p q : Addr} {H H' : Hp} (k : Kp p H H') (h : H' q = none) (n : q ≠ p) : H q = none := by
  cases e : H q with
  | none => rfl
  | some o =>
    rw [k q o n e] at h
    cases h
/-- the law's pool: a list of L ints -/
def Pool (H : Hp) (p : Addr) (L : Nat) : Prop := ∃ ns : List Int, H p = some (.lst (ns.map V.int)) ∧ ns.length = L
theorem Pool.ne {H : Hp} {p q : Addr} {L : Nat} (h : Pool H p L) (n : H q = none) : q ≠ p := fun e => by
  obtain ⟨ns, h, _⟩ := h
  rw [← e, n] at h
  cases h
theorem Pool.new {H : Hp} {p q : Addr} {o : HO} {L : Nat} (h : Pool H p L) (n : H q = none) : Pool (upd H q o) p L := by
  have hn := (h.ne n).symm
  obtain ⟨ns, h, e⟩ := h
  exact ⟨ns, by rw [upd_ne hn]; exact h, e⟩
theorem Pool.keep {H : Hp} {p q : Addr} {o : HO} {L : Nat} (h : Pool H p L) (n : q ≠ p) : Pool (upd H q o) p L := by
  obtain ⟨ns, h, e⟩ := h
  exact ⟨ns, by rw [upd_ne n.symm]; exact h, e⟩
theorem get_map {ns : List Int} {i : Nat} {n : Int} (h : ns[i]? = some n) : (ns.map V.int)[i]? = some (.int n) := by
  rw [List.getElem?_map, h]
  rfl
theorem at_map {ns : List Int} {i : Int} (h0 : 0 ≤ i) (h1 : i < ns.length) : ∃ n, ns[i.toNat]? = some n ∧ atI (ns.map V.int) i = some (.int n) := by
  have hi : i.toNat < ns.length := by omega
  refine ⟨ns[i.toNat], List.getElem?_eq_getElem hi, ?_⟩
  refine at_of (j := i.toNat) (by omega) ?_
  exact get_map (List.getElem?_eq_getElem hi)
theorem ixN_in {n : Nat} {i : Int} (h0 : 0 ≤ i) (h1 : i < n) : ixN n i = some i.toNat := by
  unfold ixN
  rw [if_pos h0, if_pos h1]
theorem set_map {ns : List Int} {j : Nat} {z : Int} : (ns.map V.int).set j (.int z) = (ns.set j z).map V.int := by
  rw [List.map_set]
theorem small100 {n : Nat} (h : n ≤ 1000) : n ≤ sizeLine := Nat.le_of_lt (small1000 h)
theorem len_map (ns : List Int) : (ns.map V.int).length = ns.length := List.length_map ..
/-! ### what a for walks: a list or a tuple -/
def iSeq (K : PySem.W.Frag) (tl : TE) : TI := fun σ H R => iList K tl σ H R ∨ iTup K tl σ H R
theorem pi_seq {X : Cx} {tg l : Expr} {tl : TE} (h1 : PI X tg l (iList X.K tl)) (h2 : PI X tg l (iTup X.K tl)) : PI X tg l (iSeq X.K tl) :=
  ⟨fun pins s σ H R I h => h.elim (fun h => h1.run pins s σ H R I h) fun h => h2.run pins s σ H R I h⟩
theorem pi_sq {X : Cx} {tg l : Expr} {tl : TE} (h : PE X l tl) : PI X tg l (iSeq X.K tl) := pi_seq (pi_list h) (pi_tup h)
/-! ### the same rules, the written part by name (within a comprehension's block) -/
section
variable (K : PySem.W.Frag) {X : Cx}
def rLenA (K : PySem.W.Frag) : List V → Hp → VK → Prop := fun xs H Q => ∃ p ys, xs = [V.ref p] ∧ (SqL K H p ys ∨ SqT K H p ys) ∧ Q (.int ys.length) H
def rListL (K : PySem.W.Frag) : List V → Hp → VK → Prop := fun xs H Q => ∃ p ys, xs = [V.ref p] ∧ (SqL K H p ys ∨ SqT K H p ys) ∧ ∀ l, H l = none → Q (.ref l) (upd H l (.lst ys))
def rTupL (K : PySem.W.Frag) : List V → Hp → VK → Prop := fun xs H Q => ∃ p ys, xs = [V.ref p] ∧ SqL K H p ys ∧ ∀ l, H l = none → Q (.ref l) (upd H l (.tup ys))
theorem k_len (hK : X.K = K := by rfl) : CallR X (.builtin "len") (rLenA K) := hK ▸ call_lenA
theorem k_list (hK : X.K = K := by rfl) : CallR X (.type "list") (rListL K) := hK ▸ call_listL
theorem k_tuple (hK : X.K = K := by rfl) : CallR X (.type "tuple") (rTupL K) := hK ▸ call_tupL
theorem k_isi (hK : X.K = K := by rfl) : CallR X (.builtin "isinstance") (rIsi K) := hK ▸ call_isi
theorem k_all (hK : X.K = K := by rfl) (hc : X.calm = true := by rfl) : CallR X (.builtin "all") (rAll K) := hK ▸ cr_all hc
theorem k_sum (hK : X.K = K := by rfl) (hc : X.calm = true := by rfl) : CallR X (.builtin "sum") (rSum K) := hK ▸ cr_sum hc
theorem k_ixL (hK : X.K = K := by rfl) : IxR X (rIxL K) := hK ▸ ix_list
theorem k_ixT (hK : X.K = K := by rfl) : IxR X (rIxT K) := hK ▸ ix_tup
theorem k_slL (hK : X.K = K := by rfl) : SlR X (rSlL K) := hK ▸ sl_list
theorem k_slT (hK : X.K = K := by rfl) : SlR X (rSlT K) := hK ▸ sl_tup
theorem k_piL {tg l : Expr} {tl : TE} (hl : PE X l tl) (hK : X.K = K := by rfl) : PI X tg l (iList K tl) := hK ▸ pi_list hl
theorem k_piT {tg l : Expr} {tl : TE} (hl : PE X l tl) (hK : X.K = K := by rfl) : PI X tg l (iTup K tl) := hK ▸ pi_tup hl
theorem k_piS {tg l : Expr} {tl : TE} (hl : PE X l tl) (hK : X.K = K := by rfl) : PI X tg l (iSeq K tl) := hK ▸ pi_sq hl
theorem k_eqI (hu : X.A.units + 64 < cLine) (hK : X.K = K := by rfl) : OpR X (compareOp .Eq) (rEqI K) := hK ▸ op_eqI hu
theorem k_neI (hu : X.A.units + 64 < cLine) (hK : X.K = K := by rfl) : OpR X (compareOp .NotEq) (rNeI K) := hK ▸ op_neI hu
theorem k_eqTI (hu : X.A.units + 64 < cLine) (hK : X.K = K := by rfl) : OpR X (compareOp .Eq) (rEqTI K) := hK ▸ op_eqTI hu
theorem k_neTI (hu : X.A.units + 64 < cLine) (hK : X.K = K := by rfl) : OpR X (compareOp .NotEq) (rNeTI K) := hK ▸ op_neTI hu
theorem k_getL (hK : X.K = K := by rfl) : PGet X (fun o i H Q => ∃ p xs k v, o = .ref p ∧ i = .int k ∧ 0 ≤ k ∧ SqL K H p xs ∧ xs[k.toNat]? = some v ∧ Q v H) := hK ▸ get_lst
theorem k_star {e : Expr} {es : List Expr} {te : TE} {t : TA} {p : Pos} (he : PE X e te) (hr : PA X es t) (hK : X.K = K := by rfl) (hs : starEach (.Starred e p :: es) X.env = (true, eval e X.env) :: starEach es X.env := by rfl) : PA X (.Starred e p :: es) (StX.tStar K te t) := hK ▸ StX.pa_star he hr hs
end
theorem iteP {c A B : Prop} [Decidable c] (hc : c) (h : A) : if decide c = true then A else B := by
  rw [if_pos (decide_eq_true hc)]
  exact h
section
variable (K : PySem.W.Frag) {X : Cx}
theorem k_listT (hK : X.K = K := by rfl) : CallR X (.type "list") (rListL K) := k_list K hK
end

/-! ### word, *numbers = t -/
section
variable {prog : Program} {w : World} {A : Around} {E : Value → Shared → Prop} {s : Shared}
theorem tup_walks (hh : A.handled = none) (it t : Addr) (hne : t ≠ it) (items : Array Value) (k : Nat) :
    WalksS prog w A it [it, t] [it] (fun a b => b = a) (items.size - k) (fun i v => items[k + i]? = some v) (fun i s => IsTupIter s.heap it t (k + i) ∧ IsTup s.heap t items) where
  sub := fun b hb => by rw [List.mem_singleton.mp hb]; exact List.mem_cons_self ..
  grefl := fun _ => rfl
  gtrans := fun _ _ _ h1 h2 => h2.trans h1
  frame := fun i s h' tk st _ hk => by
    obtain ⟨⟨o, ho, r⟩, ⟨p, hp, u⟩⟩ := st
    exact ⟨⟨o, hk it (by simp) o ho, r⟩, ⟨p, hk t (by simp) p hp, u⟩⟩
  item := fun i s Q E hi st hQ => by
    have hlt : k + i < items.size := by omega
    refine next_tuple_item st.1 st.2 (x := items[k + i]) (by simp [hlt]) fun h' hit hs => ?_
    refine hQ _ _ (by simp [hlt]) ⟨hit, st.2.extBut hs.extBut hne⟩ ⟨fun b o hb e => hs.extBut b o (fun q => hb (by simp [q])) e, rfl, rfl, rfl, Nat.le_refl _⟩
  done := fun s Q E st hQ => next_tuple_end hh st.1 st.2 (by simp; omega) fun h' he => hQ _ ⟨fun b o hb e => he b o (fun q => hb (by simp [q])) e, rfl, rfl, rfl, Nat.le_refl _⟩
  self := fun i s Q E st hQ => wpAny_pyIter_tupleiter st.1 hQ
theorem unpack_star {t : Addr} {x : Value} {rest : List Value} {Q : List Value → Shared → Prop} (hh : A.handled = none) (ht : IsTup s.heap t (x :: rest).toArray) (hz : (x :: rest).length ≤ sizeLine)
    (hQ : ∀ (h' : Heap) (tk : Nat), (∀ b o, s.heap.get? b = some o → h'.get? b = some o) → Q [x, .ref h'.objs.size] { s with heap := h'.push { cls := .type "list", data := .seq rest.toArray }, toks := tk }) :
    wpAny (model prog w) A (unpackItems (.ref t) 2 (some 1)) Q E s := by
  have hlt : t < s.heap.objs.size := by
    obtain ⟨o, ho, _⟩ := id ht
    exact Heap.lt_size ho
  have hne : t ≠ s.heap.objs.size := Nat.ne_of_lt hlt
  unfold unpackItems
  refine wpAny_bind (show wpAny (model prog w) A (notIterableAtAll (.ref t)) _ E s from ?_)
  unfold notIterableAtAll
  refine wpAny_bind (wpAny_specialOf ht.typeIs slot_tuple_iter.lookup (wpAny_pure ?_))
  simp only [Bool.false_eq_true, if_false]
  refine wpAny_bind (wpAny_holding (iter_tuple ht ?_))
  refine wpAny_bind (wpAny_holding (draw_tuple hne 1 0 _ _ ⟨_, Heap.get?_push_size _ rfl, rfl, rfl⟩ (ht.push _) (by simp) fun h1 hit hs => ?_))
  have e1 : List.take 1 (List.drop 0 (x :: rest).toArray.toList) = [x] := by simp
  rw [e1, if_neg (by simp)]
  have ht1 : IsTup h1 t (x :: rest).toArray := (ht.push _).extBut hs.extBut hne
  have hlen : (x :: rest).toArray.size - 1 = rest.length := by simp
  have hlt1 : ∀ b ∈ [s.heap.objs.size, t], b < h1.objs.size := fun b hb => by
    have e : b = s.heap.objs.size ∨ b = t := by simpa using hb
    rcases e with rfl | rfl
    · obtain ⟨o, ho, _⟩ := id hit
      exact Heap.lt_size ho
    · obtain ⟨o, ho, _⟩ := id ht1
      exact Heap.lt_size ho
  refine wpAny_bind (wpAny_holding (wpAny_collect_iter (.inr (.inr (.inr rfl))) (tup_walks (A := A.in1) (prog := prog) (w := w) hh s.heap.objs.size t hne (x :: rest).toArray 1) (fun i s' st => ?_) ⟨hit, ht1⟩ hlt1 (by simp) (fun s' acc hm ha => ?_) (by rw [hlen]; rw [List.length_cons] at hz; omega)))
  · obtain ⟨o, ho, hc, _⟩ := st.1
    exact ⟨o, ho, hc⟩
  · have hacc : acc.toList = rest := by
      obtain ⟨hsz, hit⟩ := ha
      refine List.ext_getElem (by rw [Array.length_toList, hsz]; exact hlen) fun j h1 h2 => ?_
      have := hit j acc[j] (by simp [Array.length_toList] at h1; simp [h1])
      simp [Nat.add_comm 1 j] at this
      rw [List.getElem?_eq_getElem h2] at this
      simpa using (Option.some.inj this).symm
    rw [hacc]
    rw [if_neg (by omega)]
    simp only [Nat.sub_self, show 2 - 1 - 1 = 0 from rfl, Nat.sub_zero, List.take_length, List.drop_length, List.append_nil]
    obtain ⟨hp, gens, drawn, toks, os⟩ := s'
    obtain ⟨m1, m2, m3, m4, m5⟩ := hm
    cases m2
    cases m3
    cases m4
    refine wpAny_bind (wpAny_newObj_type (wpAny_pure ?_) (by show rest.toArray.size ≤ sizeLine; rw [List.size_toArray]; rw [List.length_cons] at hz; omega))
    refine hQ hp toks fun b o e => ?_
    have hb : b ≠ s.heap.objs.size := Nat.ne_of_lt (Heap.lt_size e)
    exact m1 b o (by simpa using hb) (hs.extBut b o hb (Heap.get?_push_of_some _ e))
end
def gStar (K : PySem.W.Frag) (g1 g2 : TG) : TG := fun v σ H Q => ∃ (a : Addr) (z : V) (xs : List V), v = .ref a ∧ SqT K H a (z :: xs) ∧ ∀ q, H q = none → g1 z σ (upd H q (.lst xs)) fun σ' H' => g2 (.ref q) σ' H' Q
theorem pg_star (K : PySem.W.Frag) {X : Cx} {t1 t2 : Expr} {g1 g2 : TG} {k : Nat} {p pos : Pos} (hc : X.calm = true) (h1 : PG X t1 g1) (h2 : PG X t2 g2) (hK : X.K = K := by rfl)
    (hs : assignEach [t1, .Starred t2 p] X.env = [(false, assign t1 X.env), (true, assign t2 X.env)] := by rfl) : PG X (.Tuple [t1, .Starred t2 p] k pos) (gStar K g1 g2) := by
  subst hK
  refine ⟨fun pins s σ H v u Q I r hw => ?_⟩
  obtain ⟨a, z, xs, rfl, hq, hw⟩ := hw
  cases r
  obtain ⟨its, rv, ht, hz⟩ := I.tuple hq
  cases rv with
  | @cons _ uz _ us rz rs =>
    rw [assign_Tuple, hs]
    refine wpAny_bind (wpAny_standAt ?_)
    unfold unpack
    refine wpAny_bind (wpAny_holding (unpack_star (I.ok.hd hc) ht (by have := rs.length; rw [List.length_cons] at hz ⊢; omega) fun h' tk hk => ?_))
    have I1 : Inv X pins σ H { s with heap := h', toks := tk } := I.kept (t' := tk) hk
    have hf : H h'.objs.size = none := I1.hok.fresh (Nat.le_refl _)
    have I2 : Inv X pins σ (upd H h'.objs.size (.lst xs)) { s with heap := h'.push { cls := .type "list", data := .seq us.toArray }, toks := tk } :=
      I1.laid (t' := tk) (o := .lst xs) (fun b ob q => Heap.get?_push_of_some _ q) (Nat.le_refl _) ⟨by rw [List.length_cons] at hz; omega, us, 0, rs, Heap.get?_push_size _ rfl⟩
    refine assignInOrder_cons (thn (h1.run pins _ σ _ z uz _ I2 rz (hw _ hf)) fun _ s3 ⟨σ3, H3, I3, q3⟩ => ?_)
    exact assignInOrder_cons (thn (h2.run pins s3 σ3 H3 (.ref h'.objs.size) _ _ I3 rfl q3) fun _ s4 h4 => assignInOrder_nil h4)

/-! ### first, *others = a list -/
section
variable {prog : Program} {w : World} {A : Around} {E : Value → Shared → Prop} {s : Shared}
theorem lst_walks (hh : A.handled = none) (it t : Addr) (hne : t ≠ it) (items : Array Value) (k : Nat) :
    WalksS prog w A it [it, t] [it] (fun a b => b = a) (items.size - k) (fun i v => items[k + i]? = some v) (fun i s => s.heap.IsListIter it t (k + i) ∧ s.heap.IsList t items) where
  sub := fun b hb => by rw [List.mem_singleton.mp hb]; exact List.mem_cons_self ..
  grefl := fun _ => rfl
  gtrans := fun _ _ _ h1 h2 => h2.trans h1
  frame := fun i s h' tk st _ hk => by
    obtain ⟨⟨o, ho, r⟩, ⟨p, hp, u⟩⟩ := st
    exact ⟨⟨o, hk it (by simp) o ho, r⟩, ⟨p, hk t (by simp) p hp, u⟩⟩
  item := fun i s Q E hi st hQ => by
    have hlt : k + i < items.size := by omega
    refine wpAny_pyNext_list_item st.1 st.2 (x := items[k + i]) (by simp [hlt]) fun h' hit hs => ?_
    refine hQ _ _ (by simp [hlt]) ⟨hit, st.2.extBut hs.extBut hne⟩ ⟨fun b o hb e => hs.extBut b o (fun q => hb (by simp [q])) e, rfl, rfl, rfl, Nat.le_refl _⟩
  done := fun s Q E st hQ => wpAny_pyNext_list_end hh st.1 st.2 (by simp; omega) fun h' he => hQ _ ⟨fun b o hb e => he b o (fun q => hb (by simp [q])) e, rfl, rfl, rfl, Nat.le_refl _⟩
  self := fun i s Q E st hQ => wpAny_pyIter_listiter st.1 hQ
theorem unpack_starL {t : Addr} {x : Value} {rest : List Value} {Q : List Value → Shared → Prop} (hh : A.handled = none) (ht : s.heap.IsList t (x :: rest).toArray) (hz : (x :: rest).length ≤ sizeLine)
    (hQ : ∀ (h' : Heap) (tk : Nat), (∀ b o, s.heap.get? b = some o → h'.get? b = some o) → Q [x, .ref h'.objs.size] { s with heap := h'.push { cls := .type "list", data := .seq rest.toArray }, toks := tk }) :
    wpAny (model prog w) A (unpackItems (.ref t) 2 (some 1)) Q E s := by
  have hlt : t < s.heap.objs.size := by
    obtain ⟨o, ho, _⟩ := id ht
    exact Heap.lt_size ho
  have hne : t ≠ s.heap.objs.size := Nat.ne_of_lt hlt
  unfold unpackItems
  refine wpAny_bind (show wpAny (model prog w) A (notIterableAtAll (.ref t)) _ E s from ?_)
  unfold notIterableAtAll
  refine wpAny_bind (wpAny_specialOf ht.typeIs slot_list_iter.lookup (wpAny_pure ?_))
  simp only [Bool.false_eq_true, if_false]
  refine wpAny_bind (wpAny_holding (wpAny_pyIter_list ht ?_))
  refine wpAny_bind (wpAny_holding (PySem.W.kun_draw hne 1 0 _ _ ⟨_, Heap.get?_push_size _ rfl, rfl, rfl⟩ (ht.push _) (by simp) fun h1 hit hs => ?_))
  have e1 : List.take 1 (List.drop 0 (x :: rest).toArray.toList) = [x] := by simp
  rw [e1, if_neg (by simp)]
  have ht1 : h1.IsList t (x :: rest).toArray := (ht.push _).extBut hs.extBut hne
  have hlen : (x :: rest).toArray.size - 1 = rest.length := by simp
  have hlt1 : ∀ b ∈ [s.heap.objs.size, t], b < h1.objs.size := fun b hb => by
    have e : b = s.heap.objs.size ∨ b = t := by simpa using hb
    rcases e with rfl | rfl
    · obtain ⟨o, ho, _⟩ := id hit
      exact Heap.lt_size ho
    · obtain ⟨o, ho, _⟩ := id ht1
      exact Heap.lt_size ho
  refine wpAny_bind (wpAny_holding (wpAny_collect_iter (.inr (.inr (.inl rfl))) (lst_walks (A := A.in1) (prog := prog) (w := w) hh s.heap.objs.size t hne (x :: rest).toArray 1) (fun i s' st => ?_) ⟨hit, ht1⟩ hlt1 (by simp) (fun s' acc hm ha => ?_) (by rw [hlen]; rw [List.length_cons] at hz; omega)))
  · obtain ⟨o, ho, hc, _⟩ := st.1
    exact ⟨o, ho, hc⟩
  · have hacc : acc.toList = rest := by
      obtain ⟨hsz, hit⟩ := ha
      refine List.ext_getElem (by rw [Array.length_toList, hsz]; exact hlen) fun j h1 h2 => ?_
      have := hit j acc[j] (by simp [Array.length_toList] at h1; simp [h1])
      simp [Nat.add_comm 1 j] at this
      rw [List.getElem?_eq_getElem h2] at this
      simpa using (Option.some.inj this).symm
    rw [hacc]
    rw [if_neg (by omega)]
    simp only [Nat.sub_self, show 2 - 1 - 1 = 0 from rfl, Nat.sub_zero, List.take_length, List.drop_length, List.append_nil]
    obtain ⟨hp, gens, drawn, toks, os⟩ := s'
    obtain ⟨m1, m2, m3, m4, m5⟩ := hm
    cases m2
    cases m3
    cases m4
    refine wpAny_bind (wpAny_newObj_type (wpAny_pure ?_) (by show rest.toArray.size ≤ sizeLine; rw [List.size_toArray]; rw [List.length_cons] at hz; omega))
    refine hQ hp toks fun b o e => ?_
    have hb : b ≠ s.heap.objs.size := Nat.ne_of_lt (Heap.lt_size e)
    exact m1 b o (by simpa using hb) (hs.extBut b o hb (Heap.get?_push_of_some _ e))
end
def gStarL (K : PySem.W.Frag) (g1 g2 : TG) : TG := fun v σ H Q => ∃ (a : Addr) (z : V) (xs : List V), v = .ref a ∧ SqL K H a (z :: xs) ∧ ∀ q, H q = none → g1 z σ (upd H q (.lst xs)) fun σ' H' => g2 (.ref q) σ' H' Q
theorem pg_starL (K : PySem.W.Frag) {X : Cx} {t1 t2 : Expr} {g1 g2 : TG} {k : Nat} {p pos : Pos} (hc : X.calm = true) (h1 : PG X t1 g1) (h2 : PG X t2 g2) (hK : X.K = K := by rfl)
    (hs : assignEach [t1, .Starred t2 p] X.env = [(false, assign t1 X.env), (true, assign t2 X.env)] := by rfl) : PG X (.Tuple [t1, .Starred t2 p] k pos) (gStarL K g1 g2) := by
  subst hK
  refine ⟨fun pins s σ H v u Q I r hw => ?_⟩
  obtain ⟨a, z, xs, rfl, hq, hw⟩ := hw
  cases r
  obtain ⟨its, rv, ht, hz⟩ := I.list hq
  cases rv with
  | @cons _ uz _ us rz rs =>
    obtain ⟨o, n, ho, hoc, _, hod⟩ := ht
    have ht : s.heap.IsList a (uz :: us).toArray := ⟨o, ho, hoc, n, hod⟩
    rw [assign_Tuple, hs]
    refine wpAny_bind (wpAny_standAt ?_)
    unfold unpack
    refine wpAny_bind (wpAny_holding (unpack_starL (I.ok.hd hc) ht (by have := rs.length; rw [List.length_cons] at hz ⊢; omega) fun h' tk hk => ?_))
    have I1 : Inv X pins σ H { s with heap := h', toks := tk } := I.kept (t' := tk) hk
    have hf : H h'.objs.size = none := I1.hok.fresh (Nat.le_refl _)
    have I2 : Inv X pins σ (upd H h'.objs.size (.lst xs)) { s with heap := h'.push { cls := .type "list", data := .seq us.toArray }, toks := tk } :=
      I1.laid (t' := tk) (o := .lst xs) (fun b ob q => Heap.get?_push_of_some _ q) (Nat.le_refl _) ⟨by rw [List.length_cons] at hz; omega, us, 0, rs, Heap.get?_push_size _ rfl⟩
    refine assignInOrder_cons (thn (h1.run pins _ σ _ z uz _ I2 rz (hw _ hf)) fun _ s3 ⟨σ3, H3, I3, q3⟩ => ?_)
    exact assignInOrder_cons (thn (h2.run pins s3 σ3 H3 (.ref h'.objs.size) _ _ I3 rfl q3) fun _ s4 h4 => assignInOrder_nil h4)
/-- zip of two lists, within a block of a comprehension -/
theorem k_zip (K : PySem.W.Frag) {X : Cx} {e e2 : Expr} {ta : TA} {p pos tpos : Pos} {elts : List Expr} {kk : Nat} (hg : Gl X "zip") (hm : X.mg "zip" = none) (ha : PA X [e, e2] ta) (hK : X.K = K := by rfl)
    (hs : starEach [e, e2] X.env = (false, eval e X.env) :: starEach [e2] X.env := by rfl) (hpl : (backTo pos (starEach [e2] X.env)).any (·.1) = false := by rfl) :
    PI X (.Tuple elts kk tpos) (.Call (.Name "zip" p) [e, e2] [] pos) (iZip K ta) := hK ▸ pi_zip hg hm ha hs hpl

/-! ### zip of a list and a tuple -/
section
variable {prog : Program} {w : World} {A : Around}
theorem draws_tuple (hh : A.handled = none) (it t : Addr) (hne : t ≠ it) (items : Array Value) :
    Draws prog w A it [it, t] items.size (fun i v => items[i]? = some v) (fun i h => h.IsTupleIter it t i ∧ h.IsTuple t items) where
  live := fun _ _ st => by
    obtain ⟨⟨o, ho, _⟩, _⟩ := st
    exact ⟨o, ho⟩
  frame := fun _ _ _ st hk => ⟨st.1.at fun o e => hk it (by simp) o e, st.2.at fun o e => hk t (by simp) o e⟩
  item := fun i s Q E hi st hQ => RZ.nextOf_tuple_item st.1 st.2 (x := items[i]) (by simp [hi]) fun h' hit' hs' => hQ _ h' s.toks (by simp [hi]) ⟨hit', st.2.extBut hs'.extBut hne⟩ hs'
  done := fun s Q E st hE => RZ.nextOf_tuple_end hh st.1 st.2 (by simp) hE
end
def ItzLT (K : PySem.W.Frag) (a b : Addr) : It where
  go := fun i H => ∃ (xs ys : List V) (x y : V), SqL K H a xs ∧ SqT K H b ys ∧ xs[i]? = some x ∧ ys[i]? = some y
  yld := fun i H v H' => ∃ T x y, v = .ref T ∧ H T = none ∧ H' = upd H T (.tup [x, y]) ∧ (∀ xs, SqL K H a xs → xs[i]? = some x) ∧ ∀ ys, SqT K H b ys → ys[i]? = some y
  stop := fun i H => ∃ xs ys : List V, SqL K H a xs ∧ SqT K H b ys ∧ ((i = xs.length ∧ i ≤ ys.length) ∨ (i = ys.length ∧ i ≤ xs.length))
structure Five (z TI TO i1 i2 a b : Addr) : Prop where
  sep : ZipSep2 z TI TO i1 i2 [i1, a] [i2, b]
  ai : a ≠ i1
  bi : b ≠ i2
def StLT (z TI TO i1 i2 a b : Addr) (i : Nat) (h : Heap) : Prop := IsZip h z TI TO .none ∧ IsTupOf2 h TI (.ref i1) (.ref i2) ∧ (∃ x y, IsTupOf2 h TO x y) ∧ h.IsListIter i1 a i ∧ h.IsTupleIter i2 b i
theorem mem5 {c z TI TO i1 i2 : Addr} (h : c ∈ [z, TI, TO, i1, i2]) : c = z ∨ c = TI ∨ c = TO ∨ c = i1 ∨ c = i2 := by simpa using h
theorem StLT.lt {z TI TO i1 i2 a b : Addr} {i : Nat} {h : Heap} (st : StLT z TI TO i1 i2 a b i h) {c : Addr} (hc : c ∈ [z, TI, TO, i1, i2]) : c < h.objs.size := by
  obtain ⟨hz, hTI, ⟨_, _, hTO⟩, ⟨_, e1, _⟩, ⟨_, e2, _⟩⟩ := st
  rcases mem5 hc with rfl | rfl | rfl | rfl | rfl
  · exact Heap.lt_size hz
  · exact Heap.lt_size hTI
  · exact Heap.lt_size hTO
  · exact Heap.lt_size e1
  · exact Heap.lt_size e2
theorem turn_zipLT {P : Program} {w : World} {K : PySem.W.Frag} {elts : List Expr} {kk : Nat} {tpos : Pos} {a b z TI TO i1 i2 : Addr} (D : Five z TI TO i1 i2 a b) :
    Turn P w K (.Tuple elts kk tpos) (ItzLT K a b) [z, TI, TO, i1, i2] z (StLT z TI TO i1 i2 a b) where
  mem := List.mem_cons_self ..
  obj := fun i h st c hc => by
    obtain ⟨hz, hTI, ⟨x, y, hTO⟩, ⟨o1, e1, _, d1⟩, ⟨o2, e2, _, d2⟩⟩ := st
    rcases mem5 hc with rfl | rfl | rfl | rfl | rfl
    · exact ⟨_, hz, fun v q => nomatch q⟩
    · exact ⟨_, hTI, fun v q => nomatch q⟩
    · exact ⟨_, hTO, fun v q => nomatch q⟩
    · exact ⟨o1, e1, fun v q => by rw [d1] at q; cases q⟩
    · exact ⟨o2, e2, fun v q => by rw [d2] at q; cases q⟩
  keep := fun i h h' st k => by
    obtain ⟨hz, hTI, ⟨x, y, hTO⟩, h1, h2⟩ := st
    exact ⟨k _ (by simp) _ hz, k _ (by simp) _ hTI, ⟨x, y, k _ (by simp) _ hTO⟩, h1.at fun o q => k _ (by simp) o q, h2.at fun o q => k _ (by simp) o q⟩
  item := by
    intro X eP eW eK hc i pins s σ H E I hf st hg
    subst eP eW eK
    have st0 := st
    obtain ⟨hz, hTI, ⟨x0, y0, hTO⟩, h1, h2⟩ := st
    obtain ⟨xs, ys, x, y, qx, qy, gx, gy⟩ := hg
    obtain ⟨us, r1, p1, _⟩ := I.list qx
    obtain ⟨ws, r2, p2, _⟩ := I.tuple qy
    obtain ⟨u, hu, ru⟩ := r1.get gx
    obtain ⟨v, hv, rv⟩ := r2.get gy
    have lu := (List.getElem?_eq_some_iff.mp hu).1
    have lv := (List.getElem?_eq_some_iff.mp hv).1
    have hh := I.ok.hd hc
    refine wpAny_pyNext_zipD2_item D.sep (Draws.list (A := X.A.in1) hh i1 a D.ai us.toArray) (draws_tuple (A := X.A.in1) hh i2 b D.bi ws.toArray) hz hTI hTO ⟨h1, p1.isList⟩ ⟨h2, p2⟩ (by simpa using lu) (by simpa using lv) fun x1 x2 h' tk e1 e2 hz' hTO' s1 s2 hT hsz hk => ?_
    have e1 : u = x1 := by
      have : us[i]? = some x1 := by simpa using e1
      rw [hu] at this
      exact Option.some.inj this
    have e2 : v = x2 := by
      have : ws[i]? = some x2 := by simpa using e2
      rw [hv] at this
      exact Option.some.inj this
    subst e1 e2
    refine ⟨_, rfl, wpAny_letOwnedTupleGo_zip (s := { s with heap := h', toks := tk }) hz' fun h2' hz2 sb => ?_⟩
    have zlt : z < s.heap.objs.size := st0.lt (by simp)
    have hT2 : h2'.get? s.heap.objs.size = some { cls := .type "tuple", data := .seq #[u, v] } := (sb.2 _ (Nat.ne_of_gt zlt)).trans hT
    have new : ObjOk X.prog X.w (upd H s.heap.objs.size (.tup [x, y])) h2' s.heap.objs.size (.tup [x, y]) := ⟨small100 (n := 2) (by decide), [u, v], .cons ru (.cons rv .nil), ⟨_, hT2, rfl, _, rfl⟩⟩
    have old : ∀ c o, c ∉ [z, TI, TO, i1, i2] → s.heap.get? c = some o → h2'.get? c = some o := fun c o hb q => by
      simp only [List.mem_cons, List.not_mem_nil, or_false, not_or] at hb
      exact (sb.2 c hb.1).trans (hk c o hb.1 hb.2.2.1 hb.2.2.2.1 hb.2.2.2.2 q)
    have I1 : Inv X pins σ (upd H s.heap.objs.size (.tup [x, y])) { s with heap := h2', toks := tk } := I.turnedNew (t' := tk) (ch := [z, TI, TO, i1, i2]) old hf (Nat.le_refl _) new
    refine ⟨.ref s.heap.objs.size, _, I1, rfl, ⟨_, x, y, rfl, I.hok.fresh (Nat.le_refl _), rfl, fun l hl => ?_, fun l hl => ?_⟩, ⟨hz2, ?_, ⟨u, v, ?_⟩, ?_, ?_⟩, fun c hcm => ?_⟩
    · rw [I.list_inj hl qx]
      exact gx
    · rw [I.tuple_inj hl qy]
      exact gy
    · exact (sb.2 _ D.sep.TIz).trans (hk _ _ D.sep.TIz D.sep.TITO D.sep.TIi1 D.sep.TIi2 hTI)
    · exact (sb.2 _ D.sep.TOz).trans hTO'
    · exact s1.1.at fun o q => (sb.2 _ D.sep.zi1.symm).trans q
    · exact s2.1.at fun o q => (sb.2 _ D.sep.zi2.symm).trans q
    · rw [upd_ne (Nat.ne_of_lt (st0.lt hcm))]
      exact (hf c hcm).1
  done := by
    intro X eP eW eK hc i pins s σ H E I hf st hg
    subst eP eW eK
    obtain ⟨hz, hTI, ⟨x0, y0, hTO⟩, h1, h2⟩ := st
    obtain ⟨xs, ys, qx, qy, hend⟩ := hg
    obtain ⟨us, r1, p1, _⟩ := I.list qx
    obtain ⟨ws, r2, p2, _⟩ := I.tuple qy
    have l1 := r1.length
    have l2 := r2.length
    have hh := I.ok.hd hc
    have e1 : us.toArray.size = us.length := by simp
    have e2 : ws.toArray.size = ws.length := by simp
    refine wpAny_pyNext_zipD2_end D.sep (Draws.list (A := X.A.in1) hh i1 a D.ai us.toArray) (draws_tuple (A := X.A.in1) hh i2 b D.bi ws.toArray) hz hTI hTO ⟨h1, p1.isList⟩ ⟨h2, p2⟩ (by omega) (by omega) (by omega) fun h' tk hk => ⟨rfl, ?_⟩
    refine I.turnedL (t' := tk) (ch := [z, TI, TO, i1, i2]) (fun c o hb q => ?_) hf
    simp only [List.mem_cons, List.not_mem_nil, or_false, not_or] at hb
    exact hk c o hb.1 hb.2.2.1 hb.2.2.2.1 hb.2.2.2.2 q
  self := fun A i s Q E st h => wpAny_pyIter_zip st.1 h
def iZipLT (K : PySem.W.Frag) (ta : TA) : TI := fun σ H R => ta σ H fun vs H1 => ∃ (a b : Addr) (xs ys : List V), vs = [.ref a, .ref b] ∧ SqL K H1 a xs ∧ SqT K H1 b ys ∧ R (ItzLT K a b) H1
theorem pi_zipLT (K : PySem.W.Frag) {X : Cx} {e e2 : Expr} {ta : TA} {p pos tpos : Pos} {elts : List Expr} {kk : Nat} (hg : Gl X "zip") (hm : X.mg "zip" = none) (ha : PA X [e, e2] ta) (hK : X.K = K := by rfl)
    (hs : starEach [e, e2] X.env = (false, eval e X.env) :: starEach [e2] X.env := by rfl) (hpl : (backTo pos (starEach [e2] X.env)).any (·.1) = false := by rfl) :
    PI X (.Tuple elts kk tpos) (.Call (.Name "zip" p) [e, e2] [] pos) (iZipLT K ta) := by
  subst hK
  refine ⟨fun pins s σ H R I h => ?_⟩
  refine Call_ (ld_blt I hg hm PyProof.Rows.boot_zip (PyProof.Rows.callWith_type1 (thn (ha.run pos pins s σ H _ I h) fun us s1 ⟨vs, H1, I1, r1, q1⟩ => ?_) hs hpl))
  obtain ⟨a, b, xs, ys, rfl, qx, qy, q⟩ := q1
  obtain ⟨u1, u2, rfl, ra, rb⟩ := vals2 r1
  cases (show u1 = Value.ref a from ra)
  cases (show u2 = Value.ref b from rb)
  obtain ⟨ws, _, p1, _⟩ := I1.list qx
  obtain ⟨zs, _, p2, _⟩ := I1.tuple qy
  have la : a < s1.heap.objs.size := p1.lt
  have lb : b < s1.heap.objs.size := by
    obtain ⟨o, ho, _⟩ := id p2
    exact Heap.lt_size ho
  refine zip_begins2 (begins_list a ws.toArray) (begins_tuple b zs.toArray) p1.isList p2 fun h' hz hTI hTO g1 g2 hsz hk => wpAny_pyIter_zip hz ?_
  have I2 : Inv X pins σ H1 { s1 with heap := h' } := I1.kept (t' := s1.toks) hk
  have sep : ZipSep2 (s1.heap.objs.size + 4) (s1.heap.objs.size + 2) (s1.heap.objs.size + 3) s1.heap.objs.size (s1.heap.objs.size + 1) [s1.heap.objs.size, a] [s1.heap.objs.size + 1, b] :=
    zip_sep2 (fun c hc => by rw [List.mem_singleton.mp hc]; exact la) fun c hc => by rw [List.mem_singleton.mp hc]; exact lb
  have D : Five (s1.heap.objs.size + 4) (s1.heap.objs.size + 2) (s1.heap.objs.size + 3) s1.heap.objs.size (s1.heap.objs.size + 1) a b := ⟨sep, Nat.ne_of_lt la, Nat.ne_of_lt (Nat.lt_succ_of_lt lb)⟩
  refine ⟨_, [s1.heap.objs.size + 4, s1.heap.objs.size + 2, s1.heap.objs.size + 3, s1.heap.objs.size, s1.heap.objs.size + 1], _, _, H1, rfl, I2, turn_zipLT D, ⟨hz, hTI, ⟨_, _, hTO⟩, ⟨_, g1, rfl, rfl⟩, ⟨_, g2, rfl, rfl⟩⟩, fun c hcm => ?_, q⟩
  have hle : s1.heap.objs.size ≤ c := by rcases mem5 hcm with rfl | rfl | rfl | rfl | rfl <;> omega
  exact I1.fpOk hle (I1.hok.fresh hle)
theorem walk_zipLT {K : PySem.W.Frag} {a b : Addr} {xs ys : List V} {n : Nat} (h1 : xs.length = n) (h2 : ys.length = n) :
    Walk (ItzLT K a b) n (fun H => SqL K H a xs ∧ SqT K H b ys) (YPair (fun i => xs[i]?) (fun i => ys[i]?)) :=
  ⟨fun i H hi q => ⟨xs, ys, xs[i], ys[i], q.1, q.2, by simp, by simp⟩, fun H q => ⟨xs, ys, q.1, q.2, .inl ⟨h1.symm, by omega⟩⟩,
    fun i H v H' _ q y => by
      obtain ⟨T, x, y, e1, e2, e3, e4, e5⟩ := y
      exact ⟨T, x, y, e1, e2, e3, e4 _ q.1, e5 _ q.2⟩⟩

/-! ### the commands -/
inductive Cm where
  | go (k : Int) | turn (n : Int) | mirror | scale (k : Int) | aim (a b : Int) | place (a b : Int) | mark | ret | exch
def Cm.word : Cm → Str
  | .go _ => "go" | .turn _ => "turn" | .mirror => "mirror" | .scale _ => "scale" | .aim _ _ => "aim" | .place _ _ => "place" | .mark => "mark" | .ret => "return" | .exch => "exchange"
def Cm.nums : Cm → List Int
  | .go k => [k] | .turn n => [n] | .scale k => [k] | .aim a b => [a, b] | .place a b => [a, b] | _ => []
def Cm.lims : Cm → List (Int × Int)
  | .go _ => [(-9, 9)] | .turn _ => [(1, 3)] | .scale _ => [(-3, 3)] | .aim _ _ => [(-9, 9), (-9, 9)] | .place _ _ => [(-9, 9), (-9, 9)] | _ => []
def Cm.ok (c : Cm) : Prop := ∀ (i : Nat) (z : Int) (l : Int × Int), c.nums[i]? = some z → c.lims[i]? = some l → l.1 ≤ z ∧ z ≤ l.2
def Cm.vals (c : Cm) : List V := V.str c.word :: c.nums.map V.int
def rot : Nat → Int × Int → Int × Int
  | 0, h => h
  | n + 1, h => (-(rot n h).2, (rot n h).1)
def Cm.mv (c : Cm) : List Int → List Int
  | [x, y, u, v, p, q] => match c with
    | .go k => [x + k * u, y + k * v, u, v, p, q]
    | .turn n => [x, y, (rot n.toNat (u, v)).1, (rot n.toNat (u, v)).2, p, q]
    | .mirror => [x, y, u, -v, p, q]
    | .scale k => [x, y, k * u, k * v, p, q]
    | .aim a b => [x, y, a, b, p, q]
    | .place a b => [a, b, u, v, p, q]
    | .mark => [x, y, u, v, x, y]
    | .ret => [p, q, u, v, p, q]
    | .exch => [p, q, u, v, x, y]
  | ps => ps
/-- the module's table of limits -/
structure Lims (w : World) (K : PySem.W.Frag) (d : Addr) : Prop where
  row : ∀ c : Cm, ∃ (ab : Addr) (ps : List Addr), KDct K w d c.word (.ref ab) ∧ (∀ H, SqT K H ab (ps.map V.ref)) ∧ ps.length = c.nums.length ∧ c.lims.length = c.nums.length ∧
    ∀ (i : Nat) (p : Addr), ps[i]? = some p → ∃ l, c.lims[i]? = some l ∧ ∀ H, SqT K H p [.int l.1, .int l.2]
theorem sqK {K : PySem.W.Frag} {a : Addr} {d : Option Addr} {us : List Value} {n : Nat} {sl : Array (Option Value)} {xs : List V} (h : K.lookup a = some ⟨.type "tuple", d, .seq us.toArray n, sl⟩) (hl : us.length ≤ 1000) (r : Vals xs us) : ∀ H, SqT K H a xs :=
  fun H => .inr ⟨_, us.toArray, n, h, rfl, rfl, by rw [List.size_toArray]; exact small100 hl, r⟩
theorem iteN {c A B : Prop} [Decidable c] (hc : ¬ c) (h : B) : if decide c = true then A else B := by
  rw [if_neg (by rw [decide_eq_false hc]; exact Bool.false_ne_true)]
  exact h
theorem iteNN {c A B : Prop} [Decidable c] (hc : ¬ c) (h : A) : if (!decide c) = true then A else B := by
  rw [if_pos (by rw [decide_eq_false hc]; rfl)]
  exact h

def Row (w : World) (K : PySem.W.Frag) (d : Addr) (wd : Str) (ls : List (Int × Int)) : Prop := ∃ (ab : Addr) (ps : List Addr), KDct K w d wd (.ref ab) ∧ (∀ H, SqT K H ab (ps.map V.ref)) ∧ ps.length = ls.length ∧
  ∀ (i : Nat) (p : Addr), ps[i]? = some p → ∃ l, ls[i]? = some l ∧ ∀ H, SqT K H p [.int l.1, .int l.2]
section
variable {w : World} {K : PySem.W.Frag} {aB : Addr} {eB : Array DictEntry} {nB : Nat} {wd : Str} {b p p' : Addr} {db dp dp' : Option Addr} {nb np np' : Nat} {sb sp sp' : Array (Option Value)} {lo hi lo' hi' : Int} {t u t' u' : Tok}
theorem pairK (h : K.lookup p = some ⟨.type "tuple", dp, .seq ([.int lo t, .int hi u] : List Value).toArray np, sp⟩) : ∀ H, SqT K H p [.int lo, .int hi] := sqK h (by simp) (.cons ⟨t, rfl⟩ (.cons ⟨u, rfl⟩ .nil))
theorem row0 (lB : K.lookup aB = some ⟨.type "dict", none, .dict eB nB, #[]⟩) (iB : PySem.W.KeysLit w.params eB.toList) (n : PySem.W.nsIn K aB wd = some (some (.ref b))) (l : K.lookup b = some ⟨.type "tuple", db, .seq ([] : List Value).toArray nb, sb⟩) : Row w K aB wd [] :=
  ⟨b, [], ⟨eB, nB, _, lB, iB, n, rfl⟩, sqK l (by simp) .nil, rfl, fun i p e => by simp at e⟩
theorem row1 (lB : K.lookup aB = some ⟨.type "dict", none, .dict eB nB, #[]⟩) (iB : PySem.W.KeysLit w.params eB.toList) (n : PySem.W.nsIn K aB wd = some (some (.ref b))) (l : K.lookup b = some ⟨.type "tuple", db, .seq ([.ref p] : List Value).toArray nb, sb⟩)
    (q : K.lookup p = some ⟨.type "tuple", dp, .seq ([.int lo t, .int hi u] : List Value).toArray np, sp⟩) : Row w K aB wd [(lo, hi)] :=
  ⟨b, [p], ⟨eB, nB, _, lB, iB, n, rfl⟩, sqK l (by simp) (.cons rfl .nil), rfl, fun i z e => by
    match i, e with
    | 0, e => cases e; exact ⟨_, rfl, pairK q⟩⟩
theorem row2 (lB : K.lookup aB = some ⟨.type "dict", none, .dict eB nB, #[]⟩) (iB : PySem.W.KeysLit w.params eB.toList) (n : PySem.W.nsIn K aB wd = some (some (.ref b))) (l : K.lookup b = some ⟨.type "tuple", db, .seq ([.ref p, .ref p'] : List Value).toArray nb, sb⟩)
    (q : K.lookup p = some ⟨.type "tuple", dp, .seq ([.int lo t, .int hi u] : List Value).toArray np, sp⟩) (q' : K.lookup p' = some ⟨.type "tuple", dp', .seq ([.int lo' t', .int hi' u'] : List Value).toArray np', sp'⟩) : Row w K aB wd [(lo, hi), (lo', hi')] :=
  ⟨b, [p, p'], ⟨eB, nB, _, lB, iB, n, rfl⟩, sqK l (by simp) (.cons rfl (.cons rfl .nil)), rfl, fun i z e => by
    match i, e with
    | 0, e => cases e; exact ⟨_, rfl, pairK q⟩
    | 1, e => cases e; exact ⟨_, rfl, pairK q'⟩⟩
theorem lims_of (r0 : Row w K aB "go" [(-9, 9)]) (r1 : Row w K aB "turn" [(1, 3)]) (r2 : Row w K aB "mirror" []) (r3 : Row w K aB "scale" [(-3, 3)]) (r4 : Row w K aB "aim" [(-9, 9), (-9, 9)]) (r5 : Row w K aB "place" [(-9, 9), (-9, 9)])
    (r6 : Row w K aB "mark" []) (r7 : Row w K aB "return" []) (r8 : Row w K aB "exchange" []) : Lims w K aB := by
  refine ⟨fun c => ?_⟩
  have fit : ∀ {ls : List (Int × Int)}, Row w K aB c.word ls → c.lims = ls → c.lims.length = c.nums.length → ∃ (ab : Addr) (ps : List Addr), KDct K w aB c.word (.ref ab) ∧ (∀ H, SqT K H ab (ps.map V.ref)) ∧ ps.length = c.nums.length ∧ c.lims.length = c.nums.length ∧ ∀ (i : Nat) (p : Addr), ps[i]? = some p → ∃ l, c.lims[i]? = some l ∧ ∀ H, SqT K H p [.int l.1, .int l.2] := fun {ls} r e1 e2 => by
    obtain ⟨ab, ps, h1, h2, h3, h4⟩ := r
    exact ⟨ab, ps, h1, h2, by rw [h3, ← e1, e2], e2, by rw [e1]; exact h4⟩
  cases c with
  | go k => exact fit r0 rfl rfl
  | turn k => exact fit r1 rfl rfl
  | mirror => exact fit r2 rfl rfl
  | scale k => exact fit r3 rfl rfl
  | aim a b => exact fit r4 rfl rfl
  | place a b => exact fit r5 rfl rfl
  | mark => exact fit r6 rfl rfl
  | ret => exact fit r7 rfl rfl
  | exch => exact fit r8 rfl rfl
end

def topS (i : Nat) : Stmt := PySem.Challenge.pw_penhome_k03_matrix_of_a_command.main.body.getD i (.Pass ⟨0, 0, 0, 0⟩)
theorem bt_all : bootBuiltins "all" = some (.builtin "all") := by decide +kernel
theorem bt_bool : bootBuiltins "bool" = some (.type "bool") := by decide +kernel
theorem bt_int : bootBuiltins "int" = some (.type "int") := by decide +kernel
theorem bt_isinstance : bootBuiltins "isinstance" = some (.builtin "isinstance") := by decide +kernel
theorem bt_len : bootBuiltins "len" = some (.builtin "len") := by decide +kernel
theorem bt_list : bootBuiltins "list" = some (.type "list") := by decide +kernel
theorem bt_range : bootBuiltins "range" = some (.type "range") := by decide +kernel
theorem bt_str : bootBuiltins "str" = some (.type "str") := by decide +kernel
theorem bt_sum : bootBuiltins "sum" = some (.builtin "sum") := by decide +kernel
theorem bt_tuple : bootBuiltins "tuple" = some (.type "tuple") := by decide +kernel
theorem bt_zip : bootBuiltins "zip" = some (.type "zip") := by decide +kernel
abbrev s_is_integer : Stmt := topS 6
abbrev N_is_integer : List Str := ["thing"]
theorem sc_is_integer : FnScope N_is_integer ["thing"] (defScope s_is_integer) := ⟨rfl, rfl, rfl, by decide +kernel, rfl, by decide +kernel, by decide +kernel⟩
abbrev s_is_pen : Stmt := topS 7
abbrev N_is_pen : List Str := ["thing", "number"]
theorem sc_is_pen : FnScope N_is_pen ["thing"] (defScope s_is_pen) := ⟨rfl, rfl, rfl, by decide +kernel, rfl, by decide +kernel, by decide +kernel⟩
abbrev s_is_within : Stmt := topS 8
abbrev N_is_within : List Str := ["thing", "bounds", "low", "high"]
theorem sc_is_within : FnScope N_is_within ["thing", "bounds"] (defScope s_is_within) := ⟨rfl, rfl, rfl, by decide +kernel, rfl, by decide +kernel, by decide +kernel⟩
abbrev s_is_command : Stmt := topS 9
abbrev N_is_command : List Str := ["thing", "word", "numbers", "bounds", "number", "pair"]
theorem sc_is_command : FnScope N_is_command ["thing"] (defScope s_is_command) := ⟨rfl, rfl, rfl, by decide +kernel, rfl, by decide +kernel, by decide +kernel⟩
abbrev s_turned : Stmt := topS 10
abbrev N_turned : List Str := ["u", "v", "times", "_"]
theorem sc_turned : FnScope N_turned ["u", "v", "times"] (defScope s_turned) := ⟨rfl, rfl, rfl, by decide +kernel, rfl, by decide +kernel, by decide +kernel⟩
abbrev s_moved : Stmt := topS 11
abbrev N_moved : List Str := ["pen", "command", "x", "y", "u", "v", "p", "q", "word"]
theorem sc_moved : FnScope N_moved ["pen", "command"] (defScope s_moved) := ⟨rfl, rfl, rfl, by decide +kernel, rfl, by decide +kernel, by decide +kernel⟩
abbrev s_vector : Stmt := topS 13
abbrev N_vector : List Str := ["pen"]
theorem sc_vector : FnScope N_vector ["pen"] (defScope s_vector) := ⟨rfl, rfl, rfl, by decide +kernel, rfl, by decide +kernel, by decide +kernel⟩
abbrev s_unit_pen : Stmt := topS 14
abbrev N_unit_pen : List Str := ["at", "i"]
theorem sc_unit_pen : FnScope N_unit_pen ["at"] (defScope s_unit_pen) := ⟨rfl, rfl, rfl, by decide +kernel, rfl, by decide +kernel, by decide +kernel⟩
abbrev s_probes : Stmt := topS 15
abbrev N_probes : List Str := ["at"]
theorem sc_probes : FnScope N_probes [] (defScope s_probes) := ⟨rfl, rfl, rfl, by decide +kernel, rfl, by decide +kernel, by decide +kernel⟩
abbrev s_matrix_from : Stmt := topS 16
abbrev N_matrix_from : List Str := ["ends", "start", "others", "columns", "end", "i", "column", "other", "a", "b"]
theorem sc_matrix_from : FnScope N_matrix_from ["ends"] (defScope s_matrix_from) := ⟨rfl, rfl, rfl, by decide +kernel, rfl, by decide +kernel, by decide +kernel⟩
abbrev s_matrix_of : Stmt := topS 17
abbrev N_matrix_of : List Str := ["command", "pen"]
theorem sc_matrix_of : FnScope N_matrix_of ["command"] (defScope s_matrix_of) := ⟨rfl, rfl, rfl, by decide +kernel, rfl, by decide +kernel, by decide +kernel⟩
abbrev s__law_pool : Stmt := topS 19
abbrev N__law_pool : List Str := ["_law_script", "_law_cell"]
theorem sc__law_pool : FnScope N__law_pool ["_law_script"] (defScope s__law_pool) := ⟨rfl, rfl, rfl, by decide +kernel, rfl, by decide +kernel, by decide +kernel⟩
abbrev s__law_draw : Stmt := topS 20
abbrev N__law_draw : List Str := ["_law_pool_here", "_law_many", "_law_at", "_law_cell", "_law_number_here"]
theorem sc__law_draw : FnScope N__law_draw ["_law_pool_here", "_law_many"] (defScope s__law_draw) := ⟨rfl, rfl, rfl, by decide +kernel, rfl, by decide +kernel, by decide +kernel⟩
abbrev s__law_number : Stmt := topS 21
abbrev N__law_number : List Str := ["_law_pool_here", "_law_small", "_law_at", "_law_number_here"]
theorem sc__law_number : FnScope N__law_number ["_law_pool_here"] (defScope s__law_number) := ⟨rfl, rfl, rfl, by decide +kernel, rfl, by decide +kernel, by decide +kernel⟩
abbrev s__law_pen : Stmt := topS 22
abbrev N__law_pen : List Str := ["_law_pool_here", "_law_begin", "_law_k"]
theorem sc__law_pen : FnScope N__law_pen ["_law_pool_here"] (defScope s__law_pen) := ⟨rfl, rfl, rfl, by decide +kernel, rfl, by decide +kernel, by decide +kernel⟩
abbrev s__law_move : Stmt := topS 23
abbrev N__law_move : List Str := ["_law_begin", "_law_command", "_law_x", "_law_y", "_law_u", "_law_v", "_law_p", "_law_q", "_law_word", "_law_k", "_law_turned"]
theorem sc__law_move : FnScope N__law_move ["_law_begin", "_law_command"] (defScope s__law_move) := ⟨rfl, rfl, rfl, by decide +kernel, rfl, by decide +kernel, by decide +kernel⟩
abbrev s__law_is_matrix : Stmt := topS 24
abbrev N__law_is_matrix : List Str := ["_law_value"]
theorem sc__law_is_matrix : FnScope N__law_is_matrix ["_law_value"] (defScope s__law_is_matrix) := ⟨rfl, rfl, rfl, by decide +kernel, rfl, by decide +kernel, by decide +kernel⟩
abbrev s__law_image : Stmt := topS 25
abbrev N__law_image : List Str := ["_law_matrix", "_law_begin", "_law_ahead", "_law_behind", "_law_i", "_law_j"]
theorem sc__law_image : FnScope N__law_image ["_law_matrix", "_law_begin"] (defScope s__law_image) := ⟨rfl, rfl, rfl, by decide +kernel, rfl, by decide +kernel, by decide +kernel⟩
abbrev s__law_pens : Stmt := topS 26
abbrev N__law_pens : List Str := ["_law_deeds", "_law_begin", "_law_pens_here", "_law_held", "_law_deed"]
theorem sc__law_pens : FnScope N__law_pens ["_law_deeds", "_law_begin"] (defScope s__law_pens) := ⟨rfl, rfl, rfl, by decide +kernel, rfl, by decide +kernel, by decide +kernel⟩
abbrev s__law_probe : Stmt := topS 27
abbrev N__law_probe : List Str := ["_law_deeds", "_law_origin", "_law_j", "_law_images", "_law_matrix", "_law_i", "_law_k"]
theorem sc__law_probe : FnScope N__law_probe ["_law_deeds"] (defScope s__law_probe) := ⟨rfl, rfl, rfl, by decide +kernel, rfl, by decide +kernel, by decide +kernel⟩
abbrev s__law_any_command : Stmt := topS 28
abbrev N__law_any_command : List Str := ["_law_pool_here", "_law_kind"]
theorem sc__law_any_command : FnScope N__law_any_command ["_law_pool_here"] (defScope s__law_any_command) := ⟨rfl, rfl, rfl, by decide +kernel, rfl, by decide +kernel, by decide +kernel⟩
abbrev s__law_is_row : Stmt := topS 29
abbrev N__law_is_row : List Str := ["_law_value", "_law_many", "_law_x"]
theorem sc__law_is_row : FnScope N__law_is_row ["_law_value", "_law_many"] (defScope s__law_is_row) := ⟨rfl, rfl, rfl, by decide +kernel, rfl, by decide +kernel, by decide +kernel⟩
abbrev s_law : Stmt := topS 30
abbrev N_law : List Str := ["_law_script", "_law_pool_here", "_law_step", "_law_command", "_law_begin", "_law_matrix", "_law_place"]
theorem sc_law : FnScope N_law ["_law_script"] (defScope s_law) := ⟨rfl, rfl, rfl, by decide +kernel, rfl, by decide +kernel, by decide +kernel⟩
structure Top (w : World) (K : PySem.W.Frag) (mg : Str → Option Value) where
  a_is_integer : Addr
  d_is_integer : FuncData
  F_is_integer : Fun K "is_integer" "is_integer" s_is_integer a_is_integer d_is_integer
  g_is_integer : mg "is_integer" = some (.ref a_is_integer)
  a_is_pen : Addr
  d_is_pen : FuncData
  F_is_pen : Fun K "is_pen" "is_pen" s_is_pen a_is_pen d_is_pen
  g_is_pen : mg "is_pen" = some (.ref a_is_pen)
  a_is_within : Addr
  d_is_within : FuncData
  F_is_within : Fun K "is_within" "is_within" s_is_within a_is_within d_is_within
  g_is_within : mg "is_within" = some (.ref a_is_within)
  a_is_command : Addr
  d_is_command : FuncData
  F_is_command : Fun K "is_command" "is_command" s_is_command a_is_command d_is_command
  g_is_command : mg "is_command" = some (.ref a_is_command)
  a_turned : Addr
  d_turned : FuncData
  F_turned : Fun K "turned" "turned" s_turned a_turned d_turned
  g_turned : mg "turned" = some (.ref a_turned)
  a_moved : Addr
  d_moved : FuncData
  F_moved : Fun K "moved" "moved" s_moved a_moved d_moved
  g_moved : mg "moved" = some (.ref a_moved)
  a_vector : Addr
  d_vector : FuncData
  F_vector : Fun K "vector" "vector" s_vector a_vector d_vector
  g_vector : mg "vector" = some (.ref a_vector)
  a_unit_pen : Addr
  d_unit_pen : FuncData
  F_unit_pen : Fun K "unit_pen" "unit_pen" s_unit_pen a_unit_pen d_unit_pen
  g_unit_pen : mg "unit_pen" = some (.ref a_unit_pen)
  a_probes : Addr
  d_probes : FuncData
  F_probes : Fun K "probes" "probes" s_probes a_probes d_probes
  g_probes : mg "probes" = some (.ref a_probes)
  a_matrix_from : Addr
  d_matrix_from : FuncData
  F_matrix_from : Fun K "matrix_from" "matrix_from" s_matrix_from a_matrix_from d_matrix_from
  g_matrix_from : mg "matrix_from" = some (.ref a_matrix_from)
  a_matrix_of : Addr
  d_matrix_of : FuncData
  F_matrix_of : Fun K "matrix_of" "matrix_of" s_matrix_of a_matrix_of d_matrix_of
  g_matrix_of : mg "matrix_of" = some (.ref a_matrix_of)
  a__law_pool : Addr
  d__law_pool : FuncData
  F__law_pool : Fun K "_law_pool" "_law_pool" s__law_pool a__law_pool d__law_pool
  g__law_pool : mg "_law_pool" = some (.ref a__law_pool)
  a__law_draw : Addr
  d__law_draw : FuncData
  F__law_draw : Fun K "_law_draw" "_law_draw" s__law_draw a__law_draw d__law_draw
  g__law_draw : mg "_law_draw" = some (.ref a__law_draw)
  a__law_number : Addr
  d__law_number : FuncData
  F__law_number : Fun K "_law_number" "_law_number" s__law_number a__law_number d__law_number
  g__law_number : mg "_law_number" = some (.ref a__law_number)
  a__law_pen : Addr
  d__law_pen : FuncData
  F__law_pen : Fun K "_law_pen" "_law_pen" s__law_pen a__law_pen d__law_pen
  g__law_pen : mg "_law_pen" = some (.ref a__law_pen)
  a__law_move : Addr
  d__law_move : FuncData
  F__law_move : Fun K "_law_move" "_law_move" s__law_move a__law_move d__law_move
  g__law_move : mg "_law_move" = some (.ref a__law_move)
  a__law_is_matrix : Addr
  d__law_is_matrix : FuncData
  F__law_is_matrix : Fun K "_law_is_matrix" "_law_is_matrix" s__law_is_matrix a__law_is_matrix d__law_is_matrix
  g__law_is_matrix : mg "_law_is_matrix" = some (.ref a__law_is_matrix)
  a__law_image : Addr
  d__law_image : FuncData
  F__law_image : Fun K "_law_image" "_law_image" s__law_image a__law_image d__law_image
  g__law_image : mg "_law_image" = some (.ref a__law_image)
  a__law_pens : Addr
  d__law_pens : FuncData
  F__law_pens : Fun K "_law_pens" "_law_pens" s__law_pens a__law_pens d__law_pens
  g__law_pens : mg "_law_pens" = some (.ref a__law_pens)
  a__law_probe : Addr
  d__law_probe : FuncData
  F__law_probe : Fun K "_law_probe" "_law_probe" s__law_probe a__law_probe d__law_probe
  g__law_probe : mg "_law_probe" = some (.ref a__law_probe)
  a__law_any_command : Addr
  d__law_any_command : FuncData
  F__law_any_command : Fun K "_law_any_command" "_law_any_command" s__law_any_command a__law_any_command d__law_any_command
  g__law_any_command : mg "_law_any_command" = some (.ref a__law_any_command)
  a__law_is_row : Addr
  d__law_is_row : FuncData
  F__law_is_row : Fun K "_law_is_row" "_law_is_row" s__law_is_row a__law_is_row d__law_is_row
  g__law_is_row : mg "_law_is_row" = some (.ref a__law_is_row)
  a_law : Addr
  d_law : FuncData
  F_law : Fun K "law" "law" s_law a_law d_law
  g_law : mg "law" = some (.ref a_law)
  z_all : mg "all" = none
  z_bool : mg "bool" = none
  z_int : mg "int" = none
  z_isinstance : mg "isinstance" = none
  z_len : mg "len" = none
  z_list : mg "list" = none
  z_range : mg "range" = none
  z_str : mg "str" = none
  z_sum : mg "sum" = none
  z_tuple : mg "tuple" = none
  z_zip : mg "zip" = none
  a_BOUNDS : Addr
  c_BOUNDS : ∃ u, mg "BOUNDS" = some u ∧ RelV (.ref a_BOUNDS) u
  e_B : Array DictEntry
  n_B : Nat
  D_B : KDict K w a_BOUNDS e_B n_B
  L_B : Lims w K a_BOUNDS
theorem b_is_integer {w : World} {K : PySem.W.Frag} {mg : Str → Option Value} (T : Top w K mg) : Binds K T.d_is_integer ["thing"] [] := T.F_is_integer.binds (ps := ["thing"]) fun _ _ _ _ _ _ us hl => match us, hl with | [_], _ => rfl
theorem b_is_pen {w : World} {K : PySem.W.Frag} {mg : Str → Option Value} (T : Top w K mg) : Binds K T.d_is_pen ["thing"] [] := T.F_is_pen.binds (ps := ["thing"]) fun _ _ _ _ _ _ us hl => match us, hl with | [_], _ => rfl
theorem b_is_within {w : World} {K : PySem.W.Frag} {mg : Str → Option Value} (T : Top w K mg) : Binds K T.d_is_within ["thing", "bounds"] [] := T.F_is_within.binds (ps := ["thing", "bounds"]) fun _ _ _ _ _ _ us hl => match us, hl with | [_, _], _ => rfl
theorem b_is_command {w : World} {K : PySem.W.Frag} {mg : Str → Option Value} (T : Top w K mg) : Binds K T.d_is_command ["thing"] [] := T.F_is_command.binds (ps := ["thing"]) fun _ _ _ _ _ _ us hl => match us, hl with | [_], _ => rfl
theorem b_turned {w : World} {K : PySem.W.Frag} {mg : Str → Option Value} (T : Top w K mg) : Binds K T.d_turned ["u", "v", "times"] [] := T.F_turned.binds (ps := ["u", "v", "times"]) fun _ _ _ _ _ _ us hl => match us, hl with | [_, _, _], _ => rfl
theorem b_moved {w : World} {K : PySem.W.Frag} {mg : Str → Option Value} (T : Top w K mg) : Binds K T.d_moved ["pen", "command"] [] := T.F_moved.binds (ps := ["pen", "command"]) fun _ _ _ _ _ _ us hl => match us, hl with | [_, _], _ => rfl
theorem b_vector {w : World} {K : PySem.W.Frag} {mg : Str → Option Value} (T : Top w K mg) : Binds K T.d_vector ["pen"] [] := T.F_vector.binds (ps := ["pen"]) fun _ _ _ _ _ _ us hl => match us, hl with | [_], _ => rfl
theorem b_unit_pen {w : World} {K : PySem.W.Frag} {mg : Str → Option Value} (T : Top w K mg) : Binds K T.d_unit_pen ["at"] [] := T.F_unit_pen.binds (ps := ["at"]) fun _ _ _ _ _ _ us hl => match us, hl with | [_], _ => rfl
theorem b_probes {w : World} {K : PySem.W.Frag} {mg : Str → Option Value} (T : Top w K mg) : Binds K T.d_probes [] [] := T.F_probes.binds (ps := []) fun _ _ _ _ _ _ us hl => match us, hl with | [], _ => rfl
theorem b_matrix_from {w : World} {K : PySem.W.Frag} {mg : Str → Option Value} (T : Top w K mg) : Binds K T.d_matrix_from ["ends"] [] := T.F_matrix_from.binds (ps := ["ends"]) fun _ _ _ _ _ _ us hl => match us, hl with | [_], _ => rfl
theorem b_matrix_of {w : World} {K : PySem.W.Frag} {mg : Str → Option Value} (T : Top w K mg) : Binds K T.d_matrix_of ["command"] [] := T.F_matrix_of.binds (ps := ["command"]) fun _ _ _ _ _ _ us hl => match us, hl with | [_], _ => rfl
theorem b__law_pool {w : World} {K : PySem.W.Frag} {mg : Str → Option Value} (T : Top w K mg) : Binds K T.d__law_pool ["_law_script"] [] := T.F__law_pool.binds (ps := ["_law_script"]) fun _ _ _ _ _ _ us hl => match us, hl with | [_], _ => rfl
theorem b__law_draw {w : World} {K : PySem.W.Frag} {mg : Str → Option Value} (T : Top w K mg) : Binds K T.d__law_draw ["_law_pool_here", "_law_many"] [] := T.F__law_draw.binds (ps := ["_law_pool_here", "_law_many"]) fun _ _ _ _ _ _ us hl => match us, hl with | [_, _], _ => rfl
theorem b__law_number {w : World} {K : PySem.W.Frag} {mg : Str → Option Value} (T : Top w K mg) : Binds K T.d__law_number ["_law_pool_here"] [] := T.F__law_number.binds (ps := ["_law_pool_here"]) fun _ _ _ _ _ _ us hl => match us, hl with | [_], _ => rfl
theorem b__law_pen {w : World} {K : PySem.W.Frag} {mg : Str → Option Value} (T : Top w K mg) : Binds K T.d__law_pen ["_law_pool_here"] [] := T.F__law_pen.binds (ps := ["_law_pool_here"]) fun _ _ _ _ _ _ us hl => match us, hl with | [_], _ => rfl
theorem b__law_move {w : World} {K : PySem.W.Frag} {mg : Str → Option Value} (T : Top w K mg) : Binds K T.d__law_move ["_law_begin", "_law_command"] [] := T.F__law_move.binds (ps := ["_law_begin", "_law_command"]) fun _ _ _ _ _ _ us hl => match us, hl with | [_, _], _ => rfl
theorem b__law_is_matrix {w : World} {K : PySem.W.Frag} {mg : Str → Option Value} (T : Top w K mg) : Binds K T.d__law_is_matrix ["_law_value"] [] := T.F__law_is_matrix.binds (ps := ["_law_value"]) fun _ _ _ _ _ _ us hl => match us, hl with | [_], _ => rfl
theorem b__law_image {w : World} {K : PySem.W.Frag} {mg : Str → Option Value} (T : Top w K mg) : Binds K T.d__law_image ["_law_matrix", "_law_begin"] [] := T.F__law_image.binds (ps := ["_law_matrix", "_law_begin"]) fun _ _ _ _ _ _ us hl => match us, hl with | [_, _], _ => rfl
theorem b__law_pens {w : World} {K : PySem.W.Frag} {mg : Str → Option Value} (T : Top w K mg) : Binds K T.d__law_pens ["_law_deeds", "_law_begin"] [] := T.F__law_pens.binds (ps := ["_law_deeds", "_law_begin"]) fun _ _ _ _ _ _ us hl => match us, hl with | [_, _], _ => rfl
theorem b__law_probe {w : World} {K : PySem.W.Frag} {mg : Str → Option Value} (T : Top w K mg) : Binds K T.d__law_probe ["_law_deeds"] [] := T.F__law_probe.binds (ps := ["_law_deeds"]) fun _ _ _ _ _ _ us hl => match us, hl with | [_], _ => rfl
theorem b__law_any_command {w : World} {K : PySem.W.Frag} {mg : Str → Option Value} (T : Top w K mg) : Binds K T.d__law_any_command ["_law_pool_here"] [] := T.F__law_any_command.binds (ps := ["_law_pool_here"]) fun _ _ _ _ _ _ us hl => match us, hl with | [_], _ => rfl
theorem b__law_is_row {w : World} {K : PySem.W.Frag} {mg : Str → Option Value} (T : Top w K mg) : Binds K T.d__law_is_row ["_law_value", "_law_many"] [] := T.F__law_is_row.binds (ps := ["_law_value", "_law_many"]) fun _ _ _ _ _ _ us hl => match us, hl with | [_, _], _ => rfl
theorem b_law {w : World} {K : PySem.W.Frag} {mg : Str → Option Value} (T : Top w K mg) : Binds K T.d_law ["_law_script"] [] := T.F_law.binds (ps := ["_law_script"]) fun _ _ _ _ _ _ us hl => match us, hl with | [_], _ => rfl
section
variable {P : Program} {w : World} {K : PySem.W.Frag} {mg : Str → Option Value} {base : Heap}
def sp__law_pool (K : PySem.W.Frag) : Sp := fun vs H Q _ => ∃ (a : Addr) (ns : List Int), vs = [.ref a] ∧ SqL K H a (ns.map V.int) ∧ ns.length ≤ 63 ∧
  ∀ (H' : Hp) (p : Addr) (L : Nat), Same H H' → H p = none → Pool H' p L → 2 ≤ L → L ≤ 64 → Q (.ref p) H'
theorem cut63 {ns : List Int} (h : ns.length ≤ 63) : cutV (ns.map V.int) none (some 63) = ns.map V.int := by
  unfold cutV
  rw [HT.sIx_none, show HT.sIx (ns.map V.int).length (ns.map V.int).length (some 63) = min 63 (ns.map V.int).length from HT.sIx_nat _ _ 63, List.drop_zero, Nat.sub_zero]
  refine List.take_of_length_le ?_
  rw [List.length_map]
  omega
theorem ok__law_pool (T : Top w K mg) : FnOk P w K mg base CX0 1 T.a__law_pool T.d__law_pool ["_law_script"] (sp__law_pool K) := by
  refine T.F__law_pool.ok sc__law_pool (fun vs H Q E h => ?_) (fun cdv A outer s H vs Q E hr h => ?_)
  · obtain ⟨a, ns, rfl, _⟩ := h
    rfl
  · obtain ⟨a, ns, rfl, hS, hlen, q⟩ := h
    refine ⟨_, (pss_one (ps_ret (pe_op op_cat (pe_lst (pa_cons pe_int pa_nil)) (pe_orT (pe_lc (own := [("_law_cell", 1)]) (g := (gName 1)) (tt := tYes) rfl sc__law_pool.nd (k_piL K (pe_slice (k_slL K) (pv 0) po_none (po_some pe_int))) (blkOk_by (N := N__law_pool) (sc := defScope s__law_pool) (by decide +kernel)) (fun _ _ _ _ _ => (pg_name (i := 1) sc__law_pool.nd rfl (Or.inl rfl))) (fun _ _ _ _ _ => pts_nil) (fun _ _ _ _ _ => (pe_callTy call_intI (by rfl) T.z_int bt_int (pa_cons (pv 1) pa_nil)))) (pe_one (pe_lst (pa_cons pe_int pa_nil))))))), ?_⟩
    refine ⟨small100 (n := 1) (by decide), fun l0 n0 => ?_⟩
    have s1 : Same H (upd H l0 (.lst [.int 0])) := same_upd n0
    refine ⟨_, rfl, 63, rfl, a, _, rfl, s1.seq hS, fun c nc => ?_⟩
    rw [cut63 hlen]
    have s2 := s1.trans (same_upd (o := .lst (ns.map V.int)) nc)
    have hl0 : (upd (upd H l0 (.lst [.int 0])) c (.lst (ns.map V.int))) l0 = some (.lst [.int 0]) := by
      rw [upd_ne (ne_of_none upd_same nc), upd_same]
    refine ⟨c, rfl, ⟨_, SqL.of upd_same⟩, fun D nD => ?_⟩
    refine lc_list (xs := ns.map V.int) (fun i H' => Same (upd (upd H l0 (.lst [.int 0])) c (.lst (ns.map V.int))) H' ∧ H' D = some (.lst ((ns.take i).map V.int))) ⟨same_upd nD, ?_⟩ (fun i H' _ h => h.1.seq (SqL.of upd_same)) (fun i x H' hx h => ?_) (fun H' h => ?_)
    · rw [upd_same]
      rfl
    · obtain ⟨hs, hD⟩ := h
      rw [List.getElem?_map] at hx
      cases e : ns[i]? with
      | none =>
        rw [e] at hx
        cases hx
      | some n =>
        rw [e] at hx
        cases hx
        refine ⟨rfl, _, rfl, n, rfl, _, hD, ?_, same_new hs nD, ?_⟩
        · rw [List.length_map, List.length_take]
          exact small1000 (by omega)
        · rw [upd_same, List.take_add_one, e, List.map_append]
          rfl
    · obtain ⟨hs, hD⟩ := h
      rw [len_map, List.take_length] at hD
      have hl0' := hs _ _ hl0
      have hD0 : H D = none := s2.free nD
      refine ⟨!(ns.map V.int).isEmpty, .inl ⟨_, SqL.of hD, rfl⟩, ?_⟩
      have hne : D ≠ l0 := (ne_of_none hl0 nD).symm
      cases ns with
      | nil =>
        refine ⟨small100 (n := 1) (by decide), fun l2 n2 => ?_⟩
        have hl2 : (upd H' l2 (.lst [.int 0])) l0 = some (.lst [.int 0]) := by
          rw [upd_ne (ne_of_none hl0' n2)]
          exact hl0'
        refine ⟨l0, l2, _, _, rfl, rfl, hl2, upd_same, small100 (n := 2) (by decide), fun p np => ?_⟩
        have s3 := same_new (s2.trans hs) (o := .lst [.int 0]) ((s2.trans hs).free n2)
        exact q _ p 2 (same_new s3 (s3.free np)) (s3.free np) ⟨[0, 0], upd_same, rfl⟩ (by decide) (by decide)
      | cons n r =>
        refine ⟨l0, D, _, _, rfl, rfl, hl0', hD, ?_, fun p np => ?_⟩
        · show 1 + ((n :: r).map V.int).length ≤ sizeLine
          rw [len_map]
          exact small100 (by omega)
        · have s3 := s2.trans hs
          refine q _ p (1 + (n :: r).length) (same_new s3 (s3.free np)) (s3.free np) ⟨0 :: n :: r, upd_same, ?_⟩ ?_ ?_
          · rw [List.length_cons]
            omega
          · rw [List.length_cons]
            omega
          · omega
def sp__law_draw (K : PySem.W.Frag) : Sp := fun vs H Q _ => ∃ (p : Addr) (L : Nat) (m : Int), vs = [.ref p, .int m] ∧ Pool H p L ∧ 2 ≤ L ∧ L ≤ 64 ∧ 0 < m ∧ m ≤ 1000 ∧
  ∀ (r : Int) (H' : Hp), 0 ≤ r → r < m → Kp p H H' → Pool H' p L → Q (.int r) H'
theorem ok__law_draw (T : Top w K mg) : FnOk P w K mg base CX0 1 T.a__law_draw T.d__law_draw ["_law_pool_here", "_law_many"] (sp__law_draw K) := by
  refine T.F__law_draw.ok sc__law_draw (fun vs H Q E h => ?_) (fun cdv A outer s H vs Q E hr h => ?_)
  · obtain ⟨p, L, m, rfl, _⟩ := h
    rfl
  · obtain ⟨p, L, m, rfl, ⟨ns, hp, hL⟩, h2, h64, hm0, hm1, q⟩ := h
    refine ⟨_, (pss_cons (ps_augS (pv 0) pe_int (k_getL K) pe_int ip_add set_list)
      (pss_cons (ps_set (i := 2) sc__law_draw.nd rfl (Or.inl rfl) (pe_op op_add pe_int (pe_op op_mod (pe_callTy call_intI (by rfl) T.z_int bt_int (pa_cons (pe_ix (k_ixL K) (pv 0) pe_int (fun _ _ => rfl)) pa_nil)) (pe_op op_sub (pe_callB (k_len K) (by rfl) T.z_len bt_len (pa_cons (pv 0) pa_nil)) pe_int))))
      (pss_cons (ps_set (i := 3) sc__law_draw.nd rfl (Or.inl rfl) (pe_callTy call_intI (by rfl) T.z_int bt_int (pa_cons (pe_ix (k_ixL K) (pv 0) (pv 2) (fun _ _ => rfl)) pa_nil)))
      (pss_cons (ps_if (pt_cmpR op_ge (pv 3) (pe_op op_pow pe_int pe_int) (nomark _)) (pss_cons (ps_asg (pe_op op_fdiv (pv 3) (pv 1)) (pg_sub (pv 0) (pv 2) set_list))
        (pss_one (ps_ret (pe_op op_mod (pv 3) (pv 1))))) pss_nil)
      (pss_cons (ps_set (i := 4) sc__law_draw.nd rfl (Or.inl rfl) (pe_op op_mod (pe_op op_mul (pe_callTy call_intI (by rfl) T.z_int bt_int (pa_cons (pe_op op_add (pe_op op_add (pv 3) (pe_op op_mul pe_int (pe_ix (k_ixL K) (pv 0) pe_int (fun _ _ => rfl)))) pe_int) pa_nil)) pe_int) pe_int))
      (pss_cons (ps_set (i := 4) sc__law_draw.nd rfl (Or.inl rfl) (pe_op op_mod (pe_op op_mul (pv 4) (pe_op op_add (pe_op op_fdiv (pv 4) pe_int) pe_int)) pe_int))
      (pss_cons (ps_set (i := 4) sc__law_draw.nd rfl (Or.inl rfl) (pe_op op_mod (pe_op op_mul (pv 4) (pe_op op_add (pe_op op_fdiv (pv 4) pe_int) pe_int)) pe_int))
      (pss_one (ps_ret (pe_op op_mod (pe_op op_fdiv (pv 4) pe_int) (pv 1))))))))))), ?_⟩
    obtain ⟨c0, g0, _⟩ := at_map (ns := ns) (i := 0) (by decide) (by omega)
    refine ⟨_, rfl, p, ns.map V.int, 0, .int c0, rfl, rfl, by decide, SqL.of hp, get_map g0, c0, 1, rfl, rfl, p, _, 0, 0, rfl, rfl, hp, ixN_in (by decide) (by rw [len_map]; omega), ?_⟩
    rw [set_map]
    generalize e1 : ns.set 0 (c0 + 1) = ms
    have hms : ms.length = L := by
      rw [← e1, List.length_set]
      exact hL
    clear e1
    have k1 : Kp p H (upd H p (.lst (ms.map V.int))) := Kp.upd
    have hp1 : (upd H p (.lst (ms.map V.int))) p = some (.lst (ms.map V.int)) := upd_same
    generalize upd H p (.lst (ms.map V.int)) = H1 at *
    obtain ⟨c1, _, g1⟩ := at_map (ns := ms) (i := 0) (by decide) (by omega)
    have hL1 : (0 : Int) < ((ms.map V.int).length : Int) - 1 := by
      rw [len_map]
      omega
    refine ⟨_, rfl, p, _, 0, _, rfl, rfl, SqL.of hp1, g1, c1, rfl, _, rfl, p, _, rfl, .inl (SqL.of hp1), _, _, rfl, rfl, _, _, rfl, rfl, hL1, _, _, rfl, rfl, ?_⟩
    have b0 : 0 ≤ 1 + c1 % (((ms.map V.int).length : Int) - 1) := by
      have := Int.emod_nonneg c1 (Int.ne_of_gt hL1)
      omega
    have b1 : 1 + c1 % (((ms.map V.int).length : Int) - 1) < ms.length := by
      have := Int.emod_lt_of_pos c1 hL1
      rw [len_map] at this ⊢
      omega
    dsimp only
    generalize 1 + c1 % (((ms.map V.int).length : Int) - 1) = j at *
    obtain ⟨c2, _, g2⟩ := at_map (ns := ms) (i := j) b0 b1
    refine ⟨_, rfl, _, rfl, p, _, j, _, rfl, rfl, SqL.of hp1, g2, c2, rfl, ?_⟩
    refine ⟨_, rfl, 10, 18, rfl, rfl, ⟨by decide, by decide, by decide⟩, _, _, rfl, rfl, _, rfl, ite2 (fun _ => ?_) (fun _ => ?_)⟩
    · refine ⟨_, rfl, _, rfl, _, _, rfl, rfl, ⟨hm0, by omega⟩, _, rfl, _, rfl, p, _, j, j.toNat, rfl, rfl, hp1, ixN_in b0 (by rw [len_map]; exact b1), ?_⟩
      rw [set_map]
      refine ⟨_, rfl, _, rfl, _, _, rfl, rfl, hm0, ?_⟩
      exact q _ _ (Int.emod_nonneg _ (Int.ne_of_gt hm0)) (Int.emod_lt_of_pos _ hm0) (k1.trans Kp.upd) ⟨_, upd_same, by rw [List.length_set]; exact hms⟩
    · obtain ⟨c3, _, g3⟩ := at_map (ns := ms) (i := 0) (by decide) (by omega)
      refine ⟨_, rfl, _, rfl, p, _, 0, _, rfl, rfl, SqL.of hp1, g3, _, c3, rfl, rfl, .inl ⟨by decide, by decide⟩, _, _, rfl, rfl, _, _, rfl, rfl, _, rfl, _, _, rfl, rfl, .inr ⟨by decide, by decide⟩, _, _, rfl, rfl, (show (0 : Int) < 2147483647 by decide), ?_⟩
      dsimp only
      generalize ez : (c2 + 7919 * c3 + 1) * 48271 % 2147483647 = z
      have z0 : 0 ≤ z := by rw [← ez]; exact Int.emod_nonneg _ (by decide)
      have z1 : z < 2147483647 := by rw [← ez]; exact Int.emod_lt_of_pos _ (by decide)
      refine ⟨_, rfl, _, rfl, _, _, rfl, rfl, ⟨by decide, by decide⟩, _, _, rfl, rfl, _, _, rfl, rfl, .inl ⟨by omega, by omega⟩, _, _, rfl, rfl, (show (0 : Int) < 2147483647 by decide), ?_⟩
      dsimp only
      generalize ey : z * (z / 1009 + 69621) % 2147483647 = y
      have y0 : 0 ≤ y := by rw [← ey]; exact Int.emod_nonneg _ (by decide)
      have y1 : y < 2147483647 := by rw [← ey]; exact Int.emod_lt_of_pos _ (by decide)
      refine ⟨_, rfl, _, rfl, _, _, rfl, rfl, ⟨by decide, by decide⟩, _, _, rfl, rfl, _, _, rfl, rfl, .inl ⟨by omega, by omega⟩, _, _, rfl, rfl, (show (0 : Int) < 2147483399 by decide), ?_⟩
      refine ⟨_, rfl, _, _, rfl, rfl, ⟨by decide, by decide⟩, _, rfl, _, _, rfl, rfl, hm0, ?_⟩
      exact q _ _ (Int.emod_nonneg _ (Int.ne_of_gt hm0)) (Int.emod_lt_of_pos _ hm0) k1 ⟨_, hp1, hms⟩

def Bd (n : Int) : Prop := -(2 ^ 133) < n ∧ n < 2 ^ 133
def sp__law_number (K : PySem.W.Frag) : Sp := fun vs H Q _ => ∃ (p : Addr) (L : Nat), vs = [.ref p] ∧ Pool H p L ∧ 2 ≤ L ∧ L ≤ 64 ∧
  ∀ (r : Int) (H' : Hp), Bd r → Kp p H H' → Pool H' p L → Q (.int r) H'
theorem ok__law_number (T : Top w K mg) : FnOk P w K mg base CX0 2 T.a__law_number T.d__law_number ["_law_pool_here"] (sp__law_number K) := by
  refine T.F__law_number.ok sc__law_number (fun vs H Q E h => ?_) (fun cdv A outer s H vs Q E hr h => ?_)
  · obtain ⟨p, L, rfl, _⟩ := h
    rfl
  · obtain ⟨p, L, rfl, pl, h2, h64, q⟩ := h
    refine ⟨_, (pss_cons (ps_set (i := 1) sc__law_number.nd rfl (Or.inl rfl) (pe_call (ok__law_draw T) hr (by rfl) T.g__law_draw T.F__law_draw.kp (b__law_draw T) .nil pass0 (pa_cons (pv 0) (pa_cons pe_int pa_nil))))
      (pss_cons (ps_if (pt_cmpR op_eq (pv 1) pe_int (nomark _)) (pss_one (ps_ret (pe_op op_sub (pe_call (ok__law_draw T) hr (by rfl) T.g__law_draw T.F__law_draw.kp (b__law_draw T) .nil pass0 (pa_cons (pv 0) (pa_cons pe_int pa_nil))) pe_int))) pss_nil)
      (pss_cons (ps_augS (pv 0) pe_int (k_getL K) pe_int ip_add set_list)
      (pss_cons (ps_set (i := 2) sc__law_number.nd rfl (Or.inl rfl) (pe_op op_add pe_int (pe_op op_mod (pe_callTy call_intI (by rfl) T.z_int bt_int (pa_cons (pe_ix (k_ixL K) (pv 0) pe_int (fun _ _ => rfl)) pa_nil)) (pe_op op_sub (pe_callB (k_len K) (by rfl) T.z_len bt_len (pa_cons (pv 0) pa_nil)) pe_int))))
      (pss_cons (ps_set (i := 3) sc__law_number.nd rfl (Or.inl rfl) (pe_op op_mod (pe_callTy call_intI (by rfl) T.z_int bt_int (pa_cons (pe_op op_add (pe_op op_mul (pe_ix (k_ixL K) (pv 0) (pv 2) (fun _ _ => rfl)) pe_int) (pe_op op_mul (pe_ix (k_ixL K) (pv 0) pe_int (fun _ _ => rfl)) pe_int)) pa_nil)) (pe_op op_pow pe_int pe_int)))
      (pss_cons (ps_if (pt_cmpR op_eq (pe_call (ok__law_draw T) hr (by rfl) T.g__law_draw T.F__law_draw.kp (b__law_draw T) .nil pass0 (pa_cons (pv 0) (pa_cons pe_int pa_nil))) pe_int (nomark _)) (pss_one (ps_ret (pv 3))) pss_nil)
      (pss_one (ps_ret (pe_op op_sub pe_int (pv 3)))))))))), ?_⟩
    refine ⟨_, rfl, p, L, 3, rfl, pl, h2, h64, by decide, by decide, fun r1 H1 _ _ k1 pl1 => ?_⟩
    refine ⟨_, rfl, rfl, _, rfl, ite2 (fun _ => ?_) (fun _ => ?_)⟩
    · refine ⟨_, rfl, p, L, 9, rfl, pl1, h2, h64, by decide, by decide, fun r2 H2 a1 a2 k2 pl2 => ?_⟩
      refine ⟨_, _, rfl, rfl, ?_⟩
      exact q _ _ ⟨by omega, by omega⟩ (k1.trans k2) pl2
    · obtain ⟨ns, hp, hL⟩ := pl1
      obtain ⟨c0, g0, _⟩ := at_map (ns := ns) (i := 0) (by decide) (by omega)
      refine ⟨_, rfl, p, ns.map V.int, 0, .int c0, rfl, rfl, by decide, SqL.of hp, get_map g0, c0, 1, rfl, rfl, p, _, 0, 0, rfl, rfl, hp, ixN_in (by decide) (by rw [len_map]; omega), ?_⟩
      rw [set_map]
      generalize e1 : ns.set 0 (c0 + 1) = ms
      have hms : ms.length = L := by
        rw [← e1, List.length_set]
        exact hL
      clear e1
      have k2 : Kp p H (upd H1 p (.lst (ms.map V.int))) := k1.trans Kp.upd
      have hp1 : (upd H1 p (.lst (ms.map V.int))) p = some (.lst (ms.map V.int)) := upd_same
      generalize upd H1 p (.lst (ms.map V.int)) = H2 at *
      obtain ⟨c1, _, g1⟩ := at_map (ns := ms) (i := 0) (by decide) (by omega)
      have hL1 : (0 : Int) < ((ms.map V.int).length : Int) - 1 := by
        rw [len_map]
        omega
      refine ⟨_, rfl, p, _, 0, _, rfl, rfl, SqL.of hp1, g1, c1, rfl, _, rfl, p, _, rfl, .inl (SqL.of hp1), _, _, rfl, rfl, _, _, rfl, rfl, hL1, _, _, rfl, rfl, ?_⟩
      have b0 : 0 ≤ 1 + c1 % (((ms.map V.int).length : Int) - 1) := by
        have := Int.emod_nonneg c1 (Int.ne_of_gt hL1)
        omega
      have b1 : 1 + c1 % (((ms.map V.int).length : Int) - 1) < ms.length := by
        have := Int.emod_lt_of_pos c1 hL1
        rw [len_map] at this ⊢
        omega
      dsimp only
      generalize 1 + c1 % (((ms.map V.int).length : Int) - 1) = j at *
      obtain ⟨c2, _, g2⟩ := at_map (ns := ms) (i := j) b0 b1
      obtain ⟨c3, _, g3⟩ := at_map (ns := ms) (i := 0) (by decide) (by omega)
      refine ⟨_, rfl, _, rfl, p, _, j, _, rfl, rfl, SqL.of hp1, g2, _, _, rfl, rfl, .inr ⟨by decide, by decide⟩, _, rfl, p, _, 0, _, rfl, rfl, SqL.of hp1, g3, _, _, rfl, rfl, .inr ⟨by decide, by decide⟩, _, _, rfl, rfl, _, rfl, 10, 40, rfl, rfl, ⟨by decide, by decide, by decide⟩, _, _, rfl, rfl, (show (0 : Int) < 10 ^ 40 by decide), ?_⟩
      dsimp only
      generalize ez : (c2 * 48271 + c3 * 69621) % 10 ^ (40 : Int).toNat = z
      have z0 : 0 ≤ z := by rw [← ez]; exact Int.emod_nonneg _ (by decide)
      have z1 : z < 10 ^ 40 := by rw [← ez]; exact Int.emod_lt_of_pos _ (by decide)
      refine ⟨_, rfl, p, L, 2, rfl, ⟨_, hp1, hms⟩, h2, h64, by decide, by decide, fun r3 H3 _ _ k3 pl3 => ?_⟩
      refine ⟨rfl, _, rfl, ite2 (fun _ => ?_) (fun _ => ?_)⟩
      · exact ⟨_, rfl, q _ _ ⟨by omega, by omega⟩ (k2.trans k3) pl3⟩
      · exact ⟨_, rfl, _, _, rfl, rfl, q _ _ ⟨by omega, by omega⟩ (k2.trans k3) pl3⟩

def sp__law_is_row (K : PySem.W.Frag) : Sp := fun vs H Q _ => ∃ (a : Addr) (ns : List Int) (m : Int), vs = [.ref a, .int m] ∧ (SqL K H a (ns.map V.int) ∨ SqT K H a (ns.map V.int)) ∧ ns.length ≤ 1000 ∧
  ∀ (b : Bool) (H' : Hp), (m = (ns.length : Int) → b = true) → Same H H' → Q (.bl b) H'
theorem same_sq {K : PySem.W.Frag} {H H' : Hp} {a : Addr} {xs : List V} (e : Same H H') (h : SqT K H a xs) : SqT K H' a xs := by
  rcases h with (h | ⟨o, h⟩) | h
  · exact .inl (.inl (e _ _ h))
  · exact .inl (.inr ⟨o, e _ _ h⟩)
  · exact .inr h
theorem trues (n : Nat) : ((List.replicate n true).all id) = true := by
  induction n with
  | zero => rfl
  | succ n ih => rw [List.replicate_succ, List.all_cons, ih]; rfl
theorem ok__law_is_row (T : Top w K mg) : FnOk P w K mg base CX0 1 T.a__law_is_row T.d__law_is_row ["_law_value", "_law_many"] (sp__law_is_row K) := by
  refine T.F__law_is_row.ok sc__law_is_row (fun vs H Q E h => ?_) (fun cdv A outer s H vs Q E hr h => ?_)
  · obtain ⟨a, ns, m, rfl, _⟩ := h
    rfl
  · obtain ⟨a, ns, m, rfl, hS, hlen, q⟩ := h
    refine ⟨_, (pss_one (ps_ret (pe_and (pe_cmpR op_eq (pe_callB (k_len K) (by rfl) T.z_len bt_len (pa_cons (pv 0) pa_nil)) (pv 1) (nomark _)) (pe_one (pe_callB (k_all K) (by rfl) T.z_all bt_all (pa_cons (pe_lc (own := [("_law_x", 2)]) (g := (gName 2)) (tt := tYes) rfl sc__law_is_row.nd (k_piS K (pv 0)) (blkOk_by (N := N__law_is_row) (sc := defScope s__law_is_row) (by decide +kernel)) (fun _ _ _ _ _ => (pg_name (i := 2) sc__law_is_row.nd rfl (Or.inl rfl))) (fun _ _ _ _ _ => pts_nil) (fun _ _ _ _ _ => (pe_and (pe_callB (k_isi K) (by rfl) T.z_isinstance bt_isinstance (pa_cons (pv 2) (pa_cons (pe_bltn (v := .ty "int") (by rfl) T.z_int bt_int rfl) pa_nil))) (pe_one (pe_not (pe_callB (k_isi K) (by rfl) T.z_isinstance bt_isinstance (pa_cons (pv 2) (pa_cons (pe_bltn (v := .ty "bool") (by rfl) T.z_bool bt_bool rfl) pa_nil)))))))) pa_nil)))))), ?_⟩
    refine ⟨_, rfl, a, _, rfl, hS, _, rfl, rfl, _, rfl, ite2 (fun _ => ?_) (fun hn => ?_)⟩
    · have turn : ∀ (i : Nat) (x : V) (D : Addr) (H' : Hp), (ns.map V.int)[i]? = some x → H D = none → (Same H H' ∧ H' D = some (.lst ((List.replicate i true).map V.bl))) → i < ns.length →
          ∃ n, x = .int n ∧ (((List.replicate i true).map V.bl).length < sizeLine) ∧ (Same H (upd H' D (.lst ((List.replicate i true).map V.bl ++ [V.bl true]))) ∧ (upd H' D (.lst ((List.replicate i true).map V.bl ++ [V.bl true]))) D = some (.lst ((List.replicate (i + 1) true).map V.bl))) := by
        intro i x D H' hx hD h hi
        rw [List.getElem?_map, List.getElem?_eq_getElem hi] at hx
        cases hx
        refine ⟨_, rfl, ?_, same_new h.1 hD, ?_⟩
        · rw [List.length_map, List.length_replicate]
          exact small1000 (by omega)
        · rw [upd_same, List.replicate_succ', List.map_append]
          rfl
      have done : ∀ (D : Addr) (H' : Hp), (Same H H' ∧ H' D = some (.lst ((List.replicate (ns.map V.int).length true).map V.bl))) → ∃ bs : List Bool, SqL K H' D (bs.map V.bl) ∧ Q (.bl (bs.all id)) H' := by
        intro D H' h
        exact ⟨_, SqL.of h.2, q _ _ (fun _ => trues _) h.1⟩
      have fin : ∀ (D : Addr) (H' : Hp), (Same H H' ∧ H' D = some (.lst ((List.replicate (ns.map V.int).length true).map V.bl))) → tCB (rAll K) (fun σ H Q => Q [V.ref D] H) [] H' Q := by
        intro D H' h
        obtain ⟨bs, h1, h2⟩ := done D H' h
        exact ⟨D, bs, rfl, h1, h2⟩
      rcases hS with hS | hS
      · refine .inl ⟨_, rfl, a, rfl, ⟨_, hS⟩, fun D nD => ?_⟩
        refine lc_list (xs := ns.map V.int) (fun i H' => Same H H' ∧ H' D = some (.lst ((List.replicate i true).map V.bl))) ⟨same_upd nD, upd_same⟩ (fun i H' _ h => h.1.seq hS) (fun i x H' hx h => ?_) (fun H' h => fin D H' h)
        obtain ⟨n, rfl, h1, h2⟩ := turn i x D H' hx nD h (by have := (List.getElem?_eq_some_iff.mp hx).1; rwa [List.length_map] at this)
        refine ⟨rfl, _, rfl, _, _, _, _, true, rfl, .ty _, .base (.int n), kit_ty (by decide +kernel), true, rfl, _, rfl, _, _, _, _, false, rfl, .ty _, .base (.int n), kit_ty (by decide +kernel), false, rfl, _, h.2, h1, h2⟩
      · refine .inr ⟨_, rfl, a, rfl, ⟨_, hS⟩, fun D nD => ?_⟩
        refine lc_tup (xs := ns.map V.int) (fun i H' => Same H H' ∧ H' D = some (.lst ((List.replicate i true).map V.bl))) ⟨same_upd nD, upd_same⟩ (fun i H' _ h => same_sq h.1 hS) (fun i x H' hx h => ?_) (fun H' h => fin D H' h)
        obtain ⟨n, rfl, h1, h2⟩ := turn i x D H' hx nD h (by have := (List.getElem?_eq_some_iff.mp hx).1; rwa [List.length_map] at this)
        refine ⟨rfl, _, rfl, _, _, _, _, true, rfl, .ty _, .base (.int n), kit_ty (by decide +kernel), true, rfl, _, rfl, _, _, _, _, false, rfl, .ty _, .base (.int n), kit_ty (by decide +kernel), false, rfl, _, h.2, h1, h2⟩
    · refine q false _ (fun e => ?_) (Same.refl _)
      exact absurd (decide_eq_true (by rw [len_map, ← e])) hn

theorem getD_get {ns : List Int} {t : Nat} (h : t < ns.length) : ns[t]? = some (ns.getD t 0) := by
  rw [List.getD_eq_getElem?_getD, List.getElem?_eq_getElem h]
  rfl
theorem at_nat {ns : List Int} {i : Int} {t : Nat} (e : i = (t : Int)) (h : t < ns.length) : atI (ns.map V.int) i = some (.int (ns.getD t 0)) := by
  rw [e]
  exact atI_nat (get_map (getD_get h))
theorem range_snoc (f : Nat → Int) (n : Nat) : ((List.range n).map f).map V.int ++ [.int (f n)] = ((List.range (n + 1)).map f).map V.int := by
  rw [List.range_succ, List.map_append, List.map_append]
  rfl
theorem list49 {ns : List Int} (h : ns.length = 49) : ns = (List.range 49).map fun t => ns.getD t 0 := by
  refine List.ext_getElem? fun t => ?_
  rw [List.getElem?_map]
  by_cases ht : t < 49
  · rw [List.getElem?_range ht, getD_get (by omega)]
    rfl
  · rw [List.getElem?_eq_none (by omega), List.getElem?_eq_none (by rw [List.length_range]; omega)]
    rfl

def sp_is_integer (K : PySem.W.Frag) : Sp := fun vs H Q _ => ∃ z : Int, vs = [.int z] ∧ ∀ H', Same H H' → Q (.bl true) H'
theorem ok_is_integer (T : Top w K mg) : FnOk P w K mg base CX0 1 T.a_is_integer T.d_is_integer ["thing"] (sp_is_integer K) := by
  refine T.F_is_integer.ok sc_is_integer (fun vs H Q E h => ?_) (fun cdv A outer s H vs Q E hr h => ?_)
  · obtain ⟨z, rfl, _⟩ := h
    rfl
  · obtain ⟨z, rfl, q⟩ := h
    refine ⟨_, (pss_one (ps_ret (pe_and (pe_callB (k_isi K) (by rfl) T.z_isinstance bt_isinstance (pa_cons (pv 0) (pa_cons (pe_bltn (v := .ty "int") (by rfl) T.z_int bt_int rfl) pa_nil))) (pe_one (pe_not (pe_callB (k_isi K) (by rfl) T.z_isinstance bt_isinstance (pa_cons (pv 0) (pa_cons (pe_bltn (v := .ty "bool") (by rfl) T.z_bool bt_bool rfl) pa_nil)))))))), ?_⟩
    refine ⟨_, rfl, _, _, _, _, true, rfl, .ty _, .base (.int z), kit_ty (by decide +kernel), true, rfl, _, rfl, _, _, _, _, false, rfl, .ty _, .base (.int z), kit_ty (by decide +kernel), false, rfl, ?_⟩
    exact q _ (Same.refl _)
def sp_is_pen (K : PySem.W.Frag) : Sp := fun vs H Q _ => ∃ (a : Addr) (ps : List Int), vs = [.ref a] ∧ H a = some (.tup (ps.map V.int)) ∧ ps.length = 6 ∧ ∀ H', Same H H' → Q (.bl true) H'
theorem trues2 (n : Nat) : ((List.replicate n true).all id) = true := by
  induction n with
  | zero => rfl
  | succ n ih => rw [List.replicate_succ, List.all_cons, ih]; rfl
theorem ok_is_pen (T : Top w K mg) : FnOk P w K mg base CX0 2 T.a_is_pen T.d_is_pen ["thing"] (sp_is_pen K) := by
  refine T.F_is_pen.ok sc_is_pen (fun vs H Q E h => ?_) (fun cdv A outer s H vs Q E hr h => ?_)
  · obtain ⟨a, ps, rfl, _⟩ := h
    rfl
  · obtain ⟨a, ps, rfl, ha, hl, q⟩ := h
    refine ⟨_, (pss_one (ps_ret (pe_and (pe_callB (k_isi K) (by rfl) T.z_isinstance bt_isinstance (pa_cons (pv 0) (pa_cons (pe_bltn (v := .ty "tuple") (by rfl) T.z_tuple bt_tuple rfl) pa_nil))) (pe_and (pe_cmpR op_eq (pe_callB (k_len K) (by rfl) T.z_len bt_len (pa_cons (pv 0) pa_nil)) pe_int (nomark _)) (pe_one (pe_callB (k_all K) (by rfl) T.z_all bt_all (pa_cons (pe_lc (own := [("number", 1)]) (g := (gName 1)) (tt := tYes) rfl sc_is_pen.nd (k_piT K (pv 0)) (blkOk_by (N := N_is_pen) (sc := defScope s_is_pen) (by decide +kernel)) (fun _ _ _ _ _ => (pg_name (i := 1) sc_is_pen.nd rfl (Or.inl rfl))) (fun _ _ _ _ _ => pts_nil) (fun _ _ _ _ _ => (pe_call (ok_is_integer T) hr (by rfl) T.g_is_integer T.F_is_integer.kp (b_is_integer T) .nil pass0 (pa_cons (pv 1) pa_nil)))) pa_nil))))))), ?_⟩
    refine ⟨_, rfl, _, _, _, _, true, rfl, .ty _, .base (.tup ha), kit_ty (by decide +kernel), true, rfl, _, rfl, a, _, rfl, .inr (SqT.of ha), rfl, _, rfl, iteP (by rw [len_map, hl]; rfl) ?_⟩
    refine ⟨_, rfl, a, rfl, ⟨_, SqT.of ha⟩, fun D nD => lc_tup (xs := ps.map V.int) (fun i H' => Same H H' ∧ H' D = some (.lst ((List.replicate i true).map V.bl))) ⟨same_upd nD, upd_same⟩ (fun i H' _ h => SqT.of (h.1 _ _ ha)) (fun i x H' hx h => ?_) (fun H' h => ?_)⟩
    · have hi := (List.getElem?_eq_some_iff.mp hx).1
      rw [len_map] at hi
      rw [List.getElem?_map, List.getElem?_eq_getElem hi] at hx
      cases hx
      refine ⟨rfl, _, rfl, _, rfl, fun J sJ => ⟨_, sJ _ _ h.2, ?_, same_new (h.1.trans sJ) nD, ?_⟩⟩
      · rw [List.length_map, List.length_replicate]
        exact small1000 (by omega)
      · rw [upd_same, List.replicate_succ', List.map_append]
        rfl
    · refine ⟨D, _, rfl, SqL.of h.2, ?_⟩
      rw [trues2]
      exact q _ h.1

--SPLIT
def sp_is_within (K : PySem.W.Frag) : Sp := fun vs H Q _ => ∃ (t : Addr) (z lo hi : Int), vs = [.int z, .ref t] ∧ SqT K H t [.int lo, .int hi] ∧ lo ≤ z ∧ z ≤ hi ∧ ∀ H', Same H H' → Q (.bl true) H'
theorem ok_is_within (T : Top w K mg) : FnOk P w K mg base CX0 2 T.a_is_within T.d_is_within ["thing", "bounds"] (sp_is_within K) := by
  refine T.F_is_within.ok sc_is_within (fun vs H Q E h => ?_) (fun cdv A outer s H vs Q E hr h => ?_)
  · obtain ⟨t, z, lo, hi, rfl, _⟩ := h
    rfl
  · obtain ⟨t, z, lo, hi, rfl, ht, h1, h2, q⟩ := h
    refine ⟨_, (pss_cons (ps_asg (pv 1) (pg_tup rfl (pgs_cons (pg_name (i := 2) sc_is_within.nd rfl (Or.inl rfl)) (pgs_cons (pg_name (i := 3) sc_is_within.nd rfl (Or.inl rfl)) pgs_nil))))
      (pss_one (ps_ret (pe_and (pe_call (ok_is_integer T) hr (by rfl) T.g_is_integer T.F_is_integer.kp (b_is_integer T) .nil pass0 (pa_cons (pv 0) pa_nil)) (pe_one (pe_chain op_le op_le (pv 2) (pv 0) (pv 3))))))), ?_⟩
    refine ⟨_, rfl, t, _, rfl, ht, rfl, _, _, rfl, _, _, rfl, rfl, ?_⟩
    refine ⟨_, rfl, z, rfl, fun J s => ⟨true, rfl, ?_⟩⟩
    refine ⟨_, rfl, _, rfl, _, _, rfl, rfl, _, rfl, iteP h1 ?_⟩
    refine ⟨_, rfl, _, _, rfl, rfl, ?_⟩
    dsimp only
    rw [decide_eq_true h2]
    exact q J s
def sp_is_command (K : PySem.W.Frag) : Sp := fun vs H Q _ => ∃ (a : Addr) (c : Cm), vs = [.ref a] ∧ H a = some (.tup c.vals) ∧ c.ok ∧ ∀ H', Same H H' → Q (.bl true) H'
theorem len_vals (c : Cm) : 0 < c.vals.length := Nat.succ_pos _
theorem ok_is_command (T : Top w K mg) : FnOk P w K mg base CX0 3 T.a_is_command T.d_is_command ["thing"] (sp_is_command K) := by
  refine T.F_is_command.ok sc_is_command (fun vs H Q E h => ?_) (fun cdv A outer s H vs Q E hr h => ?_)
  · obtain ⟨a, c, rfl, _⟩ := h
    rfl
  · obtain ⟨a, c, rfl, ha, hok, q⟩ := h
    refine ⟨_, (pss_cons (ps_if (PW.pt (pw_or (pt_not (pt_val (pe_callB (k_isi K) (by rfl) T.z_isinstance bt_isinstance (pa_cons (pv 0) (pa_cons (pe_bltn (v := .ty "tuple") (by rfl) T.z_tuple bt_tuple rfl) pa_nil))))) (pw_or1 (pt_cmpR op_eq (pe_callB (k_len K) (by rfl) T.z_len bt_len (pa_cons (pv 0) pa_nil)) pe_int (nomark _))))) (pss_one (ps_ret pe_bl)) pss_nil)
      (pss_cons (ps_asg (pv 0) (pg_star K rfl (pg_name (i := 1) sc_is_command.nd rfl (Or.inl rfl)) (pg_name (i := 2) sc_is_command.nd rfl (Or.inl rfl))))
      (pss_cons (ps_if (PW.pt (pw_or (pt_not (pt_val (pe_callB (k_isi K) (by rfl) T.z_isinstance bt_isinstance (pa_cons (pv 1) (pa_cons (pe_bltn (v := .ty "str") (by rfl) T.z_str bt_str rfl) pa_nil))))) (pw_or1 (pt_cmpR (op_notIn_kd T.D_B) (pv 1) (C8.pe_gc rfl T.c_BOUNDS) rfl)))) (pss_one (ps_ret pe_bl)) pss_nil)
      (pss_cons (ps_set (i := 3) sc_is_command.nd rfl (Or.inl rfl) (pe_ix ix_kdict (C8.pe_gc rfl T.c_BOUNDS) (pv 1) (fun _ _ => rfl)))
      (pss_cons (ps_if (pt_cmpR op_ne (pe_callB (k_len K) (by rfl) T.z_len bt_len (pa_cons (pv 2) pa_nil)) (pe_callB (k_len K) (by rfl) T.z_len bt_len (pa_cons (pv 3) pa_nil)) (nomark _)) (pss_one (ps_ret pe_bl)) pss_nil)
      (pss_one (ps_ret (pe_callB (k_all K) (by rfl) T.z_all bt_all (pa_cons (pe_lc (own := [("number", 4), ("pair", 5)]) (g := (gTup K 2 (gCons (gName 4) (gCons (gName 5) gNil)))) (tt := tYes) rfl sc_is_command.nd (pi_zipLT K (by rfl) T.z_zip (pa_cons (pv 2) (pa_cons (pv 3) pa_nil))) (blkOk_by (N := N_is_command) (sc := defScope s_is_command) (by decide +kernel)) (fun _ _ _ _ _ => (pg_tup rfl (pgs_cons (pg_name (i := 4) sc_is_command.nd rfl (Or.inl rfl)) (pgs_cons (pg_name (i := 5) sc_is_command.nd rfl (Or.inl rfl)) pgs_nil)))) (fun _ _ _ _ _ => pts_nil) (fun _ _ _ _ _ => (pe_call (ok_is_within T) hr (by rfl) T.g_is_within T.F_is_within.kp (b_is_within T) .nil pass0 (pa_cons (pv 4) (pa_cons (pv 5) pa_nil))))) pa_nil))))))))), ?_⟩
    obtain ⟨ab, ps, hd, hab, hpl, hll, hps⟩ := T.L_B.row c
    have hlen : c.nums.length ≤ 2 := by cases c <;> simp [Cm.nums]
    refine ⟨_, rfl, _, _, _, _, true, rfl, .ty _, .base (.tup ha), kit_ty (by decide +kernel), true, rfl, ?_⟩
    refine ⟨_, rfl, a, _, rfl, .inr (SqT.of ha), rfl, _, rfl, iteN (fun e => ?_) ?_⟩
    · have := V.int.inj e
      have := len_vals c
      omega
    refine ⟨_, rfl, a, _, _, rfl, SqT.of ha, fun b nb => ?_⟩
    have s1 := same_upd (o := .lst (c.nums.map V.int)) nb
    have hb : (upd H b (.lst (c.nums.map V.int))) b = some (.lst (c.nums.map V.int)) := upd_same
    generalize upd H b (.lst (c.nums.map V.int)) = H1 at *
    obtain ⟨es, n, u, hl, hk, hn, hu⟩ := id hd
    refine ⟨_, rfl, _, _, _, _, true, rfl, .ty _, .base (.str _), kit_ty (by decide +kernel), true, rfl, ?_⟩
    refine ⟨_, rfl, _, some u, rfl, rfl, hn, _, rfl, ?_⟩
    refine ⟨_, rfl, _, _, _, rfl, rfl, hd, ?_⟩
    refine ⟨_, rfl, b, _, rfl, .inl (SqL.of hb), _, rfl, ab, _, rfl, .inr (hab _), rfl, _, rfl, iteNS (by rw [len_map, List.length_map, hpl]) ?_⟩
    refine ⟨_, rfl, _, rfl, b, ab, _, _, rfl, SqL.of hb, hab _, fun D nD => ?_⟩
    refine lc_it (walk_zipLT (xs := c.nums.map V.int) (ys := ps.map V.ref) (n := c.nums.length) (len_map _) (by rw [List.length_map, hpl])) (fun i H' => Same H1 H' ∧ H' D = some (.lst ((List.replicate i true).map V.bl))) ⟨same_upd nD, upd_same⟩ (fun i H' _ h => ⟨SqL.of (h.1 _ _ hb), hab _⟩) (fun i x H' H2 hi h y => ?_) (fun H' h => ?_)
    · obtain ⟨sm, hD⟩ := h
      obtain ⟨t, x, y, rfl, nt, rfl, hx, hy⟩ := y
      have hx : (c.nums.map V.int)[i]? = some x := hx
      have hy : (ps.map V.ref)[i]? = some y := hy
      have gx : c.nums[i]? = some c.nums[i] := List.getElem?_eq_getElem hi
      have gy : ps[i]? = some ps[i] := List.getElem?_eq_getElem (by omega)
      rw [List.getElem?_map, gx] at hx
      rw [List.getElem?_map, gy] at hy
      cases hx
      cases hy
      obtain ⟨l, hl1, hl2⟩ := hps i _ gy
      obtain ⟨o1, o2⟩ := hok i _ l gx hl1
      have sm2 := sm.trans (same_upd (o := .tup [V.int c.nums[i], V.ref ps[i]]) nt)
      have hD2 := same_upd (o := .tup [V.int c.nums[i], V.ref ps[i]]) nt _ _ hD
      refine ⟨t, [V.int c.nums[i], V.ref ps[i]], rfl, SqT.of upd_same, rfl, _, _, rfl, _, _, rfl, rfl, rfl, _, rfl, _, rfl, ps[i], c.nums[i], l.1, l.2, rfl, hl2 _, o1, o2, fun J sJ => ⟨_, sJ _ _ hD2, ?_, same_new (sm2.trans sJ) nD, ?_⟩⟩
      · rw [List.length_map, List.length_replicate]
        exact small1000 (by omega)
      · rw [upd_same, List.replicate_succ', List.map_append]
        rfl
    · refine ⟨D, _, rfl, SqL.of h.2, ?_⟩
      rw [trues2]
      exact q _ (s1.trans h.1)

def sp_turned (K : PySem.W.Frag) : Sp := fun vs H Q _ => ∃ (u v n : Int), vs = [.int u, .int v, .int n] ∧ 0 ≤ n ∧ n ≤ 3 ∧
  ∀ (q : Addr) (H' : Hp), Same H H' → H q = none → H' q = some (.tup [.int (rot n.toNat (u, v)).1, .int (rot n.toNat (u, v)).2]) → Q (.ref q) H'
theorem ok_turned (T : Top w K mg) : FnOk P w K mg base CX0 1 T.a_turned T.d_turned ["u", "v", "times"] (sp_turned K) := by
  refine T.F_turned.ok sc_turned (fun vs H Q E h => ?_) (fun cdv A outer s H vs Q E hr h => ?_)
  · obtain ⟨u, v, n, rfl, _⟩ := h
    rfl
  · obtain ⟨u, v, n, rfl, h0, h3, q⟩ := h
    refine ⟨_, (pss_cons (ps_for PassesOwn.never rfl (pi_range1 (by rfl) T.z_range (pa_cons (pv 2) pa_nil)) (pg_name (i := 3) sc_turned.nd rfl (Or.inl rfl)) (pss_one (ps_par (i := 0) (j := 1) rfl sc_turned.nd rfl rfl (by decide) rfl rfl (pa_cons (pe_un un_neg (pv 1)) (pa_cons (pv 0) pa_nil)) (by rfl))))
      (pss_one (ps_ret (pe_tup (pa_cons (pv 0) (pa_cons (pv 1) pa_nil)))))), ?_⟩
    refine ⟨_, rfl, n, rfl, by omega, by omega, for_range (n := n.toNat) (fun i σ H' => ∃ y, σ = [some (.int (rot i (u, v)).1), some (.int (rot i (u, v)).2), some (.int n), y] ∧ H' = H) ⟨none, rfl, rfl⟩ (fun i σ H' hi h => ?_) (fun σ H' h => ?_)⟩
    · obtain ⟨y, rfl, rfl⟩ := h
      exact ⟨_, rfl, _, rfl, _, rfl, _, _, rfl, _, rfl, rfl⟩
    · obtain ⟨y, rfl, rfl⟩ := h
      exact ⟨_, rfl, _, rfl, small100 (n := 2) (by decide), fun p np => q p _ (same_upd np) np upd_same⟩

theorem list6' {ps : List Int} (h : ps.length = 6) : ∃ x y u v p q, ps = [x, y, u, v, p, q] := by
  match ps, h with
  | [a, b, c, d, e, f], _ => exact ⟨a, b, c, d, e, f, rfl⟩
def sp_moved (K : PySem.W.Frag) : Sp := fun vs H Q _ => ∃ (a b : Addr) (ps : List Int) (c : Cm), vs = [.ref a, .ref b] ∧ H a = some (.tup (ps.map V.int)) ∧ ps.length = 6 ∧ H b = some (.tup c.vals) ∧ c.ok ∧
  ∀ (q : Addr) (H' : Hp), Same H H' → H q = none → H' q = some (.tup ((c.mv ps).map V.int)) → Q (.ref q) H'
set_option maxHeartbeats 4000000 in
theorem ok_moved (T : Top w K mg) : FnOk P w K mg base CX0 4 T.a_moved T.d_moved ["pen", "command"] (sp_moved K) := by
  refine T.F_moved.ok sc_moved (fun vs H Q E h => ?_) (fun cdv A outer s H vs Q E hr h => ?_)
  · obtain ⟨a, b, ps, c, rfl, _⟩ := h
    rfl
  · obtain ⟨a, b, ps, c, rfl, ha, hl, hb, hok, q⟩ := h
    refine ⟨_, (pss_cons (ps_if (pt_not (pt_val (pe_call (ok_is_pen T) (hr.mono (by decide)) (by rfl) T.g_is_pen T.F_is_pen.kp (b_is_pen T) .nil pass0 (pa_cons (pv 0) pa_nil)))) (pss_one ps_never) pss_nil)
      (pss_cons (ps_if (pt_not (pt_val (pe_call (ok_is_command T) hr (by rfl) T.g_is_command T.F_is_command.kp (b_is_command T) .nil pass0 (pa_cons (pv 1) pa_nil)))) (pss_one ps_never) pss_nil)
      (pss_cons (ps_asg (pv 0) (pg_tup rfl (pgs_cons (pg_name (i := 2) sc_moved.nd rfl (Or.inl rfl)) (pgs_cons (pg_name (i := 3) sc_moved.nd rfl (Or.inl rfl)) (pgs_cons (pg_name (i := 4) sc_moved.nd rfl (Or.inl rfl)) (pgs_cons (pg_name (i := 5) sc_moved.nd rfl (Or.inl rfl)) (pgs_cons (pg_name (i := 6) sc_moved.nd rfl (Or.inl rfl)) (pgs_cons (pg_name (i := 7) sc_moved.nd rfl (Or.inl rfl)) pgs_nil))))))))
      (pss_cons (ps_set (i := 8) sc_moved.nd rfl (Or.inl rfl) (pe_ix (k_ixT K) (pv 1) pe_int (fun _ _ => rfl)))
      (pss_cons (ps_if (pt_cmpR op_eq (pv 8) pe_str (nomark _)) (pss_one (ps_ret (pe_tup (pa_cons (pe_op op_add (pv 2) (pe_op op_mul (pe_ix (k_ixT K) (pv 1) pe_int (fun _ _ => rfl)) (pv 4))) (pa_cons (pe_op op_add (pv 3) (pe_op op_mul (pe_ix (k_ixT K) (pv 1) pe_int (fun _ _ => rfl)) (pv 5))) (pa_cons (pv 4) (pa_cons (pv 5) (pa_cons (pv 6) (pa_cons (pv 7) pa_nil))))))))) pss_nil)
      (pss_cons (ps_if (pt_cmpR op_eq (pv 8) pe_str (nomark _)) (pss_one (ps_ret (pe_tup (pa_cons (pv 2) (pa_cons (pv 3) (k_star K (pe_call (ok_turned T) (hr.mono (by decide)) (by rfl) T.g_turned T.F_turned.kp (b_turned T) .nil pass0 (pa_cons (pv 4) (pa_cons (pv 5) (pa_cons (pe_ix (k_ixT K) (pv 1) pe_int (fun _ _ => rfl)) pa_nil)))) (pa_cons (pv 6) (pa_cons (pv 7) pa_nil)))))))) pss_nil)
      (pss_cons (ps_if (pt_cmpR op_eq (pv 8) pe_str (nomark _)) (pss_one (ps_ret (pe_tup (pa_cons (pv 2) (pa_cons (pv 3) (pa_cons (pv 4) (pa_cons (pe_un un_neg (pv 5)) (pa_cons (pv 6) (pa_cons (pv 7) pa_nil))))))))) pss_nil)
      (pss_cons (ps_if (pt_cmpR op_eq (pv 8) pe_str (nomark _)) (pss_one (ps_ret (pe_tup (pa_cons (pv 2) (pa_cons (pv 3) (pa_cons (pe_op op_mul (pe_ix (k_ixT K) (pv 1) pe_int (fun _ _ => rfl)) (pv 4)) (pa_cons (pe_op op_mul (pe_ix (k_ixT K) (pv 1) pe_int (fun _ _ => rfl)) (pv 5)) (pa_cons (pv 6) (pa_cons (pv 7) pa_nil))))))))) pss_nil)
      (pss_cons (ps_if (pt_cmpR op_eq (pv 8) pe_str (nomark _)) (pss_one (ps_ret (pe_tup (pa_cons (pv 2) (pa_cons (pv 3) (pa_cons (pe_ix (k_ixT K) (pv 1) pe_int (fun _ _ => rfl)) (pa_cons (pe_ix (k_ixT K) (pv 1) pe_int (fun _ _ => rfl)) (pa_cons (pv 6) (pa_cons (pv 7) pa_nil))))))))) pss_nil)
      (pss_cons (ps_if (pt_cmpR op_eq (pv 8) pe_str (nomark _)) (pss_one (ps_ret (pe_tup (pa_cons (pe_ix (k_ixT K) (pv 1) pe_int (fun _ _ => rfl)) (pa_cons (pe_ix (k_ixT K) (pv 1) pe_int (fun _ _ => rfl)) (pa_cons (pv 4) (pa_cons (pv 5) (pa_cons (pv 6) (pa_cons (pv 7) pa_nil))))))))) pss_nil)
      (pss_cons (ps_if (pt_cmpR op_eq (pv 8) pe_str (nomark _)) (pss_one (ps_ret (pe_tup (pa_cons (pv 2) (pa_cons (pv 3) (pa_cons (pv 4) (pa_cons (pv 5) (pa_cons (pv 2) (pa_cons (pv 3) pa_nil))))))))) pss_nil)
      (pss_cons (ps_if (pt_cmpR op_eq (pv 8) pe_str (nomark _)) (pss_one (ps_ret (pe_tup (pa_cons (pv 6) (pa_cons (pv 7) (pa_cons (pv 4) (pa_cons (pv 5) (pa_cons (pv 6) (pa_cons (pv 7) pa_nil))))))))) pss_nil)
      (pss_one (ps_ret (pe_tup (pa_cons (pv 6) (pa_cons (pv 7) (pa_cons (pv 4) (pa_cons (pv 5) (pa_cons (pv 2) (pa_cons (pv 3) pa_nil))))))))))))))))))))), ?_⟩
    obtain ⟨x, y, u, v, p, r, rfl⟩ := list6' hl
    refine ⟨_, rfl, a, _, rfl, ha, hl, fun H1 s1 => ⟨true, rfl, ?_⟩⟩
    refine ⟨_, rfl, b, c, rfl, s1 _ _ hb, hok, fun H2 s2 => ⟨true, rfl, ?_⟩⟩
    have s02 := s1.trans s2
    have hb2 := s02 _ _ hb
    refine ⟨_, rfl, a, _, rfl, SqT.of (s02 _ _ ha), rfl, _, _, rfl, _, _, rfl, _, _, rfl, _, _, rfl, _, _, rfl, _, _, rfl, rfl, ?_⟩
    refine ⟨_, rfl, b, _, 0, _, rfl, rfl, SqT.of hb2, atI_nat (j := 0) rfl, ?_⟩
    have lim : ∀ {i : Nat} {z : Int} {l : Int × Int}, c.nums[i]? = some z → c.lims[i]? = some l → l.1 ≤ z ∧ z ≤ l.2 := fun g1 g2 => hok _ _ _ g1 g2
    have done : ∀ {q : Addr} {J : Hp} {l : List Int}, Same H J → J q = none → l = c.mv [x, y, u, v, p, r] → Same H (upd J q (.tup (l.map V.int))) ∧ H q = none ∧ (upd J q (.tup (l.map V.int))) q = some (.tup ((c.mv [x, y, u, v, p, r]).map V.int)) := fun s n e => ⟨same_new s (s.free n), s.free n, by rw [upd_same, e]⟩
    cases c with
    | go k =>
      have h1 := lim (i := 0) rfl rfl
      dsimp only at h1
      refine ⟨_, rfl, rfl, _, rfl, iteP rfl ?_⟩
      refine ⟨_, rfl, _, rfl, b, _, 1, _, rfl, rfl, SqT.of hb2, atI_nat (j := 1) rfl, _, rfl, _, _, rfl, rfl, .inl ⟨by omega, by omega⟩, _, _, rfl, rfl, _, rfl, _, rfl, b, _, 1, _, rfl, rfl, SqT.of hb2, atI_nat (j := 1) rfl, _, rfl, _, _, rfl, rfl, .inl ⟨by omega, by omega⟩, _, _, rfl, rfl, _, rfl, _, rfl, _, rfl, _, rfl, small100 (n := 6) (by decide), fun t nt => ?_⟩
      exact q t _ (done (l := Cm.mv (.go k) [x, y, u, v, p, r]) s02 nt rfl).1 (done (l := Cm.mv (.go k) [x, y, u, v, p, r]) s02 nt rfl).2.1 (done (l := Cm.mv (.go k) [x, y, u, v, p, r]) s02 nt rfl).2.2
    | turn n =>
      have h1 := lim (i := 0) rfl rfl
      dsimp only at h1
      refine ⟨_, rfl, rfl, _, rfl, iteN (show ¬ V.str ("turn" : Str) = V.str ("go" : Str) by decide) ?_⟩
      refine ⟨_, rfl, rfl, _, rfl, iteP rfl ?_⟩
      refine ⟨_, rfl, _, rfl, _, rfl, _, rfl, _, rfl, b, _, 1, _, rfl, rfl, SqT.of hb2, atI_nat (j := 1) rfl, _, _, _, rfl, by omega, by omega, fun z H3 s3 nz hz => ⟨z, _, rfl, .inl (SqT.of hz), _, rfl, _, rfl, small100 (n := 6) (by decide), fun t nt => ?_⟩⟩
      exact q t _ (done (l := Cm.mv (.turn n) [x, y, u, v, p, r]) (s02.trans s3) nt rfl).1 (done (l := Cm.mv (.turn n) [x, y, u, v, p, r]) (s02.trans s3) nt rfl).2.1 (done (l := Cm.mv (.turn n) [x, y, u, v, p, r]) (s02.trans s3) nt rfl).2.2
    | mirror =>
      refine ⟨_, rfl, rfl, _, rfl, iteN (show ¬ V.str ("mirror" : Str) = V.str ("go" : Str) by decide) ?_⟩
      refine ⟨_, rfl, rfl, _, rfl, iteN (show ¬ V.str ("mirror" : Str) = V.str ("turn" : Str) by decide) ?_⟩
      refine ⟨_, rfl, rfl, _, rfl, iteP rfl ?_⟩
      refine ⟨_, rfl, _, rfl, _, rfl, _, rfl, _, rfl, _, rfl, _, rfl, small100 (n := 6) (by decide), fun t nt => ?_⟩
      exact q t _ (done (l := Cm.mv (.mirror) [x, y, u, v, p, r]) s02 nt rfl).1 (done (l := Cm.mv (.mirror) [x, y, u, v, p, r]) s02 nt rfl).2.1 (done (l := Cm.mv (.mirror) [x, y, u, v, p, r]) s02 nt rfl).2.2
    | scale k =>
      have h1 := lim (i := 0) rfl rfl
      dsimp only at h1
      refine ⟨_, rfl, rfl, _, rfl, iteN (show ¬ V.str ("scale" : Str) = V.str ("go" : Str) by decide) ?_⟩
      refine ⟨_, rfl, rfl, _, rfl, iteN (show ¬ V.str ("scale" : Str) = V.str ("turn" : Str) by decide) ?_⟩
      refine ⟨_, rfl, rfl, _, rfl, iteN (show ¬ V.str ("scale" : Str) = V.str ("mirror" : Str) by decide) ?_⟩
      refine ⟨_, rfl, rfl, _, rfl, iteP rfl ?_⟩
      refine ⟨_, rfl, _, rfl, _, rfl, b, _, 1, _, rfl, rfl, SqT.of hb2, atI_nat (j := 1) rfl, _, rfl, _, _, rfl, rfl, .inl ⟨by omega, by omega⟩, _, rfl, b, _, 1, _, rfl, rfl, SqT.of hb2, atI_nat (j := 1) rfl, _, rfl, _, _, rfl, rfl, .inl ⟨by omega, by omega⟩, _, rfl, _, rfl, small100 (n := 6) (by decide), fun t nt => ?_⟩
      exact q t _ (done (l := Cm.mv (.scale k) [x, y, u, v, p, r]) s02 nt rfl).1 (done (l := Cm.mv (.scale k) [x, y, u, v, p, r]) s02 nt rfl).2.1 (done (l := Cm.mv (.scale k) [x, y, u, v, p, r]) s02 nt rfl).2.2
    | aim a1 a2 =>
      refine ⟨_, rfl, rfl, _, rfl, iteN (show ¬ V.str ("aim" : Str) = V.str ("go" : Str) by decide) ?_⟩
      refine ⟨_, rfl, rfl, _, rfl, iteN (show ¬ V.str ("aim" : Str) = V.str ("turn" : Str) by decide) ?_⟩
      refine ⟨_, rfl, rfl, _, rfl, iteN (show ¬ V.str ("aim" : Str) = V.str ("mirror" : Str) by decide) ?_⟩
      refine ⟨_, rfl, rfl, _, rfl, iteN (show ¬ V.str ("aim" : Str) = V.str ("scale" : Str) by decide) ?_⟩
      refine ⟨_, rfl, rfl, _, rfl, iteP rfl ?_⟩
      refine ⟨_, rfl, _, rfl, _, rfl, b, _, 1, _, rfl, rfl, SqT.of hb2, atI_nat (j := 1) rfl, _, rfl, b, _, 2, _, rfl, rfl, SqT.of hb2, atI_nat (j := 2) rfl, _, rfl, _, rfl, small100 (n := 6) (by decide), fun t nt => ?_⟩
      exact q t _ (done (l := Cm.mv (.aim a1 a2) [x, y, u, v, p, r]) s02 nt rfl).1 (done (l := Cm.mv (.aim a1 a2) [x, y, u, v, p, r]) s02 nt rfl).2.1 (done (l := Cm.mv (.aim a1 a2) [x, y, u, v, p, r]) s02 nt rfl).2.2
    | place a1 a2 =>
      refine ⟨_, rfl, rfl, _, rfl, iteN (show ¬ V.str ("place" : Str) = V.str ("go" : Str) by decide) ?_⟩
      refine ⟨_, rfl, rfl, _, rfl, iteN (show ¬ V.str ("place" : Str) = V.str ("turn" : Str) by decide) ?_⟩
      refine ⟨_, rfl, rfl, _, rfl, iteN (show ¬ V.str ("place" : Str) = V.str ("mirror" : Str) by decide) ?_⟩
      refine ⟨_, rfl, rfl, _, rfl, iteN (show ¬ V.str ("place" : Str) = V.str ("scale" : Str) by decide) ?_⟩
      refine ⟨_, rfl, rfl, _, rfl, iteN (show ¬ V.str ("place" : Str) = V.str ("aim" : Str) by decide) ?_⟩
      refine ⟨_, rfl, rfl, _, rfl, iteP rfl ?_⟩
      refine ⟨_, rfl, b, _, 1, _, rfl, rfl, SqT.of hb2, atI_nat (j := 1) rfl, _, rfl, b, _, 2, _, rfl, rfl, SqT.of hb2, atI_nat (j := 2) rfl, _, rfl, _, rfl, _, rfl, _, rfl, small100 (n := 6) (by decide), fun t nt => ?_⟩
      exact q t _ (done (l := Cm.mv (.place a1 a2) [x, y, u, v, p, r]) s02 nt rfl).1 (done (l := Cm.mv (.place a1 a2) [x, y, u, v, p, r]) s02 nt rfl).2.1 (done (l := Cm.mv (.place a1 a2) [x, y, u, v, p, r]) s02 nt rfl).2.2
    | mark =>
      refine ⟨_, rfl, rfl, _, rfl, iteN (show ¬ V.str ("mark" : Str) = V.str ("go" : Str) by decide) ?_⟩
      refine ⟨_, rfl, rfl, _, rfl, iteN (show ¬ V.str ("mark" : Str) = V.str ("turn" : Str) by decide) ?_⟩
      refine ⟨_, rfl, rfl, _, rfl, iteN (show ¬ V.str ("mark" : Str) = V.str ("mirror" : Str) by decide) ?_⟩
      refine ⟨_, rfl, rfl, _, rfl, iteN (show ¬ V.str ("mark" : Str) = V.str ("scale" : Str) by decide) ?_⟩
      refine ⟨_, rfl, rfl, _, rfl, iteN (show ¬ V.str ("mark" : Str) = V.str ("aim" : Str) by decide) ?_⟩
      refine ⟨_, rfl, rfl, _, rfl, iteN (show ¬ V.str ("mark" : Str) = V.str ("place" : Str) by decide) ?_⟩
      refine ⟨_, rfl, rfl, _, rfl, iteP rfl ?_⟩
      refine ⟨_, rfl, _, rfl, _, rfl, _, rfl, _, rfl, _, rfl, small100 (n := 6) (by decide), fun t nt => ?_⟩
      exact q t _ (done (l := Cm.mv (.mark) [x, y, u, v, p, r]) s02 nt rfl).1 (done (l := Cm.mv (.mark) [x, y, u, v, p, r]) s02 nt rfl).2.1 (done (l := Cm.mv (.mark) [x, y, u, v, p, r]) s02 nt rfl).2.2
    | ret =>
      refine ⟨_, rfl, rfl, _, rfl, iteN (show ¬ V.str ("return" : Str) = V.str ("go" : Str) by decide) ?_⟩
      refine ⟨_, rfl, rfl, _, rfl, iteN (show ¬ V.str ("return" : Str) = V.str ("turn" : Str) by decide) ?_⟩
      refine ⟨_, rfl, rfl, _, rfl, iteN (show ¬ V.str ("return" : Str) = V.str ("mirror" : Str) by decide) ?_⟩
      refine ⟨_, rfl, rfl, _, rfl, iteN (show ¬ V.str ("return" : Str) = V.str ("scale" : Str) by decide) ?_⟩
      refine ⟨_, rfl, rfl, _, rfl, iteN (show ¬ V.str ("return" : Str) = V.str ("aim" : Str) by decide) ?_⟩
      refine ⟨_, rfl, rfl, _, rfl, iteN (show ¬ V.str ("return" : Str) = V.str ("place" : Str) by decide) ?_⟩
      refine ⟨_, rfl, rfl, _, rfl, iteN (show ¬ V.str ("return" : Str) = V.str ("mark" : Str) by decide) ?_⟩
      refine ⟨_, rfl, rfl, _, rfl, iteP rfl ?_⟩
      refine ⟨_, rfl, _, rfl, _, rfl, _, rfl, _, rfl, _, rfl, small100 (n := 6) (by decide), fun t nt => ?_⟩
      exact q t _ (done (l := Cm.mv (.ret) [x, y, u, v, p, r]) s02 nt rfl).1 (done (l := Cm.mv (.ret) [x, y, u, v, p, r]) s02 nt rfl).2.1 (done (l := Cm.mv (.ret) [x, y, u, v, p, r]) s02 nt rfl).2.2
    | exch =>
      refine ⟨_, rfl, rfl, _, rfl, iteN (show ¬ V.str ("exchange" : Str) = V.str ("go" : Str) by decide) ?_⟩
      refine ⟨_, rfl, rfl, _, rfl, iteN (show ¬ V.str ("exchange" : Str) = V.str ("turn" : Str) by decide) ?_⟩
      refine ⟨_, rfl, rfl, _, rfl, iteN (show ¬ V.str ("exchange" : Str) = V.str ("mirror" : Str) by decide) ?_⟩
      refine ⟨_, rfl, rfl, _, rfl, iteN (show ¬ V.str ("exchange" : Str) = V.str ("scale" : Str) by decide) ?_⟩
      refine ⟨_, rfl, rfl, _, rfl, iteN (show ¬ V.str ("exchange" : Str) = V.str ("aim" : Str) by decide) ?_⟩
      refine ⟨_, rfl, rfl, _, rfl, iteN (show ¬ V.str ("exchange" : Str) = V.str ("place" : Str) by decide) ?_⟩
      refine ⟨_, rfl, rfl, _, rfl, iteN (show ¬ V.str ("exchange" : Str) = V.str ("mark" : Str) by decide) ?_⟩
      refine ⟨_, rfl, rfl, _, rfl, iteN (show ¬ V.str ("exchange" : Str) = V.str ("return" : Str) by decide) ?_⟩
      refine ⟨_, rfl, _, rfl, _, rfl, _, rfl, _, rfl, _, rfl, small100 (n := 6) (by decide), fun t nt => ?_⟩
      exact q t _ (done (l := Cm.mv (.exch) [x, y, u, v, p, r]) s02 nt rfl).1 (done (l := Cm.mv (.exch) [x, y, u, v, p, r]) s02 nt rfl).2.1 (done (l := Cm.mv (.exch) [x, y, u, v, p, r]) s02 nt rfl).2.2

--SPLIT
def sp__law_any_command (K : PySem.W.Frag) : Sp := fun vs H Q _ => ∃ (p : Addr) (L : Nat), vs = [.ref p] ∧ Pool H p L ∧ 2 ≤ L ∧ L ≤ 64 ∧
  ∀ (q : Addr) (c : Cm) (H' : Hp), c.ok → Kp p H H' → Pool H' p L → H q = none → H' q = some (.tup c.vals) → Q (.ref q) H'
theorem ok0 {c : Cm} (h : c.nums = []) : c.ok := fun i z l e => by
  rw [h] at e
  cases e
theorem ok1 {c : Cm} {z : Int} {l : Int × Int} (h : c.nums = [z]) (hl : c.lims = [l]) (h1 : l.1 ≤ z) (h2 : z ≤ l.2) : c.ok := fun i y k e f => by
  rw [h] at e
  rw [hl] at f
  match i, e, f with
  | 0, e, f =>
    cases e
    cases f
    exact ⟨h1, h2⟩
theorem ok2 {c : Cm} {z y : Int} {l : Int × Int} (h : c.nums = [z, y]) (hl : c.lims = [l, l]) (h1 : l.1 ≤ z) (h2 : z ≤ l.2) (h3 : l.1 ≤ y) (h4 : y ≤ l.2) : c.ok := fun i x k e f => by
  rw [h] at e
  rw [hl] at f
  match i, e, f with
  | 0, e, f =>
    cases e
    cases f
    exact ⟨h1, h2⟩
  | 1, e, f =>
    cases e
    cases f
    exact ⟨h3, h4⟩
theorem dec_int {a b : Int} (h : ¬ decide (V.int a = V.int b) = true) : a ≠ b := fun e => h (by rw [e]; exact decide_eq_true rfl)
theorem dec_int' {a b : Int} (h : decide (V.int a = V.int b) = true) : a = b := V.int.inj (of_decide_eq_true h)
set_option maxHeartbeats 1000000 in
theorem ok__law_any_command (T : Top w K mg) : FnOk P w K mg base CX0 2 T.a__law_any_command T.d__law_any_command ["_law_pool_here"] (sp__law_any_command K) := by
  refine T.F__law_any_command.ok sc__law_any_command (fun vs H Q E h => ?_) (fun cdv A outer s H vs Q E hr h => ?_)
  · obtain ⟨p, L, rfl, _⟩ := h
    rfl
  · obtain ⟨p, L, rfl, pl, h2, h64, q⟩ := h
    refine ⟨_, (pss_cons (ps_set (i := 1) sc__law_any_command.nd rfl (Or.inl rfl) (pe_call (ok__law_draw T) hr (by rfl) T.g__law_draw T.F__law_draw.kp (b__law_draw T) .nil pass0 (pa_cons (pv 0) (pa_cons pe_int pa_nil))))
      (pss_cons (ps_if (pt_cmpR op_eq (pv 1) pe_int (nomark _)) (pss_one (ps_ret (pe_tup (pa_cons pe_str (pa_cons (pe_op op_sub (pe_call (ok__law_draw T) hr (by rfl) T.g__law_draw T.F__law_draw.kp (b__law_draw T) .nil pass0 (pa_cons (pv 0) (pa_cons pe_int pa_nil))) pe_int) pa_nil))))) pss_nil)
      (pss_cons (ps_if (pt_cmpR op_eq (pv 1) pe_int (nomark _)) (pss_one (ps_ret (pe_tup (pa_cons pe_str (pa_cons (pe_op op_add pe_int (pe_call (ok__law_draw T) hr (by rfl) T.g__law_draw T.F__law_draw.kp (b__law_draw T) .nil pass0 (pa_cons (pv 0) (pa_cons pe_int pa_nil)))) pa_nil))))) pss_nil)
      (pss_cons (ps_if (pt_cmpR op_eq (pv 1) pe_int (nomark _)) (pss_one (ps_ret (pe_tup (pa_cons pe_str (pa_cons (pe_op op_sub (pe_call (ok__law_draw T) hr (by rfl) T.g__law_draw T.F__law_draw.kp (b__law_draw T) .nil pass0 (pa_cons (pv 0) (pa_cons pe_int pa_nil))) pe_int) pa_nil))))) pss_nil)
      (pss_cons (ps_if (pt_cmpR op_lt (pv 1) pe_int (nomark _)) (pss_one (ps_ret (pe_tup (pa_cons (pe_ix (k_ixT K) (pe_tup (pa_cons pe_str (pa_cons pe_str pa_nil))) (pe_op op_sub (pv 1) pe_int) (fun _ _ => rfl)) (pa_cons (pe_op op_sub (pe_call (ok__law_draw T) hr (by rfl) T.g__law_draw T.F__law_draw.kp (b__law_draw T) .nil pass0 (pa_cons (pv 0) (pa_cons pe_int pa_nil))) pe_int) (pa_cons (pe_op op_sub (pe_call (ok__law_draw T) hr (by rfl) T.g__law_draw T.F__law_draw.kp (b__law_draw T) .nil pass0 (pa_cons (pv 0) (pa_cons pe_int pa_nil))) pe_int) pa_nil)))))) pss_nil)
      (pss_one (ps_ret (pe_tup (pa_cons (pe_ix (k_ixT K) (pe_tup (pa_cons pe_str (pa_cons pe_str (pa_cons pe_str (pa_cons pe_str pa_nil))))) (pe_op op_sub (pv 1) pe_int) (fun _ _ => rfl)) pa_nil))))))))), ?_⟩
    refine ⟨_, rfl, p, L, 9, rfl, pl, h2, h64, by decide, by decide, fun k H1 k0 k9 e1 pl1 => ?_⟩
    have fin : ∀ {c : Cm} {t : Addr} {J : Hp}, c.ok → Kp p H J → Pool J p L → J t = none → Q (.ref t) (upd J t (.tup c.vals)) := fun ok kp pl nt =>
      q _ _ _ ok (kp.new (kp.none nt (pl.ne nt))) (pl.new nt) (kp.none nt (pl.ne nt)) upd_same
    refine ⟨_, rfl, rfl, _, rfl, ite2 (fun _ => ?_) (fun n0 => ?_)⟩
    · refine ⟨_, rfl, p, L, 19, rfl, pl1, h2, h64, by decide, by decide, fun r H2 r0 r1 e2 pl2 => ?_⟩
      refine ⟨_, _, rfl, rfl, small100 (n := 2) (by decide), fun t nt => ?_⟩
      exact fin (c := .go (r - 9)) (ok1 rfl rfl (by show (-9 : Int) ≤ r - 9; omega) (by show r - 9 ≤ (9 : Int); omega)) (e1.trans e2) pl2 nt
    refine ⟨_, rfl, rfl, _, rfl, ite2 (fun _ => ?_) (fun n1 => ?_)⟩
    · refine ⟨_, rfl, p, L, 3, rfl, pl1, h2, h64, by decide, by decide, fun r H2 r0 r1 e2 pl2 => ?_⟩
      refine ⟨_, _, rfl, rfl, small100 (n := 2) (by decide), fun t nt => ?_⟩
      exact fin (c := .turn (1 + r)) (ok1 rfl rfl (by show (1 : Int) ≤ 1 + r; omega) (by show 1 + r ≤ (3 : Int); omega)) (e1.trans e2) pl2 nt
    refine ⟨_, rfl, rfl, _, rfl, ite2 (fun _ => ?_) (fun n2 => ?_)⟩
    · refine ⟨_, rfl, p, L, 7, rfl, pl1, h2, h64, by decide, by decide, fun r H2 r0 r1 e2 pl2 => ?_⟩
      refine ⟨_, _, rfl, rfl, small100 (n := 2) (by decide), fun t nt => ?_⟩
      exact fin (c := .scale (r - 3)) (ok1 rfl rfl (by show (-3 : Int) ≤ r - 3; omega) (by show r - 3 ≤ (3 : Int); omega)) (e1.trans e2) pl2 nt
    have n0 := dec_int n0
    have n1 := dec_int n1
    have n2 := dec_int n2
    refine ⟨_, rfl, _, _, rfl, rfl, _, rfl, ite2 (fun h5 => ?_) (fun h5 => ?_)⟩
    · have h5 := of_decide_eq_true h5
      refine ⟨small100 (n := 2) (by decide), fun m nm => ?_⟩
      have nmp := pl1.ne nm
      have em : Kp p H (upd H1 m (.tup [.str "aim", .str "place"])) := e1.new (e1.none nm nmp)
      have plm : Pool (upd H1 m (.tup [.str "aim", .str "place"])) p L := pl1.new nm
      have hm : (upd H1 m (.tup [.str "aim", .str "place"])) m = some (.tup [.str "aim", .str "place"]) := upd_same
      generalize upd H1 m (.tup [.str "aim", .str "place"]) = J at *
      rcases (show k = 3 ∨ k = 4 by omega) with rfl | rfl
      · refine ⟨_, rfl, _, _, rfl, rfl, m, _, _, _, rfl, rfl, SqT.of hm, at_of (j := 0) (by decide) rfl, ?_⟩
        refine ⟨_, rfl, p, L, 19, rfl, plm, h2, h64, by decide, by decide, fun r H2 r0 r1 e2 pl2 => ?_⟩
        refine ⟨_, _, rfl, rfl, _, rfl, p, L, 19, rfl, pl2, h2, h64, by decide, by decide, fun r' H3 r0' r1' e3 pl3 => ?_⟩
        refine ⟨_, _, rfl, rfl, small100 (n := 3) (by decide), fun t nt => ?_⟩
        exact fin (c := .aim (r - 9) (r' - 9)) (ok2 (l := (-9, 9)) rfl rfl (by show (-9 : Int) ≤ r - 9; omega) (by show r - 9 ≤ (9 : Int); omega) (by show (-9 : Int) ≤ r' - 9; omega) (by show r' - 9 ≤ (9 : Int); omega)) (em.trans (e2.trans e3)) pl3 nt
      · refine ⟨_, rfl, _, _, rfl, rfl, m, _, _, _, rfl, rfl, SqT.of hm, at_of (j := 1) (by decide) rfl, ?_⟩
        refine ⟨_, rfl, p, L, 19, rfl, plm, h2, h64, by decide, by decide, fun r H2 r0 r1 e2 pl2 => ?_⟩
        refine ⟨_, _, rfl, rfl, _, rfl, p, L, 19, rfl, pl2, h2, h64, by decide, by decide, fun r' H3 r0' r1' e3 pl3 => ?_⟩
        refine ⟨_, _, rfl, rfl, small100 (n := 3) (by decide), fun t nt => ?_⟩
        exact fin (c := .place (r - 9) (r' - 9)) (ok2 (l := (-9, 9)) rfl rfl (by show (-9 : Int) ≤ r - 9; omega) (by show r - 9 ≤ (9 : Int); omega) (by show (-9 : Int) ≤ r' - 9; omega) (by show r' - 9 ≤ (9 : Int); omega)) (em.trans (e2.trans e3)) pl3 nt
    · have h5 : ¬ k < 5 := fun h => h5 (decide_eq_true h)
      refine ⟨small100 (n := 4) (by decide), fun m nm => ?_⟩
      have nmp := pl1.ne nm
      have em : Kp p H (upd H1 m (.tup [.str "mirror", .str "mark", .str "return", .str "exchange"])) := e1.new (e1.none nm nmp)
      have plm : Pool (upd H1 m (.tup [.str "mirror", .str "mark", .str "return", .str "exchange"])) p L := pl1.new nm
      have hm : (upd H1 m (.tup [.str "mirror", .str "mark", .str "return", .str "exchange"])) m = some (.tup [.str "mirror", .str "mark", .str "return", .str "exchange"]) := upd_same
      generalize upd H1 m (.tup [.str "mirror", .str "mark", .str "return", .str "exchange"]) = J at *
      rcases (show k = 5 ∨ k = 6 ∨ k = 7 ∨ k = 8 by omega) with rfl | rfl | rfl | rfl
      · refine ⟨_, rfl, _, _, rfl, rfl, m, _, _, _, rfl, rfl, SqT.of hm, at_of (j := 0) (by decide) rfl, small100 (n := 1) (by decide), fun t nt => ?_⟩
        exact fin (c := .mirror) (ok0 rfl) em plm nt
      · refine ⟨_, rfl, _, _, rfl, rfl, m, _, _, _, rfl, rfl, SqT.of hm, at_of (j := 1) (by decide) rfl, small100 (n := 1) (by decide), fun t nt => ?_⟩
        exact fin (c := .mark) (ok0 rfl) em plm nt
      · refine ⟨_, rfl, _, _, rfl, rfl, m, _, _, _, rfl, rfl, SqT.of hm, at_of (j := 2) (by decide) rfl, small100 (n := 1) (by decide), fun t nt => ?_⟩
        exact fin (c := .ret) (ok0 rfl) em plm nt
      · refine ⟨_, rfl, _, _, rfl, rfl, m, _, _, _, rfl, rfl, SqT.of hm, at_of (j := 3) (by decide) rfl, small100 (n := 1) (by decide), fun t nt => ?_⟩
        exact fin (c := .exch) (ok0 rfl) em plm nt

def Cm.k (c : Cm) : Int := c.nums.headD 0
def sp__law_move (K : PySem.W.Frag) : Sp := fun vs H Q _ => ∃ (a b : Addr) (ps : List Int) (c : Cm), vs = [.ref a, .ref b] ∧ H a = some (.tup (ps.map V.int)) ∧ ps.length = 6 ∧ H b = some (.tup c.vals) ∧ c.ok ∧
  ∀ (q : Addr) (H' : Hp), Same H H' → H q = none → H' q = some (.tup ((c.mv ps).map V.int)) → Q (.ref q) H'
set_option maxHeartbeats 4000000 in
theorem ok__law_move (T : Top w K mg) : FnOk P w K mg base CX0 1 T.a__law_move T.d__law_move ["_law_begin", "_law_command"] (sp__law_move K) := by
  refine T.F__law_move.ok sc__law_move (fun vs H Q E h => ?_) (fun cdv A outer s H vs Q E hr h => ?_)
  · obtain ⟨a, b, ps, c, rfl, _⟩ := h
    rfl
  · obtain ⟨a, b, ps, c, rfl, ha, hl, hb, hok, q⟩ := h
    refine ⟨_, (pss_cons (ps_asg (pv 0) (pg_tup rfl (pgs_cons (pg_name (i := 2) sc__law_move.nd rfl (Or.inl rfl)) (pgs_cons (pg_name (i := 3) sc__law_move.nd rfl (Or.inl rfl)) (pgs_cons (pg_name (i := 4) sc__law_move.nd rfl (Or.inl rfl)) (pgs_cons (pg_name (i := 5) sc__law_move.nd rfl (Or.inl rfl)) (pgs_cons (pg_name (i := 6) sc__law_move.nd rfl (Or.inl rfl)) (pgs_cons (pg_name (i := 7) sc__law_move.nd rfl (Or.inl rfl)) pgs_nil))))))))
      (pss_cons (ps_set (i := 8) sc__law_move.nd rfl (Or.inl rfl) (pe_ix (k_ixT K) (pv 1) pe_int (fun _ _ => rfl)))
      (pss_cons (ps_set (i := 9) sc__law_move.nd rfl (Or.inl rfl) (pe_ix (k_ixT K) (pe_op op_catT (pv 1) (pe_tup (pa_cons pe_int pa_nil))) pe_int (fun _ _ => rfl)))
      (pss_cons (ps_if (pt_cmpR op_eq (pv 8) pe_str (nomark _)) (pss_one (ps_ret (pe_tup (pa_cons (pe_op op_add (pv 2) (pe_op op_mul (pv 9) (pv 4))) (pa_cons (pe_op op_add (pv 3) (pe_op op_mul (pv 9) (pv 5))) (pa_cons (pv 4) (pa_cons (pv 5) (pa_cons (pv 6) (pa_cons (pv 7) pa_nil))))))))) pss_nil)
      (pss_cons (ps_if (pt_cmpR op_eq (pv 8) pe_str (nomark _)) (pss_cons (ps_set (i := 10) sc__law_move.nd rfl (Or.inl rfl) (pe_ix (k_ixL K) (pe_lst (pa_cons (pe_tup (pa_cons (pe_un un_neg (pv 5)) (pa_cons (pv 4) pa_nil))) (pa_cons (pe_tup (pa_cons (pe_un un_neg (pv 4)) (pa_cons (pe_un un_neg (pv 5)) pa_nil))) (pa_cons (pe_tup (pa_cons (pv 5) (pa_cons (pe_un un_neg (pv 4)) pa_nil))) pa_nil)))) (pe_op op_sub (pv 9) pe_int) (fun _ _ => rfl)))
        (pss_one (ps_ret (pe_tup (pa_cons (pv 2) (pa_cons (pv 3) (pa_cons (pe_ix (k_ixT K) (pv 10) pe_int (fun _ _ => rfl)) (pa_cons (pe_ix (k_ixT K) (pv 10) pe_int (fun _ _ => rfl)) (pa_cons (pv 6) (pa_cons (pv 7) pa_nil)))))))))) pss_nil)
      (pss_cons (ps_if (pt_cmpR op_eq (pv 8) pe_str (nomark _)) (pss_one (ps_ret (pe_tup (pa_cons (pv 2) (pa_cons (pv 3) (pa_cons (pv 4) (pa_cons (pe_un un_neg (pv 5)) (pa_cons (pv 6) (pa_cons (pv 7) pa_nil))))))))) pss_nil)
      (pss_cons (ps_if (pt_cmpR op_eq (pv 8) pe_str (nomark _)) (pss_one (ps_ret (pe_tup (pa_cons (pv 2) (pa_cons (pv 3) (pa_cons (pe_op op_mul (pv 4) (pv 9)) (pa_cons (pe_op op_mul (pv 5) (pv 9)) (pa_cons (pv 6) (pa_cons (pv 7) pa_nil))))))))) pss_nil)
      (pss_cons (ps_if (pt_cmpR op_eq (pv 8) pe_str (nomark _)) (pss_one (ps_ret (pe_tup (pa_cons (pv 2) (pa_cons (pv 3) (pa_cons (pv 9) (pa_cons (pe_ix (k_ixT K) (pv 1) pe_int (fun _ _ => rfl)) (pa_cons (pv 6) (pa_cons (pv 7) pa_nil))))))))) pss_nil)
      (pss_cons (ps_if (pt_cmpR op_eq (pv 8) pe_str (nomark _)) (pss_one (ps_ret (pe_tup (pa_cons (pv 9) (pa_cons (pe_ix (k_ixT K) (pv 1) pe_int (fun _ _ => rfl)) (pa_cons (pv 4) (pa_cons (pv 5) (pa_cons (pv 6) (pa_cons (pv 7) pa_nil))))))))) pss_nil)
      (pss_cons (ps_if (pt_cmpR op_eq (pv 8) pe_str (nomark _)) (pss_one (ps_ret (pe_tup (pa_cons (pv 2) (pa_cons (pv 3) (pa_cons (pv 4) (pa_cons (pv 5) (pa_cons (pv 2) (pa_cons (pv 3) pa_nil))))))))) pss_nil)
      (pss_cons (ps_if (pt_cmpR op_eq (pv 8) pe_str (nomark _)) (pss_one (ps_ret (pe_tup (pa_cons (pv 6) (pa_cons (pv 7) (pa_cons (pv 4) (pa_cons (pv 5) (pa_cons (pv 6) (pa_cons (pv 7) pa_nil))))))))) pss_nil)
      (pss_one (ps_ret (pe_tup (pa_cons (pv 6) (pa_cons (pv 7) (pa_cons (pv 4) (pa_cons (pv 5) (pa_cons (pv 2) (pa_cons (pv 3) pa_nil)))))))))))))))))))), ?_⟩
    obtain ⟨x, y, u, v, p, r, rfl⟩ := list6' hl
    refine ⟨_, rfl, a, _, rfl, SqT.of ha, rfl, _, _, rfl, _, _, rfl, _, _, rfl, _, _, rfl, _, _, rfl, _, _, rfl, rfl, ?_⟩
    refine ⟨_, rfl, b, _, 0, _, rfl, rfl, SqT.of hb, atI_nat (j := 0) rfl, ?_⟩
    have hk : (c.vals ++ [V.int 0])[1]? = some (.int c.k) := by cases c <;> rfl
    have hcl : c.vals.length ≤ 3 := by cases c <;> simp [Cm.vals, Cm.nums]
    refine ⟨_, rfl, small100 (n := 1) (by decide), fun z nz => ?_⟩
    have s1 := same_upd (o := .tup [.int 0]) nz
    have hz : (upd H z (.tup [.int 0])) z = some (.tup [.int 0]) := upd_same
    generalize upd H z (.tup [.int 0]) = H1 at *
    refine ⟨b, z, c.vals, [.int 0], rfl, rfl, SqT.of (s1 _ _ hb), SqT.of hz, (fun e => nomatch e), small100 (n := c.vals.length + 1) (by omega), (fun e => nomatch e), fun _ o no => ?_⟩
    have s2 := same_upd (o := .tup (c.vals ++ [.int 0])) no
    have ho : (upd H1 o (.tup (c.vals ++ [.int 0]))) o = some (.tup (c.vals ++ [.int 0])) := upd_same
    generalize upd H1 o (.tup (c.vals ++ [.int 0])) = H2 at *
    refine ⟨o, _, 1, _, rfl, rfl, SqT.of ho, atI_nat (j := 1) hk, ?_⟩
    have s02 := s1.trans s2
    have hb2 := s02 _ _ hb
    have lim : ∀ {i : Nat} {z : Int} {l : Int × Int}, c.nums[i]? = some z → c.lims[i]? = some l → l.1 ≤ z ∧ z ≤ l.2 := fun g1 g2 => hok _ _ _ g1 g2
    have done : ∀ {q : Addr} {J : Hp} {l : List Int}, Same H J → J q = none → l = c.mv [x, y, u, v, p, r] → Same H (upd J q (.tup (l.map V.int))) ∧ H q = none ∧ (upd J q (.tup (l.map V.int))) q = some (.tup ((c.mv [x, y, u, v, p, r]).map V.int)) := fun s n e => ⟨same_new s (s.free n), s.free n, by rw [upd_same, e]⟩
    cases c with
    | go k =>
      have h1 := lim (i := 0) rfl rfl
      dsimp only at h1
      have ek : (Cm.go k).k = k := rfl
      rw [ek] at *
      refine ⟨_, rfl, rfl, _, rfl, iteP rfl ?_⟩
      refine ⟨_, rfl, _, rfl, _, rfl, _, _, rfl, rfl, .inl ⟨by omega, by omega⟩, _, _, rfl, rfl, _, rfl, _, rfl, _, rfl, _, _, rfl, rfl, .inl ⟨by omega, by omega⟩, _, _, rfl, rfl, _, rfl, _, rfl, _, rfl, _, rfl, small100 (n := 6) (by decide), fun t nt => ?_⟩
      have d := done (l := Cm.mv (.go k) [x, y, u, v, p, r]) s02 nt (rfl)
      exact q t _ d.1 d.2.1 d.2.2
    | turn n =>
      have h1 := lim (i := 0) rfl rfl
      dsimp only at h1
      have ek : (Cm.turn n).k = n := rfl
      rw [ek] at *
      refine ⟨_, rfl, rfl, _, rfl, iteN (show ¬ V.str ("turn" : Str) = V.str ("go" : Str) by decide) ?_⟩
      refine ⟨_, rfl, rfl, _, rfl, iteP rfl ?_⟩
      refine ⟨_, rfl, _, rfl, _, rfl, small100 (n := 2) (by decide), fun t1 m1 => ?_⟩
      have j1 := same_upd (o := .tup [.int (-v), .int u]) m1
      have g1 : (upd H2 t1 (.tup [.int (-v), .int u])) t1 = some (.tup [.int (-v), .int u]) := upd_same
      generalize upd H2 t1 (.tup [.int (-v), .int u]) = J1 at *
      refine ⟨_, rfl, _, rfl, _, rfl, _, rfl, small100 (n := 2) (by decide), fun t2 m2 => ?_⟩
      have j2 := same_upd (o := .tup [.int (-u), .int (-v)]) m2
      have g2 : (upd J1 t2 (.tup [.int (-u), .int (-v)])) t2 = some (.tup [.int (-u), .int (-v)]) := upd_same
      generalize upd J1 t2 (.tup [.int (-u), .int (-v)]) = J2 at *
      refine ⟨_, rfl, _, rfl, _, rfl, small100 (n := 2) (by decide), fun t3 m3 => ?_⟩
      have j3 := same_upd (o := .tup [.int v, .int (-u)]) m3
      have g3 : (upd J2 t3 (.tup [.int v, .int (-u)])) t3 = some (.tup [.int v, .int (-u)]) := upd_same
      generalize upd J2 t3 (.tup [.int v, .int (-u)]) = J3 at *
      refine ⟨small100 (n := 3) (by decide), fun l ml => ?_⟩
      have j4 := same_upd (o := .lst [.ref t1, .ref t2, .ref t3]) ml
      have gl : (upd J3 l (.lst [.ref t1, .ref t2, .ref t3])) l = some (.lst [.ref t1, .ref t2, .ref t3]) := upd_same
      generalize upd J3 l (.lst [.ref t1, .ref t2, .ref t3]) = J4 at *
      have g3 := j4 _ _ g3
      have g2 := j4 _ _ (j3 _ _ g2)
      have g1 := j4 _ _ (j3 _ _ (j2 _ _ g1))
      have s06 := s02.trans (j1.trans (j2.trans (j3.trans j4)))
      rcases (show n = 1 ∨ n = 2 ∨ n = 3 by omega) with rfl | rfl | rfl
      · refine ⟨_, rfl, _, _, rfl, rfl, l, _, _, _, rfl, rfl, SqL.of gl, at_of (j := 0) (by decide) rfl, ?_⟩
        refine ⟨_, rfl, _, rfl, _, rfl, t1, _, 0, _, rfl, rfl, SqT.of g1, atI_nat (j := 0) rfl, _, rfl, t1, _, 1, _, rfl, rfl, SqT.of g1, atI_nat (j := 1) rfl, _, rfl, _, rfl, small100 (n := 6) (by decide), fun t nt => ?_⟩
        have d := done (l := [x, y, -v, u, p, r]) s06 nt (rfl)
        exact q t _ d.1 d.2.1 d.2.2
      · refine ⟨_, rfl, _, _, rfl, rfl, l, _, _, _, rfl, rfl, SqL.of gl, at_of (j := 1) (by decide) rfl, ?_⟩
        refine ⟨_, rfl, _, rfl, _, rfl, t2, _, 0, _, rfl, rfl, SqT.of g2, atI_nat (j := 0) rfl, _, rfl, t2, _, 1, _, rfl, rfl, SqT.of g2, atI_nat (j := 1) rfl, _, rfl, _, rfl, small100 (n := 6) (by decide), fun t nt => ?_⟩
        have d := done (l := [x, y, -u, -v, p, r]) s06 nt (rfl)
        exact q t _ d.1 d.2.1 d.2.2
      · refine ⟨_, rfl, _, _, rfl, rfl, l, _, _, _, rfl, rfl, SqL.of gl, at_of (j := 2) (by decide) rfl, ?_⟩
        refine ⟨_, rfl, _, rfl, _, rfl, t3, _, 0, _, rfl, rfl, SqT.of g3, atI_nat (j := 0) rfl, _, rfl, t3, _, 1, _, rfl, rfl, SqT.of g3, atI_nat (j := 1) rfl, _, rfl, _, rfl, small100 (n := 6) (by decide), fun t nt => ?_⟩
        have d := done (l := [x, y, v, -u, p, r]) s06 nt (by show [x, y, v, -u, p, r] = [x, y, -(-v), -u, p, r]; rw [Int.neg_neg])
        exact q t _ d.1 d.2.1 d.2.2
    | mirror =>
      refine ⟨_, rfl, rfl, _, rfl, iteN (show ¬ V.str ("mirror" : Str) = V.str ("go" : Str) by decide) ?_⟩
      refine ⟨_, rfl, rfl, _, rfl, iteN (show ¬ V.str ("mirror" : Str) = V.str ("turn" : Str) by decide) ?_⟩
      refine ⟨_, rfl, rfl, _, rfl, iteP rfl ?_⟩
      refine ⟨_, rfl, _, rfl, _, rfl, _, rfl, _, rfl, _, rfl, _, rfl, small100 (n := 6) (by decide), fun t nt => ?_⟩
      have d := done (l := Cm.mv (.mirror) [x, y, u, v, p, r]) s02 nt (rfl)
      exact q t _ d.1 d.2.1 d.2.2
    | scale k =>
      have h1 := lim (i := 0) rfl rfl
      dsimp only at h1
      have ek : (Cm.scale k).k = k := rfl
      rw [ek] at *
      refine ⟨_, rfl, rfl, _, rfl, iteN (show ¬ V.str ("scale" : Str) = V.str ("go" : Str) by decide) ?_⟩
      refine ⟨_, rfl, rfl, _, rfl, iteN (show ¬ V.str ("scale" : Str) = V.str ("turn" : Str) by decide) ?_⟩
      refine ⟨_, rfl, rfl, _, rfl, iteN (show ¬ V.str ("scale" : Str) = V.str ("mirror" : Str) by decide) ?_⟩
      refine ⟨_, rfl, rfl, _, rfl, iteP rfl ?_⟩
      refine ⟨_, rfl, _, rfl, _, rfl, _, rfl, _, _, rfl, rfl, .inr ⟨by omega, by omega⟩, _, rfl, _, rfl, _, _, rfl, rfl, .inr ⟨by omega, by omega⟩, _, rfl, _, rfl, small100 (n := 6) (by decide), fun t nt => ?_⟩
      have d := done (l := [x, y, u * k, v * k, p, r]) s02 nt (by rw [Int.mul_comm u k, Int.mul_comm v k]; rfl)
      exact q t _ d.1 d.2.1 d.2.2
    | aim a1 a2 =>
      refine ⟨_, rfl, rfl, _, rfl, iteN (show ¬ V.str ("aim" : Str) = V.str ("go" : Str) by decide) ?_⟩
      refine ⟨_, rfl, rfl, _, rfl, iteN (show ¬ V.str ("aim" : Str) = V.str ("turn" : Str) by decide) ?_⟩
      refine ⟨_, rfl, rfl, _, rfl, iteN (show ¬ V.str ("aim" : Str) = V.str ("mirror" : Str) by decide) ?_⟩
      refine ⟨_, rfl, rfl, _, rfl, iteN (show ¬ V.str ("aim" : Str) = V.str ("scale" : Str) by decide) ?_⟩
      refine ⟨_, rfl, rfl, _, rfl, iteP rfl ?_⟩
      refine ⟨_, rfl, _, rfl, _, rfl, _, rfl, b, _, 2, _, rfl, rfl, SqT.of hb2, atI_nat (j := 2) rfl, _, rfl, _, rfl, small100 (n := 6) (by decide), fun t nt => ?_⟩
      have d := done (l := Cm.mv (.aim a1 a2) [x, y, u, v, p, r]) s02 nt (rfl)
      exact q t _ d.1 d.2.1 d.2.2
    | place a1 a2 =>
      refine ⟨_, rfl, rfl, _, rfl, iteN (show ¬ V.str ("place" : Str) = V.str ("go" : Str) by decide) ?_⟩
      refine ⟨_, rfl, rfl, _, rfl, iteN (show ¬ V.str ("place" : Str) = V.str ("turn" : Str) by decide) ?_⟩
      refine ⟨_, rfl, rfl, _, rfl, iteN (show ¬ V.str ("place" : Str) = V.str ("mirror" : Str) by decide) ?_⟩
      refine ⟨_, rfl, rfl, _, rfl, iteN (show ¬ V.str ("place" : Str) = V.str ("scale" : Str) by decide) ?_⟩
      refine ⟨_, rfl, rfl, _, rfl, iteN (show ¬ V.str ("place" : Str) = V.str ("aim" : Str) by decide) ?_⟩
      refine ⟨_, rfl, rfl, _, rfl, iteP rfl ?_⟩
      refine ⟨_, rfl, _, rfl, b, _, 2, _, rfl, rfl, SqT.of hb2, atI_nat (j := 2) rfl, _, rfl, _, rfl, _, rfl, _, rfl, small100 (n := 6) (by decide), fun t nt => ?_⟩
      have d := done (l := Cm.mv (.place a1 a2) [x, y, u, v, p, r]) s02 nt (rfl)
      exact q t _ d.1 d.2.1 d.2.2
    | mark =>
      refine ⟨_, rfl, rfl, _, rfl, iteN (show ¬ V.str ("mark" : Str) = V.str ("go" : Str) by decide) ?_⟩
      refine ⟨_, rfl, rfl, _, rfl, iteN (show ¬ V.str ("mark" : Str) = V.str ("turn" : Str) by decide) ?_⟩
      refine ⟨_, rfl, rfl, _, rfl, iteN (show ¬ V.str ("mark" : Str) = V.str ("mirror" : Str) by decide) ?_⟩
      refine ⟨_, rfl, rfl, _, rfl, iteN (show ¬ V.str ("mark" : Str) = V.str ("scale" : Str) by decide) ?_⟩
      refine ⟨_, rfl, rfl, _, rfl, iteN (show ¬ V.str ("mark" : Str) = V.str ("aim" : Str) by decide) ?_⟩
      refine ⟨_, rfl, rfl, _, rfl, iteN (show ¬ V.str ("mark" : Str) = V.str ("place" : Str) by decide) ?_⟩
      refine ⟨_, rfl, rfl, _, rfl, iteP rfl ?_⟩
      refine ⟨_, rfl, _, rfl, _, rfl, _, rfl, _, rfl, _, rfl, small100 (n := 6) (by decide), fun t nt => ?_⟩
      have d := done (l := Cm.mv (.mark) [x, y, u, v, p, r]) s02 nt (rfl)
      exact q t _ d.1 d.2.1 d.2.2
    | ret =>
      refine ⟨_, rfl, rfl, _, rfl, iteN (show ¬ V.str ("return" : Str) = V.str ("go" : Str) by decide) ?_⟩
      refine ⟨_, rfl, rfl, _, rfl, iteN (show ¬ V.str ("return" : Str) = V.str ("turn" : Str) by decide) ?_⟩
      refine ⟨_, rfl, rfl, _, rfl, iteN (show ¬ V.str ("return" : Str) = V.str ("mirror" : Str) by decide) ?_⟩
      refine ⟨_, rfl, rfl, _, rfl, iteN (show ¬ V.str ("return" : Str) = V.str ("scale" : Str) by decide) ?_⟩
      refine ⟨_, rfl, rfl, _, rfl, iteN (show ¬ V.str ("return" : Str) = V.str ("aim" : Str) by decide) ?_⟩
      refine ⟨_, rfl, rfl, _, rfl, iteN (show ¬ V.str ("return" : Str) = V.str ("place" : Str) by decide) ?_⟩
      refine ⟨_, rfl, rfl, _, rfl, iteN (show ¬ V.str ("return" : Str) = V.str ("mark" : Str) by decide) ?_⟩
      refine ⟨_, rfl, rfl, _, rfl, iteP rfl ?_⟩
      refine ⟨_, rfl, _, rfl, _, rfl, _, rfl, _, rfl, _, rfl, small100 (n := 6) (by decide), fun t nt => ?_⟩
      have d := done (l := Cm.mv (.ret) [x, y, u, v, p, r]) s02 nt (rfl)
      exact q t _ d.1 d.2.1 d.2.2
    | exch =>
      refine ⟨_, rfl, rfl, _, rfl, iteN (show ¬ V.str ("exchange" : Str) = V.str ("go" : Str) by decide) ?_⟩
      refine ⟨_, rfl, rfl, _, rfl, iteN (show ¬ V.str ("exchange" : Str) = V.str ("turn" : Str) by decide) ?_⟩
      refine ⟨_, rfl, rfl, _, rfl, iteN (show ¬ V.str ("exchange" : Str) = V.str ("mirror" : Str) by decide) ?_⟩
      refine ⟨_, rfl, rfl, _, rfl, iteN (show ¬ V.str ("exchange" : Str) = V.str ("scale" : Str) by decide) ?_⟩
      refine ⟨_, rfl, rfl, _, rfl, iteN (show ¬ V.str ("exchange" : Str) = V.str ("aim" : Str) by decide) ?_⟩
      refine ⟨_, rfl, rfl, _, rfl, iteN (show ¬ V.str ("exchange" : Str) = V.str ("place" : Str) by decide) ?_⟩
      refine ⟨_, rfl, rfl, _, rfl, iteN (show ¬ V.str ("exchange" : Str) = V.str ("mark" : Str) by decide) ?_⟩
      refine ⟨_, rfl, rfl, _, rfl, iteN (show ¬ V.str ("exchange" : Str) = V.str ("return" : Str) by decide) ?_⟩
      refine ⟨_, rfl, _, rfl, _, rfl, _, rfl, _, rfl, _, rfl, small100 (n := 6) (by decide), fun t nt => ?_⟩
      have d := done (l := Cm.mv (.exch) [x, y, u, v, p, r]) s02 nt (rfl)
      exact q t _ d.1 d.2.1 d.2.2

--SPLIT
def sp__law_is_integer (K : PySem.W.Frag) : Sp := fun vs H Q _ => ∃ z : Int, vs = [.int z] ∧ ∀ H', Same H H' → Q (.bl true) H'
theorem list6 {ps : List Int} (h : ps.length = 6) : [ps.getD 0 0, ps.getD 1 0, ps.getD 2 0, ps.getD 3 0, ps.getD 4 0, ps.getD 5 0] = ps := by
  match ps, h with
  | [a, b, c, d, e, f], _ => rfl
def sp__law_pen (K : PySem.W.Frag) : Sp := fun vs H Q _ => ∃ (p : Addr) (L : Nat), vs = [.ref p] ∧ Pool H p L ∧ 2 ≤ L ∧ L ≤ 64 ∧
  ∀ (q : Addr) (ps : List Int) (H' : Hp), ps.length = 6 → (∀ n ∈ ps, Bd n) → Kp p H H' → Pool H' p L → H q = none → H' q = some (.tup (ps.map V.int)) → Q (.ref q) H'
theorem ok__law_pen (T : Top w K mg) : FnOk P w K mg base CX0 3 T.a__law_pen T.d__law_pen ["_law_pool_here"] (sp__law_pen K) := by
  refine T.F__law_pen.ok sc__law_pen (fun vs H Q E h => ?_) (fun cdv A outer s H vs Q E hr h => ?_)
  · obtain ⟨p, L, rfl, _⟩ := h
    rfl
  · obtain ⟨p, L, rfl, pl, h2, h64, q⟩ := h
    refine ⟨_, (pss_cons (ps_setLc (i := 1) (own := [("_law_k", 2)]) (g := (gName 2)) (tt := tYes) rfl sc__law_pen.nd rfl rfl (sw_true rfl rfl rfl (by decide +kernel)) (pi_range1 (by rfl) T.z_range (pa_cons pe_int pa_nil)) (blkOk_by (N := N__law_pen) (sc := defScope s__law_pen) (by decide +kernel)) (fun _ _ _ _ _ => (pg_name (i := 2) sc__law_pen.nd rfl (Or.inl rfl))) (fun _ _ _ _ _ => pts_nil) (fun _ _ _ _ _ => (pe_call (ok__law_number T) hr (by rfl) T.g__law_number T.F__law_number.kp (b__law_number T) .nil pass0 (pa_cons (pv 0) pa_nil))))
      (pss_one (ps_ret (pe_tup (pa_cons (pe_ix (k_ixL K) (pv 1) pe_int (fun _ _ => rfl)) (pa_cons (pe_ix (k_ixL K) (pv 1) pe_int (fun _ _ => rfl)) (pa_cons (pe_ix (k_ixL K) (pv 1) pe_int (fun _ _ => rfl)) (pa_cons (pe_ix (k_ixL K) (pv 1) pe_int (fun _ _ => rfl)) (pa_cons (pe_ix (k_ixL K) (pv 1) pe_int (fun _ _ => rfl)) (pa_cons (pe_ix (k_ixL K) (pv 1) pe_int (fun _ _ => rfl)) pa_nil)))))))))), ?_⟩
    refine ⟨6, rfl, by decide, by decide, fun D nD => ?_⟩
    have hDp : D ≠ p := pl.ne nD
    refine lc_range (n := 6) (fun i H' => ∃ ps : List Int, ps.length = i ∧ (∀ n ∈ ps, Bd n) ∧ Kp p H H' ∧ Pool H' p L ∧ H' D = some (.lst (ps.map V.int))) ⟨[], rfl, (by intro n hn; cases hn), (Kp.refl p H).new nD, pl.new nD, upd_same⟩ (fun i H' hi h => ?_) (fun H1 h => ?_)
    · obtain ⟨ps, hl, hb, k, pl1, hD⟩ := h
      refine ⟨rfl, _, rfl, p, L, rfl, pl1, h2, h64, fun r J br kJ plJ => ⟨_, kJ _ _ hDp hD, ?_, ps ++ [r], by rw [List.length_append, hl]; rfl, ?_, (k.trans kJ).new nD, plJ.keep hDp, ?_⟩⟩
      · rw [len_map, hl]
        exact small1000 (by omega)
      · intro n hn
        rcases List.mem_append.mp hn with hn | hn
        · exact hb n hn
        · rw [List.mem_singleton.mp hn]
          exact br
      · rw [upd_same, List.map_append]
        rfl
    · obtain ⟨ps, hl, hb, k, pl1, hD⟩ := h
      have at6 : ∀ {t : Nat} {z : Int}, z = (t : Int) → t < 6 → atI (ps.map V.int) z = some (.int (ps.getD t 0)) := fun e ht => at_nat e (by omega)
      have hd := SqL.of (K := K) hD
      refine ⟨_, rfl, D, _, _, _, rfl, rfl, hd, at6 (t := 0) rfl (by decide), _, rfl, D, _, _, _, rfl, rfl, hd, at6 (t := 1) rfl (by decide), _, rfl, D, _, _, _, rfl, rfl, hd, at6 (t := 2) rfl (by decide),
        _, rfl, D, _, _, _, rfl, rfl, hd, at6 (t := 3) rfl (by decide), _, rfl, D, _, _, _, rfl, rfl, hd, at6 (t := 4) rfl (by decide), _, rfl, D, _, _, _, rfl, rfl, hd, at6 (t := 5) rfl (by decide), small100 (n := 6) (by decide), fun t nt => ?_⟩
      have nt0 : H t = none := k.none nt (pl1.ne nt)
      refine q t ps _ hl hb (k.new nt0) (pl1.new nt) nt0 ?_
      rw [upd_same]
      exact congrArg (fun z => some (HO.tup (z.map V.int))) (list6 hl)

def sp_vector (K : PySem.W.Frag) : Sp := fun vs H Q _ => ∃ (a : Addr) (ps : List Int), vs = [.ref a] ∧ H a = some (.tup (ps.map V.int)) ∧ ps.length = 6 ∧
  ∀ (q : Addr) (H' : Hp), Same H H' → H q = none → H' q = some (.lst ((1 :: ps).map V.int)) → Q (.ref q) H'
theorem ok_vector (T : Top w K mg) : FnOk P w K mg base CX0 3 T.a_vector T.d_vector ["pen"] (sp_vector K) := by
  refine T.F_vector.ok sc_vector (fun vs H Q E h => ?_) (fun cdv A outer s H vs Q E hr h => ?_)
  · obtain ⟨a, ps, rfl, _⟩ := h
    rfl
  · obtain ⟨a, ps, rfl, ha, hl, q⟩ := h
    refine ⟨_, (pss_cons (ps_if (pt_not (pt_val (pe_call (ok_is_pen T) hr (by rfl) T.g_is_pen T.F_is_pen.kp (b_is_pen T) .nil pass0 (pa_cons (pv 0) pa_nil)))) (pss_one ps_never) pss_nil)
      (pss_one (ps_ret (pe_lst (pa_cons pe_int (k_star K (pv 0) pa_nil)))))), ?_⟩
    refine ⟨_, rfl, a, ps, rfl, ha, hl, fun H1 s1 => ⟨true, rfl, ?_⟩⟩
    refine ⟨_, rfl, a, _, rfl, .inl (SqT.of (s1 _ _ ha)), ?_, fun p np => ?_⟩
    · simp only [List.length_cons, List.length_append, List.length_map, List.length_nil]
      exact small100 (by omega)
    · refine q p _ (same_new s1 (s1.free np)) (s1.free np) ?_
      rw [upd_same, List.append_nil]
      rfl

def S (n : Nat) (f : Nat → Int) : Int := ((List.range n).map f).sum
theorem S_zero (f : Nat → Int) : S 0 f = 0 := rfl
theorem sum_snoc (l : List Int) (z : Int) : (l ++ [z]).sum = l.sum + z := by
  rw [List.sum_append, List.sum_cons, List.sum_nil, Int.add_zero]
theorem S_succ (n : Nat) (f : Nat → Int) : S (n + 1) f = S n f + f n := by
  unfold S
  rw [List.range_succ, List.map_append, List.map_cons, List.map_nil, sum_snoc]
theorem S_congr {n : Nat} {f g : Nat → Int} (h : ∀ k, k < n → f k = g k) : S n f = S n g := by
  unfold S
  rw [List.map_congr_left fun k hk => h k (List.mem_range.mp hk)]
theorem S_left (n : Nat) (c : Int) (f : Nat → Int) : c * S n f = S n fun k => c * f k := by
  induction n with
  | zero => rw [S_zero, S_zero, Int.mul_zero]
  | succ n ih => rw [S_succ, S_succ, Int.mul_add, ih]
theorem S_right (n : Nat) (c : Int) (f : Nat → Int) : S n f * c = S n fun k => f k * c := by
  induction n with
  | zero => rw [S_zero, S_zero, Int.zero_mul]
  | succ n ih => rw [S_succ, S_succ, Int.add_mul, ih]
theorem S_add (n : Nat) (f g : Nat → Int) : (S n fun k => f k + g k) = S n f + S n g := by
  induction n with
  | zero => rfl
  | succ n ih =>
    rw [S_succ, S_succ, S_succ, ih]
    omega
theorem S_const0 (n : Nat) : (S n fun _ => 0) = 0 := by
  induction n with
  | zero => rfl
  | succ n ih => rw [S_succ, ih, Int.add_zero]
theorem S_comm (n m : Nat) (f : Nat → Nat → Int) : (S n fun i => S m fun j => f i j) = S m fun j => S n fun i => f i j := by
  induction n with
  | zero => rw [S_zero]; exact (S_const0 m).symm
  | succ n ih =>
    rw [S_succ, ih, ← S_add]
    refine S_congr fun j _ => ?_
    rw [S_succ]
theorem S_single {n i : Nat} {f : Nat → Int} (hi : i < n) (h : ∀ k, k < n → k ≠ i → f k = 0) : S n f = f i := by
  induction n with
  | zero => omega
  | succ n ih =>
    rw [S_succ]
    by_cases e : i = n
    · subst e
      rw [show S i f = 0 from (S_congr fun k hk => h k (by omega) (by omega)).trans (S_const0 i), Int.zero_add]
    · rw [ih (by omega) (fun k hk hne => h k (by omega) hne), h n (by omega) (by omega), Int.add_zero]
theorem S_bound {n b : Nat} {f : Nat → Int} (h : ∀ k, k < n → (f k).natAbs < 2 ^ b) : (S n f).natAbs ≤ n * 2 ^ b := by
  induction n with
  | zero => rw [S_zero]; simp
  | succ n ih =>
    rw [S_succ, Nat.succ_mul]
    have h1 := ih fun k hk => h k (by omega)
    have h2 := h n (by omega)
    have h3 := Int.natAbs_add_le (S n f) (f n)
    omega
/-- all numbers below 2 ^ b -/
def Bw (b : Nat) (ns : List Int) : Prop := ∀ t, (ns.getD t 0).natAbs < 2 ^ b
theorem Bw.mono {a b : Nat} {ns : List Int} (h : Bw a ns) (hab : a ≤ b) : Bw b ns := fun t => Nat.lt_of_lt_of_le (h t) (Nat.pow_le_pow_right (by decide) hab)
theorem getD_mem {ns : List Int} {P : Int → Prop} (h : ∀ n ∈ ns, P n) (h0 : P 0) (t : Nat) : P (ns.getD t 0) := by
  rw [List.getD_eq_getElem?_getD]
  cases e : ns[t]? with
  | none => exact h0
  | some n => exact h n (List.mem_of_getElem? e)
theorem Bd.bw {ns : List Int} (h : ∀ n ∈ ns, Bd n) : Bw 133 ns := fun t => by
  have := getD_mem h ⟨by decide, by decide⟩ t
  have h1 : -(2 ^ 133) < ns.getD t 0 := this.1
  have h2 : ns.getD t 0 < 2 ^ 133 := this.2
  generalize ns.getD t 0 = z at *
  omega
theorem bw_mul {a b : Nat} {x y : Int} (hx : x.natAbs < 2 ^ a) (hy : y.natAbs < 2 ^ b) (ha : 0 < a) (hb : 0 < b) (h : a + b ≤ 1000000) : CMulW x y := wide_mul hx hy ha hb h
def row (ns : List Int) (i : Nat) : List Int := (List.range 7).map fun t => ns.getD (7 * i + t) 0
def col (ns : List Int) (j : Nat) : List Int := (List.range 7).map fun t => ns.getD (7 * t + j) 0
theorem row_len (ns : List Int) (i : Nat) : (row ns i).length = 7 := by unfold row; rw [List.length_map, List.length_range]
theorem col_len (ns : List Int) (i : Nat) : (col ns i).length = 7 := by unfold col; rw [List.length_map, List.length_range]
theorem getD7 {g : Nat → Int} {t : Nat} : ((List.range 7).map g).getD t 0 = if t < 7 then g t else 0 := by
  rw [List.getD_eq_getElem?_getD, List.getElem?_map]
  by_cases ht : t < 7
  · rw [List.getElem?_range ht, if_pos ht]
    rfl
  · rw [List.getElem?_eq_none (by rw [List.length_range]; omega), if_neg ht]
    rfl
theorem row_bw {b : Nat} {ns : List Int} (h : Bw b ns) (i : Nat) : Bw b (row ns i) := fun t => by
  unfold row
  rw [getD7]
  split
  · exact h _
  · exact Nat.two_pow_pos b
theorem col_bw {b : Nat} {ns : List Int} (h : Bw b ns) (i : Nat) : Bw b (col ns i) := fun t => by
  unfold col
  rw [getD7]
  split
  · exact h _
  · exact Nat.two_pow_pos b
theorem cut_row {ns : List Int} {i : Nat} (hl : ns.length = 49) (hi : i < 7) : cutV (ns.map V.int) (some (7 * (i : Int))) (some (7 * (i : Int) + 7)) = (row ns i).map V.int := by
  have e1 : (7 * (i : Int)) = ((7 * i : Nat) : Int) := by omega
  have e2 : (7 * (i : Int) + 7) = ((7 * i + 7 : Nat) : Int) := by omega
  rw [e1, show (((7 * i : Nat) : Int) + 7) = ((7 * i + 7 : Nat) : Int) by omega]
  have h : cutV (ns.map V.int) (some ((7 * i : Nat) : Int)) (some ((7 * i + 7 : Nat) : Int)) = ((ns.map V.int).drop (7 * i)).take (7 * i + 7 - 7 * i) := by
    unfold cutV
    rw [HT.sIx_nat, HT.sIx_nat, Nat.min_eq_left (by rw [len_map]; omega), Nat.min_eq_left (by rw [len_map]; omega)]
  rw [h, ← List.map_drop, ← List.map_take]
  refine congrArg (List.map V.int) (List.ext_getElem? fun t => ?_)
  unfold row
  rw [List.getElem?_take, List.getElem?_drop, List.getElem?_map]
  by_cases ht : t < 7
  · rw [if_pos (by omega), List.getElem?_range ht, getD_get (by omega)]
    rfl
  · rw [if_neg (by omega), List.getElem?_eq_none (by rw [List.length_range]; omega)]
    rfl

/-! ### a list of lists -/
def Rows (H : Hp) (D : Addr) (ps : List Addr) (F : Nat → List Int) : Prop := H D = some (.lst (ps.map V.ref)) ∧ ∀ (j : Nat) (a : Addr), ps[j]? = some a → a ≠ D ∧ H a = some (.lst ((F j).map V.int))
theorem Rows.push {H' J : Hp} {D q : Addr} {ps : List Addr} {F : Nat → List Int} (h : Rows H' D ps F) (sm : Same H' J) (nq : H' q = none) (hq : J q = some (.lst ((F ps.length).map V.int))) : Rows (upd J D (.lst (ps.map V.ref ++ [.ref q]))) D (ps ++ [q]) F := by
  have nqD : q ≠ D := (ne_of_none h.1 nq).symm
  refine ⟨by rw [upd_same, List.map_append]; rfl, fun j a e => ?_⟩
  rw [List.getElem?_append] at e
  split at e
  · obtain ⟨n, h2⟩ := h.2 j a e
    exact ⟨n, by rw [upd_ne n]; exact sm _ _ h2⟩
  · rename_i hj
    have hj2 := (List.getElem?_eq_some_iff.mp e).1
    have ej : j = ps.length := by
      rw [List.length_cons, List.length_nil] at hj2
      omega
    subst ej
    rw [Nat.sub_self] at e
    cases e
    exact ⟨nqD, by rw [upd_ne nqD]; exact hq⟩
theorem Rows.same {H' J : Hp} {D : Addr} {ps : List Addr} {F : Nat → List Int} (h : Rows H' D ps F) (sm : Same H' J) : Rows J D ps F := ⟨sm _ _ h.1, fun j a e => ⟨(h.2 j a e).1, sm _ _ (h.2 j a e).2⟩⟩
theorem Rows.nil {H : Hp} {D : Addr} {F : Nat → List Int} : Rows (upd H D (.lst [])) D [] F := ⟨upd_same, fun j a e => by simp at e⟩
theorem getRef {ps : List Addr} {i : Nat} (h : i < ps.length) : ∃ a, ps[i]? = some a ∧ (ps.map V.ref)[i]? = some (.ref a) := ⟨ps[i], List.getElem?_eq_getElem h, by rw [List.getElem?_map, List.getElem?_eq_getElem h]; rfl⟩


--SPLIT
def Z6 : List Int := [0, 0, 0, 0, 0, 0]
def E6 (j : Nat) : List Int := (List.range 6).map fun i => if i = j then 1 else 0
def mcell (f : List Int → List Int) (i j : Nat) : Int := if j = 0 then (1 :: f Z6).getD i 0 else (1 :: f (E6 (j - 1))).getD i 0 - (1 :: f Z6).getD i 0
def matL (f : List Int → List Int) : List Int := (List.range 49).map fun t => mcell f (t / 7) (t % 7)
def colF (f : List Int → List Int) (j : Nat) : List Int := (List.range 7).map fun i => mcell f i j
theorem E6_len (j : Nat) : (E6 j).length = 6 := by unfold E6; rw [List.length_map, List.length_range]
theorem colF_len (f : List Int → List Int) (j : Nat) : (colF f j).length = 7 := by unfold colF; rw [List.length_map, List.length_range]
theorem list7 {ns : List Int} (h : ns.length = 7) : (List.range 7).map (fun t => ns.getD t 0) = ns := by
  match ns, h with
  | [a, b, c, d, e, f, g], _ => rfl
def sp_unit_pen (K : PySem.W.Frag) : Sp := fun vs H Q _ => ∃ (z : Int) (j : Nat), vs = [.int z] ∧ z = (j : Int) ∧
  ∀ (q : Addr) (H' : Hp), Same H H' → H q = none → H' q = some (.tup ((E6 j).map V.int)) → Q (.ref q) H'
theorem eqI_if (i j : Nat) (a b : Int) (ha : a = (i : Int)) (hb : b = (j : Int)) : (if decide (V.int a = V.int b) = true then (1 : Int) else 0) = if i = j then 1 else 0 := by
  subst ha hb
  by_cases e : i = j
  · subst e
    rw [decide_eq_true rfl, if_pos rfl, if_pos rfl]
  · rw [decide_eq_false (fun h => e (by have := V.int.inj h; omega)), if_neg Bool.false_ne_true, if_neg e]
theorem ok_unit_pen (T : Top w K mg) : FnOk P w K mg base CX0 1 T.a_unit_pen T.d_unit_pen ["at"] (sp_unit_pen K) := by
  refine T.F_unit_pen.ok sc_unit_pen (fun vs H Q E h => ?_) (fun cdv A outer s H vs Q E hr h => ?_)
  · obtain ⟨z, j, rfl, _⟩ := h
    rfl
  · obtain ⟨z, j, rfl, hz, q⟩ := h
    refine ⟨_, (pss_one (ps_ret (pe_callTy (k_tuple K) (by rfl) T.z_tuple bt_tuple (pa_cons (pe_lc (own := [("i", 1)]) (g := (gName 1)) (tt := tYes) rfl sc_unit_pen.nd (pi_range1 (by rfl) T.z_range (pa_cons pe_int pa_nil)) (blkOk_by (N := N_unit_pen) (sc := defScope s_unit_pen) (by decide +kernel)) (fun _ _ _ _ _ => (pg_name (i := 1) sc_unit_pen.nd rfl (Or.inl rfl))) (fun _ _ _ _ _ => pts_nil) (fun _ _ _ _ _ => (pe_callTy call_intB (by rfl) T.z_int bt_int (pa_cons (pe_cmpR op_eq (pv 1) (pv 0) (nomark _)) pa_nil)))) pa_nil)))), ?_⟩
    refine ⟨6, rfl, by decide, by decide, fun D nD => lc_range (n := 6) (fun i H' => Same H H' ∧ H' D = some (.lst (((List.range i).map fun i => if i = j then (1 : Int) else 0).map V.int))) ⟨same_upd nD, upd_same⟩ (fun i H' hi h => ?_) (fun H1 h => ?_)⟩
    · obtain ⟨sm, hD⟩ := h
      refine ⟨rfl, _, rfl, _, rfl, rfl, _, rfl, _, hD, ?_, same_new sm nD, ?_⟩
      · rw [List.length_map, List.length_map, List.length_range]
        exact small1000 (by omega)
      · rw [upd_same, eqI_if i j _ _ (by omega) hz]
        exact congrArg (fun z => some (HO.lst z)) (range_snoc (fun i => if i = j then (1 : Int) else 0) i)
    · obtain ⟨s1, hD⟩ := h
      exact ⟨D, _, rfl, SqL.of hD, fun t nt => q t _ (same_new s1 (s1.free nt)) (s1.free nt) upd_same⟩
theorem mv_len {c : Cm} {ps : List Int} (h : ps.length = 6) : (c.mv ps).length = 6 := by
  obtain ⟨x, y, u, v, p, q, rfl⟩ := list6' h
  cases c <;> rfl
/-! ### the matrix from the ends of the probes -/
def probeF (j : Nat) : List Int := if j = 0 then Z6 else E6 (j - 1)
def gcell (F : Nat → List Int) (i j : Nat) : Int := if j = 0 then (1 :: F 0).getD i 0 else (1 :: F j).getD i 0 - (1 :: F 0).getD i 0
def matG (F : Nat → List Int) : List Int := (List.range 49).map fun t => gcell F (t / 7) (t % 7)
def colG (F : Nat → List Int) (j : Nat) : List Int := (List.range 7).map fun i => gcell F i j
theorem colG_len (F : Nat → List Int) (j : Nat) : (colG F j).length = 7 := by unfold colG; rw [List.length_map, List.length_range]
theorem probeF_len (j : Nat) : (probeF j).length = 6 := by
  unfold probeF
  split
  · rfl
  · exact E6_len _
theorem matL_G (f : List Int → List Int) : matL f = matG fun j => f (probeF j) := by
  unfold matL matG
  refine List.map_congr_left fun t _ => ?_
  unfold mcell gcell probeF
  by_cases h : t % 7 = 0
  · rw [if_pos h, if_pos h]
    rfl
  · rw [if_neg h, if_neg h]
    dsimp only
    rw [if_neg h, if_pos rfl]
/-- a list of tuples -/
def TRows (H : Hp) (D : Addr) (ps : List Addr) (F : Nat → List Int) : Prop := H D = some (.lst (ps.map V.ref)) ∧ ∀ (j : Nat) (a : Addr), ps[j]? = some a → H a = some (.tup ((F j).map V.int))
theorem TRows.push {H' J : Hp} {D q : Addr} {ps : List Addr} {F : Nat → List Int} (h : TRows H' D ps F) (sm : Same H' J) (hq : J q = some (.tup ((F ps.length).map V.int))) : TRows (upd J D (.lst (ps.map V.ref ++ [.ref q]))) D (ps ++ [q]) F := by
  have hD := sm _ _ h.1
  have ne : ∀ {a : Addr} {xs : List V}, J a = some (.tup xs) → a ≠ D := fun h e => by
    rw [e, hD] at h
    cases h
  refine ⟨by rw [upd_same, List.map_append]; rfl, fun j a e => ?_⟩
  rw [List.getElem?_append] at e
  split at e
  · have h2 := sm _ _ (h.2 j a e)
    rw [upd_ne (ne h2)]
    exact h2
  · rename_i hj
    have hj2 := (List.getElem?_eq_some_iff.mp e).1
    have ej : j = ps.length := by
      rw [List.length_cons, List.length_nil] at hj2
      omega
    subst ej
    rw [Nat.sub_self] at e
    cases e
    rw [upd_ne (ne hq)]
    exact hq
theorem TRows.same {H' J : Hp} {D : Addr} {ps : List Addr} {F : Nat → List Int} (h : TRows H' D ps F) (sm : Same H' J) : TRows J D ps F := ⟨sm _ _ h.1, fun j a e => sm _ _ (h.2 j a e)⟩
theorem TRows.nil {H : Hp} {D : Addr} {F : Nat → List Int} : TRows (upd H D (.lst [])) D [] F := ⟨upd_same, fun j a e => by simp at e⟩
/-- one more in front, in a new list -/
theorem TRows.cons {H : Hp} {D q z : Addr} {ps : List Addr} {F G : Nat → List Int} (h : TRows H D ps F) (hz : H z = some (.tup ((G 0).map V.int))) (e : ∀ j, G (j + 1) = F j) (nq : H q = none) : TRows (upd H q (.lst ((z :: ps).map V.ref))) q (z :: ps) G := by
  refine ⟨upd_same, fun j a ea => ?_⟩
  cases j with
  | zero =>
    cases ea
    rw [upd_ne (ne_of_none hz nq)]
    exact hz
  | succ j =>
    have := h.2 j a ea
    rw [upd_ne (ne_of_none this nq), e]
    exact this
theorem Rows.cons {H : Hp} {D q z : Addr} {ps : List Addr} {F G : Nat → List Int} (h : Rows H D ps F) (hz : H z = some (.lst ((G 0).map V.int))) (e : ∀ j, G (j + 1) = F j) (nq : H q = none) : Rows (upd H q (.lst ((z :: ps).map V.ref))) q (z :: ps) G := by
  refine ⟨upd_same, fun j a ea => ?_⟩
  cases j with
  | zero =>
    cases ea
    have n := ne_of_none hz nq
    rw [upd_ne n]
    exact ⟨n, hz⟩
  | succ j =>
    have := (h.2 j a ea).2
    have n := ne_of_none this nq
    rw [upd_ne n, e]
    exact ⟨n, this⟩
def sp_probes : Sp := fun vs H Q _ => vs = [] ∧ ∀ (q : Addr) (ps : List Addr) (H' : Hp), Same H H' → H q = none → ps.length = 7 → TRows H' q ps probeF → Q (.ref q) H'
theorem ok_probes (T : Top w K mg) : FnOk P w K mg base CX0 2 T.a_probes T.d_probes [] sp_probes := by
  refine T.F_probes.ok sc_probes (fun vs H Q E h => ?_) (fun cdv A outer s H vs Q E hr h => ?_)
  · obtain ⟨rfl, _⟩ := h
    rfl
  · obtain ⟨rfl, q⟩ := h
    refine ⟨_, (pss_one (ps_ret (pe_lst (pa_cons (pe_tup (pa_cons pe_int (pa_cons pe_int (pa_cons pe_int (pa_cons pe_int (pa_cons pe_int (pa_cons pe_int pa_nil))))))) (k_star K (pe_lc (own := [("at", 0)]) (g := (gName 0)) (tt := tYes) rfl sc_probes.nd (pi_range1 (by rfl) T.z_range (pa_cons pe_int pa_nil)) (blkOk_by (N := N_probes) (sc := defScope s_probes) (by decide +kernel)) (fun _ _ _ _ _ => (pg_name (i := 0) sc_probes.nd rfl (Or.inl rfl))) (fun _ _ _ _ _ => pts_nil) (fun _ _ _ _ _ => (pe_call (ok_unit_pen T) hr (by rfl) T.g_unit_pen T.F_unit_pen.kp (b_unit_pen T) .nil pass0 (pa_cons (pv 0) pa_nil)))) pa_nil))))), ?_⟩
    refine ⟨small100 (n := 6) (by decide), fun z nz => ?_⟩
    have s1 := same_upd (o := .tup (Z6.map V.int)) nz
    have hz : (upd H z (.tup (Z6.map V.int))) z = some (.tup (Z6.map V.int)) := upd_same
    have ez : (HO.tup [V.int 0, .int 0, .int 0, .int 0, .int 0, .int 0]) = .tup (Z6.map V.int) := rfl
    rw [ez]
    generalize upd H z (.tup (Z6.map V.int)) = H1 at *
    refine ⟨6, rfl, by decide, by decide, fun D nD => lc_range (n := 6) (fun i J => Same H1 J ∧ ∃ ps : List Addr, ps.length = i ∧ TRows J D ps E6) ⟨same_upd nD, [], rfl, TRows.nil⟩ (fun i J hi h => ?_) (fun J h => ?_)⟩
    · obtain ⟨sm, ps, hl, hR⟩ := h
      refine ⟨rfl, _, rfl, _, i, rfl, by omega, fun e J2 t2 ne he => ?_⟩
      have hR2 := hR.same t2
      refine ⟨_, hR2.1, ?_, same_new (sm.trans t2) nD, ps ++ [e], by rw [List.length_append, hl]; rfl, hR.push t2 (by rw [hl]; exact he)⟩
      rw [List.length_map, hl]
      exact small1000 (by omega)
    · obtain ⟨sm, ps, hl, hR⟩ := h
      refine ⟨D, _, rfl, .inr (SqL.of hR.1), ?_, fun r nr => ?_⟩
      · rw [List.append_nil, List.length_cons, List.length_map, hl]
        exact small100 (by decide)
      · have s3 := s1.trans sm
        have hc := hR.cons (q := r) (z := z) (G := probeF) (sm _ _ hz) (fun j => by unfold probeF; rw [if_neg (by omega)]; rfl) nr
        rw [List.append_nil]
        exact q r (z :: ps) _ (same_new s3 (s3.free nr)) (s3.free nr) (by rw [List.length_cons, hl]) hc

def sp_matrix_from (K : PySem.W.Frag) : Sp := fun vs H Q _ => ∃ (D : Addr) (ps : List Addr) (F : Nat → List Int), vs = [.ref D] ∧ ps.length = 7 ∧ TRows H D ps F ∧ (∀ j, (F j).length = 6) ∧
  ∀ (q : Addr) (H' : Hp), Same H H' → H q = none → H' q = some (.lst ((matG F).map V.int)) → Q (.ref q) H'
theorem ok_matrix_from (T : Top w K mg) : FnOk P w K mg base CX0 4 T.a_matrix_from T.d_matrix_from ["ends"] (sp_matrix_from K) := by
  refine T.F_matrix_from.ok sc_matrix_from (fun vs H Q E h => ?_) (fun cdv A outer s H vs Q E hr h => ?_)
  · obtain ⟨D, ps, F, rfl, _⟩ := h
    rfl
  · obtain ⟨D, ps, F, rfl, hl, hR, hF, q⟩ := h
    refine ⟨_, (pss_cons (ps_asg (pe_lc (own := [("end", 4)]) (g := (gName 4)) (tt := tYes) rfl sc_matrix_from.nd (k_piL K (pv 0)) (blkOk_by (N := N_matrix_from) (sc := defScope s_matrix_from) (by decide +kernel)) (fun _ _ _ _ _ => (pg_name (i := 4) sc_matrix_from.nd rfl (Or.inl rfl))) (fun _ _ _ _ _ => pts_nil) (fun _ _ _ _ _ => (pe_call (ok_vector T) hr (by rfl) T.g_vector T.F_vector.kp (b_vector T) .nil pass0 (pa_cons (pv 4) pa_nil)))) (pg_starL K rfl (pg_name (i := 1) sc_matrix_from.nd rfl (Or.inr rfl)) (pg_name (i := 2) sc_matrix_from.nd rfl (Or.inl rfl))))
      (pss_cons (ps_set (i := 3) sc_matrix_from.nd rfl (Or.inr rfl) (pe_lst (pa_cons (pv 1) (k_star K (pe_lc (own := [("other", 7)]) (g := (gName 7)) (tt := tYes) rfl sc_matrix_from.nd (k_piL K (pv 2)) (blkOk_by (N := N_matrix_from) (sc := defScope s_matrix_from) (by decide +kernel)) (fun _ _ _ _ _ => (pg_name (i := 7) sc_matrix_from.nd rfl (Or.inl rfl))) (fun _ _ _ _ _ => pts_nil) (fun _ _ _ _ _ => (pe_lc (own := [("a", 8), ("b", 9)]) (g := (gTup K 2 (gCons (gName 8) (gCons (gName 9) gNil)))) (tt := tYes) rfl sc_matrix_from.nd (k_zip K (by rfl) T.z_zip (pa_cons (pv 7) (pa_cons (pv 1) pa_nil))) (blkOk_by (N := N_matrix_from) (sc := (relS ({ kind := .function, names := [(".0", .local), ("other", .local), ("zip", .globalImplicit), ("start", .free)], isGenerator := false, isCoroutine := false } : Scope) (defScope s_matrix_from))) (by decide +kernel)) (fun _ _ _ _ _ => (pg_tup rfl (pgs_cons (pg_name (i := 8) sc_matrix_from.nd rfl (Or.inl rfl)) (pgs_cons (pg_name (i := 9) sc_matrix_from.nd rfl (Or.inl rfl)) pgs_nil)))) (fun _ _ _ _ _ => pts_nil) (fun _ _ _ _ _ => (pe_op op_sub (pv 8) (pv 9)))))) pa_nil))))
      (pss_one (ps_ret (pe_lc2 (own := [("i", 5), ("column", 6)]) (vs1 := [6]) (g := (gName 5)) (g1 := (gName 6)) (tt := tYes) (tt1 := tYes) rfl sc_matrix_from.nd (pi_range1 (by rfl) T.z_range (pa_cons pe_int pa_nil)) (blkOk_by (N := N_matrix_from) (sc := defScope s_matrix_from) (by decide +kernel)) (by decide) (fun _ _ _ _ _ => (pg_name (i := 5) sc_matrix_from.nd rfl (Or.inl rfl))) (fun _ _ _ _ _ => pts_nil) (fun _ _ _ _ _ => (k_piL K (pv 3))) (fun _ _ _ _ _ => (pg_name (i := 6) sc_matrix_from.nd rfl (Or.inl rfl))) (fun _ _ _ _ _ => pts_nil) (fun _ _ _ _ _ => (pe_ix (k_ixL K) (pv 6) (pv 5) (fun _ _ => rfl)))))))), ?_⟩
    refine ⟨_, rfl, D, rfl, ⟨_, SqL.of hR.1⟩, fun D2 nD2 => ?_⟩
    refine lc_list (xs := ps.map V.ref) (fun j J => Same H J ∧ ∃ es : List Addr, es.length = j ∧ Rows J D2 es fun j => 1 :: F j) ⟨same_upd nD2, [], rfl, Rows.nil⟩ (fun j J _ h => SqL.of (h.1 _ _ hR.1)) (fun j x J hx h => ?_) (fun J h => ?_)
    · obtain ⟨sm, es, he, hE⟩ := h
      obtain ⟨a, ea, rfl⟩ : ∃ a, ps[j]? = some a ∧ x = .ref a := by
        rw [List.getElem?_map] at hx
        cases h : ps[j]? with
        | none => rw [h] at hx; cases hx
        | some a => rw [h] at hx; cases hx; exact ⟨a, rfl, rfl⟩
      have hj := (List.getElem?_eq_some_iff.mp ea).1
      refine ⟨rfl, _, rfl, a, F j, rfl, sm _ _ (hR.2 j a ea), hF j, fun m J2 t2 nm hm => ?_⟩
      have hE2 := hE.same t2
      refine ⟨_, hE2.1, ?_, same_new (sm.trans t2) nD2, es ++ [m], by rw [List.length_append, he]; rfl, hE.push t2 nm (by rw [he]; exact hm)⟩
      rw [List.length_map, he]
      exact small1000 (by omega)
    · obtain ⟨sm, es, he, hE⟩ := h
      rw [List.length_map, hl] at he
      have nD2 : H D2 = none := nD2
      obtain ⟨e0, er, rfl⟩ : ∃ a r, es = a :: r := by
        cases es with
        | nil => cases he
        | cons a r => exact ⟨a, r, rfl⟩
      have h0 := (hE.2 0 e0 rfl).2
      refine ⟨D2, .ref e0, er.map V.ref, rfl, SqL.of hE.1, fun o no => ?_⟩
      have w1 := same_upd (o := .lst (er.map V.ref)) no
      have ho : (upd J o (.lst (er.map V.ref))) o = some (.lst (er.map V.ref)) := upd_same
      have s1 := sm.trans w1
      have hE1 := hE.same w1
      have h0 := w1 _ _ h0
      generalize upd J o _ = J1 at *
      have her : er.length = 6 := by rw [List.length_cons] at he; omega
      refine ⟨_, rfl, _, rfl, o, rfl, ⟨_, SqL.of ho⟩, fun D3 nD3 => ?_⟩
      refine lc_list (xs := er.map V.ref) (fun j J => Same J1 J ∧ ∃ cs : List Addr, cs.length = j ∧ Rows J D3 cs fun j => colG F (j + 1)) ⟨same_upd nD3, [], rfl, Rows.nil⟩ (fun j J _ h => SqL.of (h.1 _ _ ho)) (fun j x J hx h => ?_) (fun J h => ?_)
      · obtain ⟨sm3, cs, hc, hC⟩ := h
        obtain ⟨a, ea, rfl⟩ : ∃ a, er[j]? = some a ∧ x = .ref a := by
          rw [List.getElem?_map] at hx
          cases h : er[j]? with
          | none => rw [h] at hx; cases hx
          | some a => rw [h] at hx; cases hx; exact ⟨a, rfl, rfl⟩
        have hj := (List.getElem?_eq_some_iff.mp ea).1
        have ha := sm3 _ _ (hE1.2 (j + 1) a ea).2
        have hb := sm3 _ _ h0
        have l1 := hF (j + 1)
        have l0 := hF 0
        refine ⟨rfl, _, rfl, _, rfl, a, e0, _, _, rfl, SqL.of ha, SqL.of hb, fun C nC => ?_⟩
        refine lc_it (walk_zip (n := 7) (xs := (1 :: F (j + 1)).map V.int) (ys := (1 :: F 0).map V.int) (by rw [len_map, len_map, List.length_cons, List.length_cons, l1, l0]; rfl)) (fun i L => Same J L ∧ L C = some (.lst (((List.range i).map fun i => gcell F i (j + 1)).map V.int))) ⟨same_upd nC, upd_same⟩ (fun i L _ h => ⟨SqL.of (h.1 _ _ ha), SqL.of (h.1 _ _ hb)⟩) (fun i x L L2 hi h y => ?_) (fun L h => ?_)
        · obtain ⟨sm, hC⟩ := h
          obtain ⟨t, x, y, rfl, nt, rfl, hx, hy⟩ := y
          have hx : ((1 :: F (j + 1)).map V.int)[i]? = some x := hx
          have hy : ((1 :: F 0).map V.int)[i]? = some y := hy
          rw [get_map (getD_get (ns := 1 :: F (j + 1)) (t := i) (by rw [List.length_cons, l1]; omega))] at hx
          rw [get_map (getD_get (ns := 1 :: F 0) (t := i) (by rw [List.length_cons, l0]; omega))] at hy
          cases hx
          cases hy
          have sm2 := sm.trans (same_upd (o := .tup [V.int ((1 :: F (j + 1)).getD i 0), V.int ((1 :: F 0).getD i 0)]) nt)
          have hC2 := same_upd (o := .tup [V.int ((1 :: F (j + 1)).getD i 0), V.int ((1 :: F 0).getD i 0)]) nt _ _ hC
          refine ⟨t, [V.int ((1 :: F (j + 1)).getD i 0), V.int ((1 :: F 0).getD i 0)], rfl, SqT.of upd_same, rfl, _, _, rfl, _, _, rfl, rfl, rfl, _, rfl, _, rfl, _, _, rfl, rfl, _, hC2, ?_, same_new sm2 nC, ?_⟩
          · rw [List.length_map, List.length_map, List.length_range]
            exact small1000 (by omega)
          · rw [upd_same]
            exact congrArg (fun z => some (HO.lst z)) (range_snoc (fun i => gcell F i (j + 1)) i)
        · obtain ⟨smL, hL⟩ := h
          have hC8 := hC.same smL
          refine ⟨_, hC8.1, ?_, same_new (sm3.trans smL) nD3, cs ++ [C], by rw [List.length_append, hc]; rfl, hC.push smL nC (by rw [hL, hc]; rfl)⟩
          rw [List.length_map, hc]
          exact small1000 (by omega)
      · obtain ⟨sm3, cs, hc, hC⟩ := h
        rw [List.length_map, her] at hc
        have ec : 1 :: F 0 = colG F 0 := (list7 (ns := 1 :: F 0) (by rw [List.length_cons, hF 0])).symm
        have h0 : J1 e0 = some (.lst ((1 :: F 0).map V.int)) := h0
        rw [ec] at h0
        refine ⟨D3, _, rfl, .inr (SqL.of hC.1), ?_, fun D nD => ?_⟩
        · rw [List.append_nil, List.length_cons, List.length_map, hc]
          exact small100 (by decide)
        · have hR := hC.cons (q := D) (z := e0) (G := colG F) (sm3 _ _ h0) (fun j => rfl) nD
          have sH := (s1.trans sm3).trans (same_upd (o := .lst ((e0 :: cs).map V.ref)) nD)
          have hl : (e0 :: cs).length = 7 := by rw [List.length_cons, hc]
          rw [List.append_nil]
          have eo : V.ref e0 :: cs.map V.ref = (e0 :: cs).map V.ref := rfl
          rw [eo]
          generalize e0 :: cs = ps at *
          generalize upd J D _ = H' at *
          let f : Nat → Int := fun t => gcell F (t / 7) (t % 7)
          refine ⟨7, rfl, by decide, by decide, fun B nB => ?_⟩
          refine ⟨fun i m J => m = 7 - i ∧ i ≤ 7 ∧ Same H' J ∧ J B = some (.lst (((List.range (7 * i)).map f).map V.int)), ⟨7, rfl, by decide, same_upd nB, upd_same⟩, fun i m J h => ?_⟩
          obtain ⟨rfl, hi, sm, hB⟩ := h
          by_cases h7 : i < 7
          · refine .inr ⟨h7, fun J => Same H' J ∧ J B = some (.lst (((List.range (7 * i + 7)).map f).map V.int)), fun J h => ⟨7 - (i + 1), by omega, rfl, h7, h.1, by rw [h.2, Nat.mul_succ]⟩, fun x J y => ?_⟩
            obtain ⟨rfl, rfl⟩ := y
            refine ⟨rfl, _, rfl, D, rfl, ⟨_, SqL.of (hR.same sm).1⟩, ?_⟩
            refine ⟨fun j k J => k = 7 - j ∧ j ≤ 7 ∧ Same H' J ∧ J B = some (.lst (((List.range (7 * i + j)).map f).map V.int)), ⟨7, rfl, by decide, sm, hB⟩, fun j k J h => ?_⟩
            obtain ⟨rfl, hj, sm, hB⟩ := h
            have hr := hR.same sm
            by_cases j7 : j < 7
            · obtain ⟨a, ea, ea2⟩ := getRef (ps := ps) (i := j) (by omega)
              refine .inr ⟨⟨_, _, SqL.of hr.1, ea2⟩, fun J => Same H' J ∧ J B = some (.lst (((List.range (7 * i + (j + 1))).map f).map V.int)), fun J h => ⟨7 - (j + 1), by omega, rfl, j7, h.1, h.2⟩, fun x J y => ?_⟩
              obtain ⟨rfl, hy⟩ := y
              have hy := hy _ (SqL.of hr.1)
              rw [ea2] at hy
              cases hy
              refine ⟨rfl, _, rfl, _, rfl, a, _, _, _, rfl, rfl, SqL.of (hr.2 _ _ ea).2, at_nat (t := i) (by omega) (by rw [colG_len]; exact h7), _, hB, ?_, same_new sm nB, ?_⟩
              · rw [List.length_map, List.length_map, List.length_range]
                exact small1000 (by omega)
              · have ef : f (7 * i + j) = (colG F j).getD i 0 := by
                  unfold colG
                  rw [getD7, if_pos h7]
                  show gcell F ((7 * i + j) / 7) ((7 * i + j) % 7) = _
                  rw [show (7 * i + j) / 7 = i by omega, show (7 * i + j) % 7 = j by omega]
                rw [upd_same, ← ef, range_snoc, Nat.add_assoc]
            · refine .inl ⟨⟨_, SqL.of hr.1, by rw [List.length_map]; omega⟩, sm, ?_⟩
              rw [hB, show j = 7 by omega]
          · have e : i = 7 := by omega
            subst e
            exact .inl ⟨Nat.le_refl _, q B J (sH.trans sm) (sH.free nB) hB⟩
def sp_matrix_of (K : PySem.W.Frag) : Sp := fun vs H Q _ => ∃ (b : Addr) (c : Cm), vs = [.ref b] ∧ H b = some (.tup c.vals) ∧ c.ok ∧
  ∀ (q : Addr) (H' : Hp), Same H H' → H q = none → H' q = some (.lst ((matL c.mv).map V.int)) → Q (.ref q) H'
theorem ok_matrix_of (T : Top w K mg) : FnOk P w K mg base CX0 5 T.a_matrix_of T.d_matrix_of ["command"] (sp_matrix_of K) := by
  refine T.F_matrix_of.ok sc_matrix_of (fun vs H Q E h => ?_) (fun cdv A outer s H vs Q E hr h => ?_)
  · obtain ⟨b, c, rfl, _⟩ := h
    rfl
  · obtain ⟨b, c, rfl, hb, hok, q⟩ := h
    refine ⟨_, (pss_one (ps_ret (pe_call (ok_matrix_from T) hr (by rfl) T.g_matrix_from T.F_matrix_from.kp (b_matrix_from T) .nil pass0 (pa_cons (pe_lc (own := [("pen", 1)]) (g := (gName 1)) (tt := tYes) rfl sc_matrix_of.nd (k_piL K (pe_call0 (ok_probes T) (hr.mono (by decide)) (by rfl) T.g_probes T.F_probes.kp (b_probes T) .nil pass0)) (blkOk_by (N := N_matrix_of) (sc := defScope s_matrix_of) (by decide +kernel)) (fun _ _ _ _ _ => (pg_name (i := 1) sc_matrix_of.nd rfl (Or.inl rfl))) (fun _ _ _ _ _ => pts_nil) (fun _ _ _ _ _ => (pe_call (ok_moved T) hr (by rfl) T.g_moved T.F_moved.kp (b_moved T) .nil pass0 (pa_cons (pv 1) (pa_cons (pv 0) pa_nil))))) pa_nil)))), ?_⟩
    refine ⟨rfl, fun p ps H1 s1 np hl hR => ?_⟩
    refine ⟨p, rfl, ⟨_, SqL.of hR.1⟩, fun D nD => ?_⟩
    refine lc_list (xs := ps.map V.ref) (fun j J => Same H1 J ∧ ∃ es : List Addr, es.length = j ∧ TRows J D es fun j => c.mv (probeF j)) ⟨same_upd nD, [], rfl, TRows.nil⟩ (fun j J _ h => SqL.of (h.1 _ _ hR.1)) (fun j x J hx h => ?_) (fun J h => ?_)
    · obtain ⟨sm, es, he, hE⟩ := h
      obtain ⟨a, ea, rfl⟩ : ∃ a, ps[j]? = some a ∧ x = .ref a := by
        rw [List.getElem?_map] at hx
        cases h : ps[j]? with
        | none => rw [h] at hx; cases hx
        | some a => rw [h] at hx; cases hx; exact ⟨a, rfl, rfl⟩
      have hj := (List.getElem?_eq_some_iff.mp ea).1
      refine ⟨rfl, _, rfl, _, rfl, a, b, probeF j, c, rfl, sm _ _ (hR.2 j a ea), probeF_len j, sm _ _ (s1 _ _ hb), hok, fun m J2 t2 nm hm => ?_⟩
      have hE2 := hE.same t2
      refine ⟨_, hE2.1, ?_, same_new (sm.trans t2) nD, es ++ [m], by rw [List.length_append, he]; rfl, hE.push t2 (by rw [he]; exact hm)⟩
      rw [List.length_map, he]
      exact small1000 (by omega)
    · obtain ⟨sm, es, he, hE⟩ := h
      rw [List.length_map, hl] at he
      refine ⟨D, es, _, rfl, he, hE, fun j => mv_len (probeF_len j), fun r H2 s2 nr hr2 => ?_⟩
      have s3 := s1.trans sm
      rw [← matL_G] at hr2
      exact q r H2 (s3.trans s2) (s3.free nr) hr2


--SPLIT
def run (cs : List Cm) (ps : List Int) : List Int := cs.foldl (fun ps c => c.mv ps) ps
theorem run_len : ∀ (cs : List Cm) {ps : List Int}, ps.length = 6 → (run cs ps).length = 6
  | [], _, h => h
  | c :: cs, _, h => run_len cs (mv_len (c := c) h)
/-- a list of commands -/
def Deeds (K : PySem.W.Frag) (H : Hp) (d : Addr) (cs : List Cm) : Prop := ∃ as : List Addr, as.length = cs.length ∧ SqL K H d (as.map V.ref) ∧ ∀ (i : Nat) (a : Addr) (c : Cm), as[i]? = some a → cs[i]? = some c → H a = some (.tup c.vals) ∧ c.ok
theorem Deeds.same {K : PySem.W.Frag} {H J : Hp} {d : Addr} {cs : List Cm} (h : Deeds K H d cs) (s : Same H J) : Deeds K J d cs := by
  obtain ⟨as, hl, hd, ha⟩ := h
  exact ⟨as, hl, s.seq hd, fun i a c e1 e2 => ⟨s _ _ (ha i a c e1 e2).1, (ha i a c e1 e2).2⟩⟩
theorem Deeds.at {K : PySem.W.Frag} {H : Hp} {d : Addr} {cs : List Cm} (h : Deeds K H d cs) : ∃ as : List Addr, as.length = cs.length ∧ SqL K H d (as.map V.ref) ∧ ∀ (i : Nat) (x : V), (as.map V.ref)[i]? = some x → ∃ a c, x = .ref a ∧ cs[i]? = some c ∧ H a = some (.tup c.vals) ∧ c.ok := by
  obtain ⟨as, hl, hd, ha⟩ := h
  refine ⟨as, hl, hd, fun i x e => ?_⟩
  have hi := (List.getElem?_eq_some_iff.mp e).1
  rw [List.length_map] at hi
  rw [List.getElem?_map, List.getElem?_eq_getElem hi] at e
  cases e
  have e2 : cs[i]? = some cs[i] := List.getElem?_eq_getElem (by omega)
  exact ⟨_, _, rfl, e2, ha i _ _ (List.getElem?_eq_getElem hi) e2⟩
theorem run_snoc (cs : List Cm) {i : Nat} {c : Cm} (h : cs[i]? = some c) (ps : List Int) : run (cs.take (i + 1)) ps = c.mv (run (cs.take i) ps) := by
  unfold run
  rw [List.take_add_one, h, List.foldl_append]
  rfl
theorem word_ne (c : Cm) : c.word ≠ ("hold" : Str) ∧ c.word ≠ ("shut" : Str) := by
  cases c <;> (simp only [Cm.word]; exact ⟨by decide, by decide⟩)
def sp__law_pens (K : PySem.W.Frag) : Sp := fun vs H Q _ => ∃ (d b : Addr) (cs : List Cm) (ps : List Int), vs = [.ref d, .ref b] ∧ Deeds K H d cs ∧ cs.length ≤ 100 ∧ H b = some (.tup (ps.map V.int)) ∧ ps.length = 6 ∧
  ∀ (q : Addr) (x : V) (b' : Addr) (H' : Hp), Same H H' → H q = none → H' q = some (.lst [x, .ref b']) → H' b' = some (.tup ((run cs ps).map V.int)) → Q (.ref q) H'
theorem ok__law_pens (T : Top w K mg) : FnOk P w K mg base CX0 2 T.a__law_pens T.d__law_pens ["_law_deeds", "_law_begin"] (sp__law_pens K) := by
  refine T.F__law_pens.ok sc__law_pens (fun vs H Q E h => ?_) (fun cdv A outer s H vs Q E hr h => ?_)
  · obtain ⟨d, b, cs, ps, rfl, _⟩ := h
    rfl
  · obtain ⟨d, b, cs, ps, rfl, hd, hcl, hb, hl, q⟩ := h
    refine ⟨_, (pss_cons (ps_set (i := 2) sc__law_pens.nd rfl (Or.inl rfl) (pe_lst pa_nil))
      (pss_cons (ps_set (i := 3) sc__law_pens.nd rfl (Or.inl rfl) (pe_lst pa_nil))
      (pss_cons (ps_for PassesOwn.never rfl (k_piL K (pv 0)) (pg_name (i := 4) sc__law_pens.nd rfl (Or.inl rfl)) (pss_one (ps_if (pt_cmpR op_eq (pe_ix (k_ixT K) (pv 4) pe_int (fun _ _ => rfl)) pe_str (nomark _)) (pss_one (ps_expr (pe_bm PySem.F.plainAttrs_list PySem.F.slot_list_append PySem.F.type_list_append mt_append (pv 3) (pa_cons (pv 1) pa_nil)))) (pss_one (ps_if (pt_cmpR op_eq (pe_ix (k_ixT K) (pv 4) pe_int (fun _ _ => rfl)) pe_str (nomark _)) (pss_one ps_never) (pss_cons (ps_set (i := 1) sc__law_pens.nd rfl (Or.inl rfl) (pe_call (ok__law_move T) hr (by rfl) T.g__law_move T.F__law_move.kp (b__law_move T) .nil pass0 (pa_cons (pv 1) (pa_cons (pv 4) pa_nil))))
            (pss_one (ps_expr (pe_bm PySem.F.plainAttrs_list PySem.F.slot_list_append PySem.F.type_list_append mt_append (pv 2) (pa_cons (pv 1) pa_nil))))))))))
      (pss_one (ps_ret (pe_lst (pa_cons (pv 2) (pa_cons (pv 1) pa_nil)))))))), ?_⟩
    refine ⟨Nat.zero_le _, fun A1 n1 => ?_⟩
    have s1 := same_upd (o := .lst []) n1
    have h1 : (upd H A1 (.lst [])) A1 = some (.lst []) := upd_same
    generalize upd H A1 (.lst []) = H1 at *
    refine ⟨Nat.zero_le _, fun A2 n2 => ?_⟩
    have s2 := same_upd (o := .lst []) n2
    have h1 := s2 _ _ h1
    have s02 := s1.trans s2
    generalize upd H1 A2 (.lst []) = H2 at *
    obtain ⟨as, hal, hds, hat⟩ := hd.at
    refine ⟨_, rfl, d, rfl, ⟨_, s02.seq hds⟩, for_list (xs := as.map V.ref) (fun i σ H' => ∃ (b' : Addr) (y : Option V) (zs : List V), σ = [some (.ref d), some (.ref b'), some (.ref A1), some (.ref A2), y] ∧ Same H H' ∧ zs.length = i ∧ H' A1 = some (.lst zs) ∧ H' b' = some (.tup ((run (cs.take i) ps).map V.int))) ?_ (fun i σ H' hi h => ?_) (fun i x σ H' hx h => ?_) (fun σ H' h => ?_)⟩
    · exact ⟨b, none, [], rfl, s02, rfl, h1, s02 _ _ hb⟩
    · obtain ⟨b', y, zs, rfl, sm, _⟩ := h
      exact sm.seq hds
    · obtain ⟨b', y, zs, rfl, sm, hzl, hz, hb'⟩ := h
      obtain ⟨a, c, rfl, hc, ha, ok⟩ := hat i x hx
      have hi := (List.getElem?_eq_some_iff.mp hc).1
      have ha := sm _ _ ha
      refine ⟨_, rfl, a, _, 0, _, rfl, rfl, SqT.of ha, atI_nat (j := 0) rfl, rfl, _, rfl, iteN (fun e => (word_ne c).1 (V.str.inj e)) ?_⟩
      refine ⟨_, rfl, a, _, 0, _, rfl, rfl, SqT.of ha, atI_nat (j := 0) rfl, rfl, _, rfl, iteN (fun e => (word_ne c).2 (V.str.inj e)) ?_⟩
      refine ⟨_, rfl, _, rfl, b', a, _, c, rfl, hb', run_len _ hl, ha, ok, fun r J s nr hr => ?_⟩
      have nr1 : r ≠ A1 := (ne_of_none hz nr).symm
      have hz := s _ _ hz
      refine ⟨_, rfl, .inl ⟨rfl, _, SqL.of hz⟩, _, rfl, A1, _, _, rfl, rfl, hz, by rw [hzl]; exact small1000 (by omega), ?_⟩
      refine ⟨r, _, zs ++ [.ref r], rfl, same_new (sm.trans s) n1, by rw [List.length_append, hzl]; rfl, upd_same, ?_⟩
      rw [upd_ne nr1, run_snoc cs hc]
      exact hr
    · obtain ⟨b', y, zs, rfl, sm, hzl, hz, hb'⟩ := h
      refine ⟨_, rfl, _, rfl, small100 (n := 2) (by decide), fun t nt => ?_⟩
      have e : cs.take (as.map V.ref).length = cs := List.take_of_length_le (by rw [List.length_map]; omega)
      rw [e] at hb'
      exact q t _ b' _ (same_new sm (sm.free nt)) (sm.free nt) upd_same (by rw [upd_ne (ne_of_none hb' nt)]; exact hb')

def sp__law_probe (K : PySem.W.Frag) : Sp := fun vs H Q _ => ∃ (d : Addr) (cs : List Cm), vs = [.ref d] ∧ Deeds K H d cs ∧ cs.length ≤ 100 ∧
  ∀ (q : Addr) (H' : Hp), Same H H' → H q = none → H' q = some (.lst ((matL (run cs)).map V.int)) → Q (.ref q) H'
def Imgs (H : Hp) (D : Addr) (bs : List Addr) (F : Nat → List Int) : Prop := H D = some (.lst (bs.map V.ref)) ∧ ∀ (j : Nat) (b : Addr), bs[j]? = some b → H b = some (.tup ((F j).map V.int))
theorem Imgs.same {H J : Hp} {D : Addr} {bs : List Addr} {F : Nat → List Int} (h : Imgs H D bs F) (s : Same H J) : Imgs J D bs F := ⟨s _ _ h.1, fun j b e => s _ _ (h.2 j b e)⟩
theorem Imgs.push {J : Hp} {D q : Addr} {bs : List Addr} {F : Nat → List Int} (h : Imgs J D bs F) (hq : J q = some (.tup ((F bs.length).map V.int))) : Imgs (upd J D (.lst (bs.map V.ref ++ [.ref q]))) D (bs ++ [q]) F := by
  refine ⟨by rw [upd_same, List.map_append]; rfl, fun j b e => ?_⟩
  have nD : ∀ {b : Addr} {l : List V}, J b = some (.tup l) → b ≠ D := fun hb => ne_of hb h.1 (fun z => nomatch z)
  rw [List.getElem?_append] at e
  split at e
  · have hb := h.2 j b e
    rw [upd_ne (nD hb)]
    exact hb
  · rename_i hj
    have hj2 := (List.getElem?_eq_some_iff.mp e).1
    have ej : j = bs.length := by
      rw [List.length_cons, List.length_nil] at hj2
      omega
    subst ej
    rw [Nat.sub_self] at e
    cases e
    rw [upd_ne (nD hq)]
    exact hq
theorem ok__law_probe (T : Top w K mg) : FnOk P w K mg base CX0 3 T.a__law_probe T.d__law_probe ["_law_deeds"] (sp__law_probe K) := by
  refine T.F__law_probe.ok sc__law_probe (fun vs H Q E h => ?_) (fun cdv A outer s H vs Q E hr h => ?_)
  · obtain ⟨d, cs, rfl, _⟩ := h
    rfl
  · obtain ⟨d, cs, rfl, hd, hcl, q⟩ := h
    refine ⟨_, (pss_cons (ps_set (i := 1) sc__law_probe.nd rfl (Or.inl rfl) (pe_ix (k_ixL K) (pe_call (ok__law_pens T) hr (by rfl) T.g__law_pens T.F__law_pens.kp (b__law_pens T) .nil pass0 (pa_cons (pv 0) (pa_cons (pe_tup (pa_cons pe_int (pa_cons pe_int (pa_cons pe_int (pa_cons pe_int (pa_cons pe_int (pa_cons pe_int pa_nil))))))) pa_nil))) pe_int (fun _ _ => rfl)))
      (pss_cons (ps_setLc (i := 3) (own := [("_law_j", 2)]) (g := (gName 2)) (tt := tYes) rfl sc__law_probe.nd rfl rfl (sw_true rfl rfl rfl (by decide +kernel)) (pi_range1 (by rfl) T.z_range (pa_cons pe_int pa_nil)) (blkOk_by (N := N__law_probe) (sc := defScope s__law_probe) (by decide +kernel)) (fun _ _ _ _ _ => (pg_name (i := 2) sc__law_probe.nd rfl (Or.inr rfl))) (fun _ _ _ _ _ => pts_nil) (fun _ _ _ _ _ => (pe_ix (k_ixL K) (pe_call (ok__law_pens T) hr (by rfl) T.g__law_pens T.F__law_pens.kp (b__law_pens T) .nil pass0 (pa_cons (pv 0) (pa_cons (pe_callTy (k_tuple K) (by rfl) T.z_tuple bt_tuple (pa_cons (pe_lc (own := [("_law_k", 6)]) (g := (gName 6)) (tt := tYes) rfl sc__law_probe.nd (pi_range1 (by rfl) T.z_range (pa_cons pe_int pa_nil)) (blkOk_by (N := N__law_probe) (sc := (relS ({ kind := .function, names := [(".0", .local), ("_law_j", .cell), ("_law_pens", .globalImplicit), ("tuple", .globalImplicit), ("range", .globalImplicit), ("_law_deeds", .free)], isGenerator := false, isCoroutine := false } : Scope) (defScope s__law_probe))) (by decide +kernel)) (fun _ _ _ _ _ => (pg_name (i := 6) sc__law_probe.nd rfl (Or.inl rfl))) (fun _ _ _ _ _ => pts_nil) (fun _ _ _ _ _ => (pe_callTy call_intB (by rfl) T.z_int bt_int (pa_cons (pe_cmpR op_eq (pv 6) (pv 2) (nomark _)) pa_nil)))) pa_nil)) pa_nil))) pe_int (fun _ _ => rfl))))
      (pss_cons (ps_set (i := 4) sc__law_probe.nd rfl (Or.inl rfl) (pe_lst (pa_cons pe_int (pa_cons pe_int (pa_cons pe_int (pa_cons pe_int (pa_cons pe_int (pa_cons pe_int (pa_cons pe_int pa_nil)))))))))
      (pss_cons (ps_for PassesOwn.never rfl (pi_range1 (by rfl) T.z_range (pa_cons pe_int pa_nil)) (pg_name (i := 5) sc__law_probe.nd rfl (Or.inl rfl)) (pss_cons (ps_expr (pe_bm PySem.F.plainAttrs_list PySem.F.slot_list_append PySem.F.type_list_append mt_append (pv 4) (pa_cons (pe_ix (k_ixT K) (pv 1) (pv 5) (fun _ _ => rfl)) pa_nil)))
        (pss_one (ps_for PassesOwn.never rfl (pi_range1 (by rfl) T.z_range (pa_cons pe_int pa_nil)) (pg_name (i := 2) sc__law_probe.nd rfl (Or.inl rfl)) (pss_one (ps_expr (pe_bm PySem.F.plainAttrs_list PySem.F.slot_list_append PySem.F.type_list_append mt_append (pv 4) (pa_cons (pe_op op_sub (pe_ix (k_ixT K) (pe_ix (k_ixL K) (pv 3) (pv 2) (fun _ _ => rfl)) (pv 5) (fun _ _ => rfl)) (pe_ix (k_ixT K) (pv 1) (pv 5) (fun _ _ => rfl))) pa_nil))))))))
      (pss_one (ps_ret (pv 4))))))), ?_⟩
    refine ⟨_, rfl, small100 (n := 6) (by decide), fun z nz => ?_⟩
    have ez : (HO.tup [V.int 0, .int 0, .int 0, .int 0, .int 0, .int 0]) = .tup (Z6.map V.int) := rfl
    rw [ez]
    have s1 := same_upd (o := .tup (Z6.map V.int)) nz
    have hz : (upd H z (.tup (Z6.map V.int))) z = some (.tup (Z6.map V.int)) := upd_same
    generalize upd H z (.tup (Z6.map V.int)) = H1 at *
    refine ⟨d, z, cs, Z6, rfl, hd.same s1, hcl, hz, rfl, fun l x o H2 s2 nl hl ho => ?_⟩
    refine ⟨l, _, 1, _, rfl, rfl, SqL.of hl, atI_nat (j := 1) rfl, ?_⟩
    have s02 := s1.trans s2
    have lo : (run cs Z6).length = 6 := run_len cs rfl
    refine ⟨6, rfl, by decide, by decide, fun D nD => lc_range (n := 6) (fun i H' => Same H2 H' ∧ ∃ bs : List Addr, bs.length = i ∧ Imgs H' D bs (fun j => run cs (E6 j))) ⟨same_upd nD, [], rfl, upd_same, fun j b e => by simp at e⟩ (fun i H' hi h => ?_) (fun H3 h => ?_)⟩
    · obtain ⟨sm, bs, hbl, hI⟩ := h
      refine ⟨rfl, _, rfl, 6, rfl, by decide, by decide, fun C nC => lc_range (n := 6) (fun k J => Same H' J ∧ J C = some (.lst (((List.range k).map fun k => if k = i then (1 : Int) else 0).map V.int))) ⟨same_upd nC, upd_same⟩ (fun k J hk h => ?_) (fun J h => ?_)⟩
      · obtain ⟨sJ, hC⟩ := h
        refine ⟨rfl, _, rfl, _, rfl, rfl, _, rfl, _, hC, ?_, same_new sJ nC, ?_⟩
        · rw [List.length_map, List.length_map, List.length_range]
          exact small1000 (by omega)
        · rw [upd_same, eqI_if k i _ _ (by omega) (by omega)]
          exact congrArg (fun z => some (HO.lst z)) (range_snoc (fun k => if k = i then (1 : Int) else 0) k)
      · obtain ⟨sJ, hC⟩ := h
        refine ⟨C, _, rfl, SqL.of hC, fun t nt => ?_⟩
        have st := same_upd (o := .tup ((E6 i).map V.int)) nt
        have ht : (upd J t (.tup ((E6 i).map V.int))) t = some (.tup ((E6 i).map V.int)) := upd_same
        have et : (HO.tup (((List.range 6).map fun k => if k = i then (1 : Int) else 0).map V.int)) = .tup ((E6 i).map V.int) := rfl
        rw [et]
        generalize upd J t (.tup ((E6 i).map V.int)) = J2 at *
        have s3 := sm.trans (sJ.trans st)
        refine ⟨d, t, cs, E6 i, rfl, hd.same (s02.trans s3), hcl, ht, E6_len i, fun l2 x2 b2 J3 s4 nl2 hl2 hb2 => ?_⟩
        have sJ3 := sJ.trans (st.trans s4)
        have hI3 := hI.same sJ3
        refine ⟨l2, _, 1, _, rfl, rfl, SqL.of hl2, atI_nat (j := 1) rfl, _, hI3.1, ?_, same_new (sm.trans sJ3) nD, bs ++ [b2], by rw [List.length_append, hbl]; rfl, hI3.push (by rw [hbl]; exact hb2)⟩
        rw [List.length_map, hbl]
        exact small1000 (by omega)
    · obtain ⟨s3, bs, hbl, hI⟩ := h
      have s03 := s02.trans s3
      have ho := s3 _ _ ho
      let g : Nat → Int := fun t => mcell (run cs) (t / 7) (t % 7)
      refine ⟨small100 (n := 7) (by decide), fun M nM => ?_⟩
      have e7 : [V.int 1, .int 0, .int 0, .int 0, .int 0, .int 0, .int 0] = ((List.range 7).map g).map V.int := rfl
      rw [e7]
      refine ⟨6, rfl, by decide, by decide, for_range (n := 6) (fun i σ H' => ∃ (y z : Option V), σ = [some (.ref d), some (.ref o), y, some (.ref D), some (.ref M), z, none] ∧ Same H3 H' ∧ H' M = some (.lst (((List.range (7 * (i + 1))).map g).map V.int))) ?_ (fun i σ H' hi h => ?_) (fun σ H' h => ?_)⟩
      · exact ⟨none, none, rfl, same_upd nM, upd_same⟩
      · obtain ⟨y, zz, rfl, sm, hM⟩ := h
        have hsz : ∀ n, n ≤ 60 → (((List.range n).map g).map V.int).length < sizeLine := fun n hn => by
          rw [List.length_map, List.length_map, List.length_range]
          exact small1000 (by omega)
        refine ⟨_, rfl, .inl ⟨rfl, _, SqL.of hM⟩, _, rfl, _, rfl, o, _, _, _, rfl, rfl, SqT.of (sm _ _ ho), at_nat (t := i) (by omega) (by omega), M, _, _, rfl, rfl, hM, hsz _ (by omega), ?_⟩
        have eg0 : g (7 * (i + 1)) = (run cs Z6).getD i 0 := by
          show mcell (run cs) (7 * (i + 1) / 7) (7 * (i + 1) % 7) = _
          rw [show 7 * (i + 1) / 7 = i + 1 by omega, show 7 * (i + 1) % 7 = 0 by omega]
          rfl
        rw [← eg0, range_snoc]
        refine ⟨6, rfl, by decide, by decide, for_range (n := 6) (fun j σ H' => ∃ (y : Option V), σ = [some (.ref d), some (.ref o), y, some (.ref D), some (.ref M), some (.int (0 + i)), none] ∧ Same H3 H' ∧ H' M = some (.lst (((List.range (7 * (i + 1) + 1 + j)).map g).map V.int))) ?_ (fun j σ H' hj h => ?_) (fun σ H' h => ?_)⟩
        · exact ⟨y, rfl, same_new sm nM, upd_same⟩
        · obtain ⟨y, rfl, sm, hM⟩ := h
          obtain ⟨b, eb, eb2⟩ := getRef (ps := bs) (i := j) (by omega)
          have hI' := hI.same sm
          have lb : (run cs (E6 j)).length = 6 := run_len cs (E6_len j)
          refine ⟨_, rfl, .inl ⟨rfl, _, SqL.of hM⟩, _, rfl, _, rfl, D, _, _, _, rfl, rfl, SqL.of hI'.1, at_of (j := j) (by omega) eb2, _, rfl, b, _, _, _, rfl, rfl, SqT.of (hI'.2 _ _ eb), at_nat (t := i) (by omega) (by rw [lb]; exact hi), _, rfl, _, rfl, o, _, _, _, rfl, rfl, SqT.of (sm _ _ ho), at_nat (t := i) (by omega) (by omega), _, _, rfl, rfl, M, _, _, rfl, rfl, hM, hsz _ (by omega), ?_⟩
          have eg : g (7 * (i + 1) + 1 + j) = (run cs (E6 j)).getD i 0 - (run cs Z6).getD i 0 := by
            show mcell (run cs) ((7 * (i + 1) + 1 + j) / 7) ((7 * (i + 1) + 1 + j) % 7) = _
            rw [show (7 * (i + 1) + 1 + j) / 7 = i + 1 by omega, show (7 * (i + 1) + 1 + j) % 7 = j + 1 by omega]
            rfl
          dsimp only
          rw [← eg, range_snoc]
          exact ⟨_, rfl, same_new sm nM, upd_same⟩
        · obtain ⟨y, rfl, sm, hM⟩ := h
          exact ⟨_, _, rfl, sm, by rw [hM]; rfl⟩
      · obtain ⟨y, zz, rfl, sm, hM⟩ := h
        exact ⟨_, rfl, q M H' (s03.trans sm) (s03.free nM) hM⟩

--SPLIT
def image (ns ps : List Int) : List Int := (List.range 6).map fun t => S 7 fun k => ns.getD (7 * (t + 1) + k) 0 * (1 :: ps).getD k 0
theorem one_bw {b : Nat} {ps : List Int} (h : Bw b ps) (hb : 0 < b) : Bw b (1 :: ps) := fun t => by
  match t with
  | 0 =>
    show 1 < 2 ^ b
    exact Nat.one_lt_two_pow (by omega)
  | t + 1 => exact h t

def sp__law_image (K : PySem.W.Frag) : Sp := fun vs H Q _ => ∃ (a b : Addr) (ns ps : List Int), vs = [.ref a, .ref b] ∧ SqL K H a (ns.map V.int) ∧ H b = some (.tup (ps.map V.int)) ∧ ns.length = 49 ∧ ps.length = 6 ∧ Bw 2000 ns ∧ Bw 2000 ps ∧
  ∀ (q : Addr) (H' : Hp), Same H H' → H q = none → H' q = some (.tup ((image ns ps).map V.int)) → Q (.ref q) H'
theorem ok__law_image (T : Top w K mg) : FnOk P w K mg base CX0 1 T.a__law_image T.d__law_image ["_law_matrix", "_law_begin"] (sp__law_image K) := by
  refine T.F__law_image.ok sc__law_image (fun vs H Q E h => ?_) (fun cdv A outer s H vs Q E hr h => ?_)
  · obtain ⟨a, b, ns, ps, rfl, _⟩ := h
    rfl
  · obtain ⟨a, b, ns, ps, rfl, hA, hB, ln, lp, bn, bp, q⟩ := h
    refine ⟨_, (pss_cons (ps_set (i := 2) sc__law_image.nd rfl (Or.inr rfl) (pe_lst (pa_cons pe_int (pa_cons (pe_ix (k_ixT K) (pv 1) pe_int (fun _ _ => rfl)) (pa_cons (pe_ix (k_ixT K) (pv 1) pe_int (fun _ _ => rfl)) (pa_cons (pe_ix (k_ixT K) (pv 1) pe_int (fun _ _ => rfl)) (pa_cons (pe_ix (k_ixT K) (pv 1) pe_int (fun _ _ => rfl)) (pa_cons (pe_ix (k_ixT K) (pv 1) pe_int (fun _ _ => rfl)) (pa_cons (pe_ix (k_ixT K) (pv 1) pe_int (fun _ _ => rfl)) pa_nil)))))))))
      (pss_cons (ps_setLc (i := 3) (own := [("_law_i", 4)]) (g := (gName 4)) (tt := tYes) rfl sc__law_image.nd rfl rfl (sw_true rfl rfl rfl (by decide +kernel)) (pi_range1 (by rfl) T.z_range (pa_cons pe_int pa_nil)) (blkOk_by (N := N__law_image) (sc := defScope s__law_image) (by decide +kernel)) (fun _ _ _ _ _ => (pg_name (i := 4) sc__law_image.nd rfl (Or.inr rfl))) (fun _ _ _ _ _ => pts_nil) (fun _ _ _ _ _ => (pe_callB (k_sum K) (by rfl) T.z_sum bt_sum (pa_cons (pe_lc (own := [("_law_j", 5)]) (g := (gName 5)) (tt := tYes) rfl sc__law_image.nd (pi_range1 (by rfl) T.z_range (pa_cons pe_int pa_nil)) (blkOk_by (N := N__law_image) (sc := (relS ({ kind := .function, names := [(".0", .local), ("_law_i", .cell), ("sum", .globalImplicit), ("range", .globalImplicit), ("_law_ahead", .free), ("_law_matrix", .free)], isGenerator := false, isCoroutine := false } : Scope) (defScope s__law_image))) (by decide +kernel)) (fun _ _ _ _ _ => (pg_name (i := 5) sc__law_image.nd rfl (Or.inl rfl))) (fun _ _ _ _ _ => pts_nil) (fun _ _ _ _ _ => (pe_op op_mulW (pe_ix (k_ixL K) (pv 0) (pe_op op_add (pe_op op_mul pe_int (pv 4)) (pv 5)) (fun _ _ => rfl)) (pe_ix (k_ixL K) (pv 2) (pv 5) (fun _ _ => rfl))))) pa_nil))))
      (pss_one (ps_ret (pe_tup (pa_cons (pe_ix (k_ixL K) (pv 3) pe_int (fun _ _ => rfl)) (pa_cons (pe_ix (k_ixL K) (pv 3) pe_int (fun _ _ => rfl)) (pa_cons (pe_ix (k_ixL K) (pv 3) pe_int (fun _ _ => rfl)) (pa_cons (pe_ix (k_ixL K) (pv 3) pe_int (fun _ _ => rfl)) (pa_cons (pe_ix (k_ixL K) (pv 3) pe_int (fun _ _ => rfl)) (pa_cons (pe_ix (k_ixL K) (pv 3) pe_int (fun _ _ => rfl)) pa_nil))))))))))), ?_⟩
    have at6 : ∀ {t : Nat} {z : Int}, z = (t : Int) → t < 6 → atI (ps.map V.int) z = some (.int (ps.getD t 0)) := fun e ht => at_nat e (by omega)
    have hd := SqT.of (K := K) hB
    refine ⟨_, rfl, b, _, _, _, rfl, rfl, hd, at6 (t := 0) rfl (by decide), _, rfl, b, _, _, _, rfl, rfl, hd, at6 (t := 1) rfl (by decide), _, rfl, b, _, _, _, rfl, rfl, hd, at6 (t := 2) rfl (by decide),
      _, rfl, b, _, _, _, rfl, rfl, hd, at6 (t := 3) rfl (by decide), _, rfl, b, _, _, _, rfl, rfl, hd, at6 (t := 4) rfl (by decide), _, rfl, b, _, _, _, rfl, rfl, hd, at6 (t := 5) rfl (by decide), small100 (n := 7) (by decide), fun x nx => ?_⟩
    have eh : [V.int 1, .int (ps.getD 0 0), .int (ps.getD 1 0), .int (ps.getD 2 0), .int (ps.getD 3 0), .int (ps.getD 4 0), .int (ps.getD 5 0)] = (1 :: ps).map V.int := congrArg (fun z => V.int 1 :: z.map V.int) (list6 lp)
    rw [eh]
    have s1 := same_upd (o := .lst ((1 :: ps).map V.int)) nx
    have hx : (upd H x (.lst ((1 :: ps).map V.int))) x = some (.lst ((1 :: ps).map V.int)) := upd_same
    generalize upd H x (.lst ((1 :: ps).map V.int)) = H1 at *
    let g : Nat → Int := fun i => S 7 fun j => ns.getD (7 * i + j) 0 * (1 :: ps).getD j 0
    refine ⟨7, rfl, by decide, by decide, fun D nD => lc_range (n := 7) (fun i H' => Same H1 H' ∧ H' D = some (.lst (((List.range i).map g).map V.int))) ⟨same_upd nD, upd_same⟩ (fun i H' hi h => ?_) (fun H2 h => ?_)⟩
    · obtain ⟨sm, hD⟩ := h
      refine ⟨rfl, 7, rfl, by decide, by decide, fun C nC => lc_range (n := 7) (fun k J => Same H' J ∧ J C = some (.lst (((List.range k).map fun j => ns.getD (7 * i + j) 0 * (1 :: ps).getD j 0).map V.int))) ⟨same_upd nC, upd_same⟩ (fun k J hk h => ?_) (fun J h => ?_)⟩
      · obtain ⟨sJ, hC⟩ := h
        refine ⟨rfl, _, rfl, _, rfl, _, _, rfl, rfl, .inl ⟨by decide, by decide⟩, _, rfl, _, _, rfl, rfl, a, _, _, _, rfl, rfl, (s1.trans (sm.trans sJ)).seq hA, at_nat (t := 7 * i + k) (by omega) (by omega), _, rfl, _, rfl, x, _, _, _, rfl, rfl, SqL.of (sJ _ _ (sm _ _ hx)), at_nat (ns := 1 :: ps) (t := k) (by omega) (by rw [List.length_cons, lp]; exact hk), _, _, rfl, rfl, bw_mul (bn _) (one_bw bp (by decide) k) (by decide) (by decide) (by decide), _, hC, ?_, same_new sJ nC, ?_⟩
        · rw [List.length_map, List.length_map, List.length_range]
          exact small1000 (by omega)
        · rw [upd_same]
          exact congrArg (fun z => some (HO.lst z)) (range_snoc (fun j => ns.getD (7 * i + j) 0 * (1 :: ps).getD j 0) k)
      · obtain ⟨sJ, hC⟩ := h
        refine ⟨C, _, rfl, SqL.of hC, _, sJ _ _ hD, ?_, same_new (sm.trans sJ) nD, ?_⟩
        · rw [List.length_map, List.length_map, List.length_range]
          exact small1000 (by omega)
        · rw [upd_same]
          exact congrArg (fun z => some (HO.lst z)) (range_snoc g i)
    · obtain ⟨s2, hD⟩ := h
      have at7 : ∀ {t : Nat} {z : Int}, z = (t : Int) → t < 7 → atI (((List.range 7).map g).map V.int) z = some (.int (g t)) := fun {t z} e ht => by
        have := at_nat (ns := (List.range 7).map g) (t := t) e (by rw [List.length_map, List.length_range]; exact ht)
        rw [getD7, if_pos ht] at this
        exact this
      have hd := SqL.of (K := K) hD
      refine ⟨_, rfl, D, _, _, _, rfl, rfl, hd, at7 (t := 1) rfl (by decide), _, rfl, D, _, _, _, rfl, rfl, hd, at7 (t := 2) rfl (by decide), _, rfl, D, _, _, _, rfl, rfl, hd, at7 (t := 3) rfl (by decide),
        _, rfl, D, _, _, _, rfl, rfl, hd, at7 (t := 4) rfl (by decide), _, rfl, D, _, _, _, rfl, rfl, hd, at7 (t := 5) rfl (by decide), _, rfl, D, _, _, _, rfl, rfl, hd, at7 (t := 6) rfl (by decide), small100 (n := 6) (by decide), fun t nt => ?_⟩
      have s := s1.trans s2
      refine q t _ (same_new s (s.free nt)) (s.free nt) ?_
      rw [upd_same]
      rfl

/-! ### the matrix of a command -/
def AffM (f : List Int → List Int) : Prop := ∀ ps : List Int, ps.length = 6 → ∀ i, i < 7 → (1 :: f ps).getD i 0 = S 7 fun k => mcell f i k * (1 :: ps).getD k 0
theorem S7 (f : Nat → Int) : S 7 f = f 0 + (f 1 + (f 2 + (f 3 + (f 4 + (f 5 + (f 6 + 0)))))) := rfl
theorem turn_lim {n : Int} (h : (Cm.turn n).ok) : n = 1 ∨ n = 2 ∨ n = 3 := by
  have := h 0 n (1, 3) rfl rfl
  dsimp only at this
  omega
theorem E6s : E6 0 = [1, 0, 0, 0, 0, 0] ∧ E6 1 = [0, 1, 0, 0, 0, 0] ∧ E6 2 = [0, 0, 1, 0, 0, 0] ∧ E6 3 = [0, 0, 0, 1, 0, 0] ∧ E6 4 = [0, 0, 0, 0, 1, 0] ∧ E6 5 = [0, 0, 0, 0, 0, 1] := ⟨rfl, rfl, rfl, rfl, rfl, rfl⟩
theorem mc0 (f : List Int → List Int) (i : Nat) : mcell f i 0 = (1 :: f Z6).getD i 0 := rfl
theorem mc1 (f : List Int → List Int) (i : Nat) : mcell f i 1 = (1 :: f [1, 0, 0, 0, 0, 0]).getD i 0 - (1 :: f Z6).getD i 0 := rfl
theorem mc2 (f : List Int → List Int) (i : Nat) : mcell f i 2 = (1 :: f [0, 1, 0, 0, 0, 0]).getD i 0 - (1 :: f Z6).getD i 0 := rfl
theorem mc3 (f : List Int → List Int) (i : Nat) : mcell f i 3 = (1 :: f [0, 0, 1, 0, 0, 0]).getD i 0 - (1 :: f Z6).getD i 0 := rfl
theorem mc4 (f : List Int → List Int) (i : Nat) : mcell f i 4 = (1 :: f [0, 0, 0, 1, 0, 0]).getD i 0 - (1 :: f Z6).getD i 0 := rfl
theorem mc5 (f : List Int → List Int) (i : Nat) : mcell f i 5 = (1 :: f [0, 0, 0, 0, 1, 0]).getD i 0 - (1 :: f Z6).getD i 0 := rfl
theorem mc6 (f : List Int → List Int) (i : Nat) : mcell f i 6 = (1 :: f [0, 0, 0, 0, 0, 1]).getD i 0 - (1 :: f Z6).getD i 0 := rfl
set_option maxHeartbeats 4000000 in
theorem aff_mv {c : Cm} (hok : c.ok) : AffM c.mv := by
  intro ps hl i hi
  obtain ⟨x, y, u, v, p, q, rfl⟩ := list6' hl
  rw [S7, mc0, mc1, mc2, mc3, mc4, mc5, mc6]
  have tl : ∀ n, c = .turn n → n = 1 ∨ n = 2 ∨ n = 3 := fun n e => turn_lim (e ▸ hok)
  cases c with
  | turn n =>
    rcases tl n rfl with rfl | rfl | rfl <;> (match i, hi with
      | 0, _ => simp [Cm.mv, Z6, rot, List.getD]
      | 1, _ => simp [Cm.mv, Z6, rot, List.getD]
      | 2, _ => simp [Cm.mv, Z6, rot, List.getD]
      | 3, _ => simp [Cm.mv, Z6, rot, List.getD]
      | 4, _ => simp [Cm.mv, Z6, rot, List.getD]
      | 5, _ => simp [Cm.mv, Z6, rot, List.getD]
      | 6, _ => simp [Cm.mv, Z6, rot, List.getD])
  | _ => (match i, hi with
      | 0, _ => simp [Cm.mv, Z6, List.getD]
      | 1, _ => simp [Cm.mv, Z6, List.getD]
      | 2, _ => simp [Cm.mv, Z6, List.getD]
      | 3, _ => simp [Cm.mv, Z6, List.getD]
      | 4, _ => simp [Cm.mv, Z6, List.getD]
      | 5, _ => simp [Cm.mv, Z6, List.getD]
      | 6, _ => simp [Cm.mv, Z6, List.getD])
theorem getD49m {g : Nat → Int} {t : Nat} : ((List.range 49).map g).getD t 0 = if t < 49 then g t else 0 := by
  rw [List.getD_eq_getElem?_getD, List.getElem?_map]
  by_cases ht : t < 49
  · rw [List.getElem?_range ht, if_pos ht]
    rfl
  · rw [List.getElem?_eq_none (by rw [List.length_range]; omega), if_neg ht]
    rfl
theorem matL_at (f : List Int → List Int) {i k : Nat} (hi : i < 7) (hk : k < 7) : (matL f).getD (7 * i + k) 0 = mcell f i k := by
  unfold matL
  rw [getD49m, if_pos (by omega), show (7 * i + k) / 7 = i by omega, show (7 * i + k) % 7 = k by omega]
theorem matL_len (f : List Int → List Int) : (matL f).length = 49 := by unfold matL; rw [List.length_map, List.length_range]
theorem list6r {ps : List Int} (h : ps.length = 6) : (List.range 6).map (fun t => ps.getD t 0) = ps := by
  match ps, h with
  | [a, b, c, d, e, f], _ => rfl
theorem image_mat {f : List Int → List Int} (hf : AffM f) {ps : List Int} (hl : ps.length = 6) (hfl : (f ps).length = 6) : image (matL f) ps = f ps := by
  refine Eq.trans ?_ (list6r hfl)
  unfold image
  refine List.map_congr_left fun t ht => ?_
  have ht := List.mem_range.mp ht
  have := hf ps hl (t + 1) (by omega)
  refine Eq.trans (S_congr fun k hk => ?_) this.symm
  rw [matL_at f (show t + 1 < 7 by omega) hk]
def Small (ps : List Int) : Prop := ∀ z ∈ ps, z.natAbs ≤ 10
set_option maxHeartbeats 4000000 in
theorem small_mv {c : Cm} (hok : c.ok) {ps : List Int} (h : ps = Z6 ∨ ps = [1, 0, 0, 0, 0, 0] ∨ ps = [0, 1, 0, 0, 0, 0] ∨ ps = [0, 0, 1, 0, 0, 0] ∨ ps = [0, 0, 0, 1, 0, 0] ∨ ps = [0, 0, 0, 0, 1, 0] ∨ ps = [0, 0, 0, 0, 0, 1]) : Small (c.mv ps) := by
  intro z hz
  cases c with
  | turn n =>
    rcases turn_lim hok with rfl | rfl | rfl <;> (rcases h with rfl | rfl | rfl | rfl | rfl | rfl | rfl <;> (simp [Cm.mv, Z6, rot] at hz; omega))
  | go k =>
    have h1 := hok 0 _ _ rfl rfl
    dsimp only at h1
    rcases h with rfl | rfl | rfl | rfl | rfl | rfl | rfl <;> (simp [Cm.mv, Z6] at hz; omega)
  | scale k =>
    have h1 := hok 0 _ _ rfl rfl
    dsimp only at h1
    rcases h with rfl | rfl | rfl | rfl | rfl | rfl | rfl <;> (simp [Cm.mv, Z6] at hz; omega)
  | aim a b =>
    have h1 := hok 0 _ _ rfl rfl
    have h2 := hok 1 _ _ rfl rfl
    dsimp only at h1 h2
    rcases h with rfl | rfl | rfl | rfl | rfl | rfl | rfl <;> (simp [Cm.mv, Z6] at hz; omega)
  | place a b =>
    have h1 := hok 0 _ _ rfl rfl
    have h2 := hok 1 _ _ rfl rfl
    dsimp only at h1 h2
    rcases h with rfl | rfl | rfl | rfl | rfl | rfl | rfl <;> (simp [Cm.mv, Z6] at hz; omega)
  | _ => rcases h with rfl | rfl | rfl | rfl | rfl | rfl | rfl <;> (simp [Cm.mv, Z6] at hz; omega)
theorem small_getD {ps : List Int} (h : Small ps) (i : Nat) : ((1 :: ps).getD i 0).natAbs ≤ 10 := by
  match i with
  | 0 => exact (by decide : (1 : Int).natAbs ≤ 10)
  | i + 1 => exact getD_mem (ns := ps) (P := fun z => z.natAbs ≤ 10) h (by decide) i
theorem E6_cases {j : Nat} (h : j < 6) : E6 j = Z6 ∨ E6 j = [1, 0, 0, 0, 0, 0] ∨ E6 j = [0, 1, 0, 0, 0, 0] ∨ E6 j = [0, 0, 1, 0, 0, 0] ∨ E6 j = [0, 0, 0, 1, 0, 0] ∨ E6 j = [0, 0, 0, 0, 1, 0] ∨ E6 j = [0, 0, 0, 0, 0, 1] := by
  match j, h with
  | 0, _ => exact .inr (.inl rfl)
  | 1, _ => exact .inr (.inr (.inl rfl))
  | 2, _ => exact .inr (.inr (.inr (.inl rfl)))
  | 3, _ => exact .inr (.inr (.inr (.inr (.inl rfl))))
  | 4, _ => exact .inr (.inr (.inr (.inr (.inr (.inl rfl)))))
  | 5, _ => exact .inr (.inr (.inr (.inr (.inr (.inr rfl)))))
theorem matL_bw {c : Cm} (hok : c.ok) : Bw 5 (matL c.mv) := fun t => by
  unfold matL
  rw [getD49m]
  split
  · rename_i ht
    unfold mcell
    have h0 := small_getD (small_mv hok (.inl rfl)) (t / 7)
    split
    · omega
    · have h1 := small_getD (small_mv hok (E6_cases (j := t % 7 - 1) (by omega))) (t / 7)
      omega
  · decide

def sp__law_is_matrix (K : PySem.W.Frag) : Sp := fun vs H Q _ => ∃ (a : Addr) (ns : List Int), vs = [.ref a] ∧ H a = some (.lst (ns.map V.int)) ∧ ns.length = 49 ∧ ∀ H', Same H H' → Q (.bl true) H'
theorem ok__law_is_matrix (T : Top w K mg) : FnOk P w K mg base CX0 2 T.a__law_is_matrix T.d__law_is_matrix ["_law_value"] (sp__law_is_matrix K) := by
  refine T.F__law_is_matrix.ok sc__law_is_matrix (fun vs H Q E h => ?_) (fun cdv A outer s H vs Q E hr h => ?_)
  · obtain ⟨a, ns, rfl, _⟩ := h
    rfl
  · obtain ⟨a, ns, rfl, ha, hl, q⟩ := h
    refine ⟨_, (pss_one (ps_ret (pe_and (pe_callB (k_isi K) (by rfl) T.z_isinstance bt_isinstance (pa_cons (pv 0) (pa_cons (pe_bltn (v := .ty "list") (by rfl) T.z_list bt_list rfl) pa_nil))) (pe_one (pe_call (ok__law_is_row T) hr (by rfl) T.g__law_is_row T.F__law_is_row.kp (b__law_is_row T) .nil pass0 (pa_cons (pv 0) (pa_cons pe_int pa_nil))))))), ?_⟩
    refine ⟨_, rfl, _, _, _, _, true, rfl, .ty _, .base (.lst ha), kit_ty (by decide +kernel), true, rfl, _, rfl, a, ns, 49, rfl, .inl (SqL.of ha), by omega, fun b H' hb sm => ?_⟩
    rw [hb (by rw [hl]; rfl)]
    exact q H' sm

--SPLIT
def spLaw (K : PySem.W.Frag) : Sp := fun vs H Q _ => ∃ (a : Addr) (ns : List Int), vs = [.ref a] ∧ SqL K H a (ns.map V.int) ∧ ns.length ≤ 63 ∧ ∀ H', Q (.bl true) H'
theorem deeds1 {K : PySem.W.Frag} {H : Hp} {d a : Addr} {c : Cm} (hd : H d = some (.lst [.ref a])) (ha : H a = some (.tup c.vals)) (ok : c.ok) : Deeds K H d [c] :=
  ⟨[a], rfl, SqL.of hd, fun i x c' e1 e2 => by
    match i, e1, e2 with
    | 0, e1, e2 =>
      cases e1
      cases e2
      exact ⟨ha, ok⟩⟩
set_option maxHeartbeats 1000000 in
theorem ok_law (T : Top w K mg) : FnOk P w K mg base CX0 6 T.a_law T.d_law ["_law_script"] (spLaw K) := by
  refine T.F_law.ok sc_law (fun vs H Q E h => ?_) (fun cdv A outer s H vs Q E hr h => ?_)
  · obtain ⟨a, ns, rfl, _⟩ := h
    rfl
  · obtain ⟨a, ns, rfl, hS, hlen, q⟩ := h
    refine ⟨_, (pss_cons (ps_set (i := 1) sc_law.nd rfl (Or.inl rfl) (pe_call (ok__law_pool T) (hr.mono (by decide)) (by rfl) T.g__law_pool T.F__law_pool.kp (b__law_pool T) .nil pass0 (pa_cons (pv 0) pa_nil)))
      (pss_cons (ps_for PassesOwn.never rfl (pi_range1 (by rfl) T.z_range (pa_cons (pe_op op_sub (pe_callB (k_len K) (by rfl) T.z_len bt_len (pa_cons (pv 1) pa_nil)) pe_int) pa_nil)) (pg_name (i := 2) sc_law.nd rfl (Or.inl rfl)) (pss_cons (ps_set (i := 3) sc_law.nd rfl (Or.inl rfl) (pe_call (ok__law_any_command T) (hr.mono (by decide)) (by rfl) T.g__law_any_command T.F__law_any_command.kp (b__law_any_command T) .nil pass0 (pa_cons (pv 1) pa_nil)))
        (pss_cons (ps_set (i := 4) sc_law.nd rfl (Or.inl rfl) (pe_call (ok__law_pen T) (hr.mono (by decide)) (by rfl) T.g__law_pen T.F__law_pen.kp (b__law_pen T) .nil pass0 (pa_cons (pv 1) pa_nil)))
        (pss_cons (ps_set (i := 5) sc_law.nd rfl (Or.inl rfl) (pe_call (ok_matrix_of T) hr (by rfl) T.g_matrix_of T.F_matrix_of.kp (b_matrix_of T) .nil pass0 (pa_cons (pv 3) pa_nil)))
        (pss_cons (ps_if (PW.pt (pw_or (pt_not (pt_val (pe_call (ok__law_is_matrix T) (hr.mono (by decide)) (by rfl) T.g__law_is_matrix T.F__law_is_matrix.kp (b__law_is_matrix T) .nil pass0 (pa_cons (pv 5) pa_nil)))) (pw_or1 (pt_cmpR (k_neI K (hu64 hr)) (pv 5) (pe_call (ok__law_probe T) (hr.mono (by decide)) (by rfl) T.g__law_probe T.F__law_probe.kp (b__law_probe T) .nil pass0 (pa_cons (pe_lst (pa_cons (pv 3) pa_nil)) pa_nil)) (nomark _))))) (pss_one (ps_ret pe_bl)) pss_nil)
        (pss_cons (ps_if (pt_cmpR (k_neTI K (hu64 hr)) (pe_call (ok__law_image T) (hr.mono (by decide)) (by rfl) T.g__law_image T.F__law_image.kp (b__law_image T) .nil pass0 (pa_cons (pv 5) (pa_cons (pv 4) pa_nil))) (pe_call (ok__law_move T) (hr.mono (by decide)) (by rfl) T.g__law_move T.F__law_move.kp (b__law_move T) .nil pass0 (pa_cons (pv 4) (pa_cons (pv 3) pa_nil))) (nomark _)) (pss_one (ps_ret pe_bl)) pss_nil)
        (pss_cons (ps_set (i := 6) sc_law.nd rfl (Or.inl rfl) (pe_call (ok__law_draw T) (hr.mono (by decide)) (by rfl) T.g__law_draw T.F__law_draw.kp (b__law_draw T) .nil pass0 (pa_cons (pv 1) (pa_cons pe_int pa_nil))))
        (pss_cons (ps_asg (pe_op op_add (pe_ix (k_ixL K) (pv 5) (pv 6) (fun _ _ => rfl)) pe_int) (pg_sub (pv 5) (pv 6) set_list))
        (pss_one (ps_if (pt_cmpR (k_neI K (hu64 hr)) (pe_call (ok_matrix_of T) hr (by rfl) T.g_matrix_of T.F_matrix_of.kp (b_matrix_of T) .nil pass0 (pa_cons (pv 3) pa_nil)) (pe_call (ok__law_probe T) (hr.mono (by decide)) (by rfl) T.g__law_probe T.F__law_probe.kp (b__law_probe T) .nil pass0 (pa_cons (pe_lst (pa_cons (pv 3) pa_nil)) pa_nil)) (nomark _)) (pss_one (ps_ret pe_bl)) pss_nil))))))))))
      (pss_one (ps_ret pe_bl)))), ?_⟩
    refine ⟨_, rfl, a, ns, rfl, hS, hlen, fun H1 p L s1 np pl h2 h64 => ?_⟩
    obtain ⟨pn, hp, hL⟩ := pl
    have pl : Pool H1 p L := ⟨pn, hp, hL⟩
    refine ⟨_, rfl, p, _, rfl, .inl (SqL.of hp), _, _, rfl, rfl, _, rfl, ?_, ?_, for_range (n := (((pn.map V.int).length : Int) - 1).toNat) (fun i σ H' => ∃ (y2 y3 y4 y5 y6 : Option V), σ = [some (.ref a), some (.ref p), y2, y3, y4, y5, y6] ∧ Pool H' p L) ?_ (fun i σ H' hi h => ?_) (fun σ H' h => ?_)⟩
    · rw [len_map]
      omega
    · rw [len_map]
      omega
    · exact ⟨none, none, none, none, none, rfl, pl⟩
    · obtain ⟨y2, y3, y4, y5, y6, rfl, pl⟩ := h
      refine ⟨_, rfl, p, L, rfl, pl, h2, h64, fun cm c H3 okc k3 pl3 nc hc => ?_⟩
      refine ⟨_, rfl, p, L, rfl, pl3, h2, h64, fun b ps H4 lp bp k4 pl4 nb hb => ?_⟩
      have hc := k4 _ _ (pl.ne nc) hc
      have lm := mv_len (c := c) lp
      refine ⟨_, rfl, cm, c, rfl, hc, okc, fun m H5 s5 nm hm => ?_⟩
      refine ⟨_, rfl, m, _, rfl, hm, matL_len _, fun H6 s6 => ⟨true, rfl, ?_⟩⟩
      have s46 := s5.trans s6
      have hm := s6 _ _ hm
      refine ⟨_, rfl, _, rfl, small100 (n := 1) (by decide), fun d nd => ?_⟩
      have sd := same_upd (o := .lst [.ref cm]) nd
      have hd : (upd H6 d (.lst [.ref cm])) d = some (.lst [.ref cm]) := upd_same
      generalize upd H6 d (.lst [.ref cm]) = H7 at *
      have s47 := s46.trans sd
      have hm := sd _ _ hm
      refine ⟨d, [c], rfl, deeds1 hd (s47 _ _ hc) okc, by simp, fun pr H8 s8 npr hpr => ?_⟩
      have s48 := s47.trans s8
      have hm := s8 _ _ hm
      refine ⟨m, pr, _, _, rfl, rfl, SqL.of hm, SqL.of hpr, _, rfl, iteNS rfl ?_⟩
      refine ⟨_, rfl, _, rfl, m, b, _, ps, rfl, SqL.of hm, s48 _ _ hb, matL_len _, lp, (matL_bw okc).mono (by decide), (Bd.bw bp).mono (by decide), fun im H9 s9 nim him => ?_⟩
      have s49 := s48.trans s9
      refine ⟨_, rfl, _, rfl, b, cm, ps, c, rfl, s49 _ _ hb, lp, s49 _ _ hc, okc, fun mv H10 s10 nmv hmv => ?_⟩
      have s410 := s49.trans s10
      refine ⟨im, mv, _, _, rfl, rfl, SqT.of (s10 _ _ him), SqT.of hmv, _, rfl, iteNS (image_mat (aff_mv okc) lp lm) ?_⟩
      have hm := s10 _ _ (s9 _ _ hm)
      have pl10 : Pool H10 p L := by
        obtain ⟨z, hz, e⟩ := pl4
        exact ⟨z, s410 _ _ hz, e⟩
      refine ⟨_, rfl, p, L, 49, rfl, pl10, h2, h64, by decide, by decide, fun at_ H11 a0 a1 k11 pl11 => ?_⟩
      have nmp : m ≠ p := pl4.ne nm
      have ncp : cm ≠ p := pl.ne nc
      have hm := k11 _ _ nmp hm
      have hc11 := k11 _ _ ncp (s410 _ _ hc)
      have ncm : cm ≠ m := ne_of_none hc nm
      refine ⟨_, rfl, _, rfl, m, _, _, _, rfl, rfl, SqL.of hm, at_nat (t := at_.toNat) (by omega) (by rw [matL_len]; omega), _, _, rfl, rfl, _, rfl, _, rfl, m, _, at_, at_.toNat, rfl, rfl, hm, ixN_in a0 (by rw [len_map, matL_len]; omega), ?_⟩
      dsimp only
      have hc12 := (upd_ne (o := .lst (((matL c.mv).map V.int).set at_.toNat (.int ((matL c.mv).getD at_.toNat 0 + 1)))) ncm).trans hc11
      have pl12 := Pool.keep (o := .lst (((matL c.mv).map V.int).set at_.toNat (.int ((matL c.mv).getD at_.toNat 0 + 1)))) pl11 nmp
      generalize upd H11 m (.lst (((matL c.mv).map V.int).set at_.toNat (.int ((matL c.mv).getD at_.toNat 0 + 1)))) = H12 at *
      refine ⟨_, rfl, cm, c, rfl, hc12, okc, fun m2 H13 s13 nm2 hm2 => ?_⟩
      refine ⟨_, rfl, small100 (n := 1) (by decide), fun d2 nd2 => ?_⟩
      have sd2 := same_upd (o := .lst [.ref cm]) nd2
      have hd2 : (upd H13 d2 (.lst [.ref cm])) d2 = some (.lst [.ref cm]) := upd_same
      generalize upd H13 d2 (.lst [.ref cm]) = H14 at *
      refine ⟨d2, [c], rfl, deeds1 hd2 (sd2 _ _ (s13 _ _ hc12)) okc, by simp, fun pr2 H15 s15 npr2 hpr2 => ?_⟩
      refine ⟨m2, pr2, _, _, rfl, rfl, SqL.of (s15 _ _ (sd2 _ _ hm2)), SqL.of hpr2, _, rfl, iteNS rfl ?_⟩
      obtain ⟨z, hz, e⟩ := pl12
      exact ⟨_, _, _, _, _, rfl, z, s15 _ _ (sd2 _ _ (s13 _ _ hz)), e⟩
    · exact q _
end
theorem all_mk {l : PySem.W.OpenLaw} {w : World} {K : PySem.W.Frag} {h : Heap} {mg : Str → Option Value} {fa f0 f1 f2 f3 f4 f5 f6 f7 f8 f9 f10 f11 f12 f13 f14 f15 f16 f17 f18 f19 f20 f21 f22 : Addr} (X : K.In h) (G : h.Ns mainGlobals mg) (hfa : mg "law" = some (.ref fa))
    {od0 an0 od1 an1 od2 an2 od3 an3 od4 an4 od5 an5 od6 an6 od7 an7 od8 an8 od9 an9 od10 an10 od11 an11 od12 an12 od13 an13 od14 an14 od15 an15 od16 an16 od17 an17 od18 an18 od19 an19 od20 an20 od21 an21 od22 an22 : Option Addr} {sl0 sl1 sl2 sl3 sl4 sl5 sl6 sl7 sl8 sl9 sl10 sl11 sl12 sl13 sl14 sl15 sl16 sl17 sl18 sl19 sl20 sl21 sl22 : Array (Option Value)}
    {oc0 kV0 dc0 pm0 cd0 ct0 oc1 kV1 dc1 pm1 cd1 ct1 oc2 kV2 dc2 pm2 cd2 ct2 oc3 kV3 dc3 pm3 cd3 ct3 oc4 kV4 dc4 pm4 cd4 ct4 oc5 kV5 dc5 pm5 cd5 ct5 oc6 kV6 dc6 pm6 cd6 ct6 oc7 kV7 dc7 pm7 cd7 ct7 oc8 kV8 dc8 pm8 cd8 ct8 oc9 kV9 dc9 pm9 cd9 ct9 oc10 kV10 dc10 pm10 cd10 ct10 oc11 kV11 dc11 pm11 cd11 ct11 oc12 kV12 dc12 pm12 cd12 ct12 oc13 kV13 dc13 pm13 cd13 ct13 oc14 kV14 dc14 pm14 cd14 ct14 oc15 kV15 dc15 pm15 cd15 ct15 oc16 kV16 dc16 pm16 cd16 ct16 oc17 kV17 dc17 pm17 cd17 ct17 oc18 kV18 dc18 pm18 cd18 ct18 oc19 kV19 dc19 pm19 cd19 ct19 oc20 kV20 dc20 pm20 cd20 ct20 oc21 kV21 dc21 pm21 cd21 ct21 oc22 kV22 dc22 pm22 cd22 ct22 : Value}
    (a0 : PySem.W.nsIn K mainGlobals "is_integer" = some (some (.ref f0)))
    (l0 : K.lookup f0 = some ⟨oc0, od0, .func (PySem.W.fnOf "is_integer" "is_integer" (defArgs s_is_integer) (defBody s_is_integer) (defScope s_is_integer) .none kV0 dc0 pm0 an0 cd0 ct0), sl0⟩)
    (c0 : PySem.W.codeIn K cd0 "is_integer" = true)
    (k0 : PySem.W.keepIn K (.ref f0) = true)
    (a1 : PySem.W.nsIn K mainGlobals "is_pen" = some (some (.ref f1)))
    (l1 : K.lookup f1 = some ⟨oc1, od1, .func (PySem.W.fnOf "is_pen" "is_pen" (defArgs s_is_pen) (defBody s_is_pen) (defScope s_is_pen) .none kV1 dc1 pm1 an1 cd1 ct1), sl1⟩)
    (c1 : PySem.W.codeIn K cd1 "is_pen" = true)
    (k1 : PySem.W.keepIn K (.ref f1) = true)
    (a2 : PySem.W.nsIn K mainGlobals "is_within" = some (some (.ref f2)))
    (l2 : K.lookup f2 = some ⟨oc2, od2, .func (PySem.W.fnOf "is_within" "is_within" (defArgs s_is_within) (defBody s_is_within) (defScope s_is_within) .none kV2 dc2 pm2 an2 cd2 ct2), sl2⟩)
    (c2 : PySem.W.codeIn K cd2 "is_within" = true)
    (k2 : PySem.W.keepIn K (.ref f2) = true)
    (a3 : PySem.W.nsIn K mainGlobals "is_command" = some (some (.ref f3)))
    (l3 : K.lookup f3 = some ⟨oc3, od3, .func (PySem.W.fnOf "is_command" "is_command" (defArgs s_is_command) (defBody s_is_command) (defScope s_is_command) .none kV3 dc3 pm3 an3 cd3 ct3), sl3⟩)
    (c3 : PySem.W.codeIn K cd3 "is_command" = true)
    (k3 : PySem.W.keepIn K (.ref f3) = true)
    (a4 : PySem.W.nsIn K mainGlobals "turned" = some (some (.ref f4)))
    (l4 : K.lookup f4 = some ⟨oc4, od4, .func (PySem.W.fnOf "turned" "turned" (defArgs s_turned) (defBody s_turned) (defScope s_turned) .none kV4 dc4 pm4 an4 cd4 ct4), sl4⟩)
    (c4 : PySem.W.codeIn K cd4 "turned" = true)
    (k4 : PySem.W.keepIn K (.ref f4) = true)
    (a5 : PySem.W.nsIn K mainGlobals "moved" = some (some (.ref f5)))
    (l5 : K.lookup f5 = some ⟨oc5, od5, .func (PySem.W.fnOf "moved" "moved" (defArgs s_moved) (defBody s_moved) (defScope s_moved) .none kV5 dc5 pm5 an5 cd5 ct5), sl5⟩)
    (c5 : PySem.W.codeIn K cd5 "moved" = true)
    (k5 : PySem.W.keepIn K (.ref f5) = true)
    (a6 : PySem.W.nsIn K mainGlobals "vector" = some (some (.ref f6)))
    (l6 : K.lookup f6 = some ⟨oc6, od6, .func (PySem.W.fnOf "vector" "vector" (defArgs s_vector) (defBody s_vector) (defScope s_vector) .none kV6 dc6 pm6 an6 cd6 ct6), sl6⟩)
    (c6 : PySem.W.codeIn K cd6 "vector" = true)
    (k6 : PySem.W.keepIn K (.ref f6) = true)
    (a7 : PySem.W.nsIn K mainGlobals "unit_pen" = some (some (.ref f7)))
    (l7 : K.lookup f7 = some ⟨oc7, od7, .func (PySem.W.fnOf "unit_pen" "unit_pen" (defArgs s_unit_pen) (defBody s_unit_pen) (defScope s_unit_pen) .none kV7 dc7 pm7 an7 cd7 ct7), sl7⟩)
    (c7 : PySem.W.codeIn K cd7 "unit_pen" = true)
    (k7 : PySem.W.keepIn K (.ref f7) = true)
    (a8 : PySem.W.nsIn K mainGlobals "probes" = some (some (.ref f8)))
    (l8 : K.lookup f8 = some ⟨oc8, od8, .func (PySem.W.fnOf "probes" "probes" (defArgs s_probes) (defBody s_probes) (defScope s_probes) .none kV8 dc8 pm8 an8 cd8 ct8), sl8⟩)
    (c8 : PySem.W.codeIn K cd8 "probes" = true)
    (k8 : PySem.W.keepIn K (.ref f8) = true)
    (a9 : PySem.W.nsIn K mainGlobals "matrix_from" = some (some (.ref f9)))
    (l9 : K.lookup f9 = some ⟨oc9, od9, .func (PySem.W.fnOf "matrix_from" "matrix_from" (defArgs s_matrix_from) (defBody s_matrix_from) (defScope s_matrix_from) .none kV9 dc9 pm9 an9 cd9 ct9), sl9⟩)
    (c9 : PySem.W.codeIn K cd9 "matrix_from" = true)
    (k9 : PySem.W.keepIn K (.ref f9) = true)
    (a10 : PySem.W.nsIn K mainGlobals "matrix_of" = some (some (.ref f10)))
    (l10 : K.lookup f10 = some ⟨oc10, od10, .func (PySem.W.fnOf "matrix_of" "matrix_of" (defArgs s_matrix_of) (defBody s_matrix_of) (defScope s_matrix_of) .none kV10 dc10 pm10 an10 cd10 ct10), sl10⟩)
    (c10 : PySem.W.codeIn K cd10 "matrix_of" = true)
    (k10 : PySem.W.keepIn K (.ref f10) = true)
    (a11 : PySem.W.nsIn K mainGlobals "_law_pool" = some (some (.ref f11)))
    (l11 : K.lookup f11 = some ⟨oc11, od11, .func (PySem.W.fnOf "_law_pool" "_law_pool" (defArgs s__law_pool) (defBody s__law_pool) (defScope s__law_pool) .none kV11 dc11 pm11 an11 cd11 ct11), sl11⟩)
    (c11 : PySem.W.codeIn K cd11 "_law_pool" = true)
    (k11 : PySem.W.keepIn K (.ref f11) = true)
    (a12 : PySem.W.nsIn K mainGlobals "_law_draw" = some (some (.ref f12)))
    (l12 : K.lookup f12 = some ⟨oc12, od12, .func (PySem.W.fnOf "_law_draw" "_law_draw" (defArgs s__law_draw) (defBody s__law_draw) (defScope s__law_draw) .none kV12 dc12 pm12 an12 cd12 ct12), sl12⟩)
    (c12 : PySem.W.codeIn K cd12 "_law_draw" = true)
    (k12 : PySem.W.keepIn K (.ref f12) = true)
    (a13 : PySem.W.nsIn K mainGlobals "_law_number" = some (some (.ref f13)))
    (l13 : K.lookup f13 = some ⟨oc13, od13, .func (PySem.W.fnOf "_law_number" "_law_number" (defArgs s__law_number) (defBody s__law_number) (defScope s__law_number) .none kV13 dc13 pm13 an13 cd13 ct13), sl13⟩)
    (c13 : PySem.W.codeIn K cd13 "_law_number" = true)
    (k13 : PySem.W.keepIn K (.ref f13) = true)
    (a14 : PySem.W.nsIn K mainGlobals "_law_pen" = some (some (.ref f14)))
    (l14 : K.lookup f14 = some ⟨oc14, od14, .func (PySem.W.fnOf "_law_pen" "_law_pen" (defArgs s__law_pen) (defBody s__law_pen) (defScope s__law_pen) .none kV14 dc14 pm14 an14 cd14 ct14), sl14⟩)
    (c14 : PySem.W.codeIn K cd14 "_law_pen" = true)
    (k14 : PySem.W.keepIn K (.ref f14) = true)
    (a15 : PySem.W.nsIn K mainGlobals "_law_move" = some (some (.ref f15)))
    (l15 : K.lookup f15 = some ⟨oc15, od15, .func (PySem.W.fnOf "_law_move" "_law_move" (defArgs s__law_move) (defBody s__law_move) (defScope s__law_move) .none kV15 dc15 pm15 an15 cd15 ct15), sl15⟩)
    (c15 : PySem.W.codeIn K cd15 "_law_move" = true)
    (k15 : PySem.W.keepIn K (.ref f15) = true)
    (a16 : PySem.W.nsIn K mainGlobals "_law_is_matrix" = some (some (.ref f16)))
    (l16 : K.lookup f16 = some ⟨oc16, od16, .func (PySem.W.fnOf "_law_is_matrix" "_law_is_matrix" (defArgs s__law_is_matrix) (defBody s__law_is_matrix) (defScope s__law_is_matrix) .none kV16 dc16 pm16 an16 cd16 ct16), sl16⟩)
    (c16 : PySem.W.codeIn K cd16 "_law_is_matrix" = true)
    (k16 : PySem.W.keepIn K (.ref f16) = true)
    (a17 : PySem.W.nsIn K mainGlobals "_law_image" = some (some (.ref f17)))
    (l17 : K.lookup f17 = some ⟨oc17, od17, .func (PySem.W.fnOf "_law_image" "_law_image" (defArgs s__law_image) (defBody s__law_image) (defScope s__law_image) .none kV17 dc17 pm17 an17 cd17 ct17), sl17⟩)
    (c17 : PySem.W.codeIn K cd17 "_law_image" = true)
    (k17 : PySem.W.keepIn K (.ref f17) = true)
    (a18 : PySem.W.nsIn K mainGlobals "_law_pens" = some (some (.ref f18)))
    (l18 : K.lookup f18 = some ⟨oc18, od18, .func (PySem.W.fnOf "_law_pens" "_law_pens" (defArgs s__law_pens) (defBody s__law_pens) (defScope s__law_pens) .none kV18 dc18 pm18 an18 cd18 ct18), sl18⟩)
    (c18 : PySem.W.codeIn K cd18 "_law_pens" = true)
    (k18 : PySem.W.keepIn K (.ref f18) = true)
    (a19 : PySem.W.nsIn K mainGlobals "_law_probe" = some (some (.ref f19)))
    (l19 : K.lookup f19 = some ⟨oc19, od19, .func (PySem.W.fnOf "_law_probe" "_law_probe" (defArgs s__law_probe) (defBody s__law_probe) (defScope s__law_probe) .none kV19 dc19 pm19 an19 cd19 ct19), sl19⟩)
    (c19 : PySem.W.codeIn K cd19 "_law_probe" = true)
    (k19 : PySem.W.keepIn K (.ref f19) = true)
    (a20 : PySem.W.nsIn K mainGlobals "_law_any_command" = some (some (.ref f20)))
    (l20 : K.lookup f20 = some ⟨oc20, od20, .func (PySem.W.fnOf "_law_any_command" "_law_any_command" (defArgs s__law_any_command) (defBody s__law_any_command) (defScope s__law_any_command) .none kV20 dc20 pm20 an20 cd20 ct20), sl20⟩)
    (c20 : PySem.W.codeIn K cd20 "_law_any_command" = true)
    (k20 : PySem.W.keepIn K (.ref f20) = true)
    (a21 : PySem.W.nsIn K mainGlobals "_law_is_row" = some (some (.ref f21)))
    (l21 : K.lookup f21 = some ⟨oc21, od21, .func (PySem.W.fnOf "_law_is_row" "_law_is_row" (defArgs s__law_is_row) (defBody s__law_is_row) (defScope s__law_is_row) .none kV21 dc21 pm21 an21 cd21 ct21), sl21⟩)
    (c21 : PySem.W.codeIn K cd21 "_law_is_row" = true)
    (k21 : PySem.W.keepIn K (.ref f21) = true)
    (a22 : PySem.W.nsIn K mainGlobals "law" = some (some (.ref f22)))
    (l22 : K.lookup f22 = some ⟨oc22, od22, .func (PySem.W.fnOf "law" "law" (defArgs s_law) (defBody s_law) (defScope s_law) .none kV22 dc22 pm22 an22 cd22 ct22), sl22⟩)
    (c22 : PySem.W.codeIn K cd22 "law" = true)
    (k22 : PySem.W.keepIn K (.ref f22) = true)
    (z0 : PySem.W.nsIn K mainGlobals "all" = some none)
    (z1 : PySem.W.nsIn K mainGlobals "bool" = some none)
    (z2 : PySem.W.nsIn K mainGlobals "int" = some none)
    (z3 : PySem.W.nsIn K mainGlobals "isinstance" = some none)
    (z4 : PySem.W.nsIn K mainGlobals "len" = some none)
    (z5 : PySem.W.nsIn K mainGlobals "list" = some none)
    (z6 : PySem.W.nsIn K mainGlobals "range" = some none)
    (z7 : PySem.W.nsIn K mainGlobals "str" = some none)
    (z8 : PySem.W.nsIn K mainGlobals "sum" = some none)
    (z9 : PySem.W.nsIn K mainGlobals "tuple" = some none)
    (z10 : PySem.W.nsIn K mainGlobals "zip" = some none)
    {aB : Addr}
    (gB : PySem.W.nsIn K mainGlobals "BOUNDS" = some (some (.ref aB)))
    {eB : Array DictEntry}
    {nB : Nat}
    (lB : K.lookup aB = some ⟨.type "dict", none, .dict eB nB, #[]⟩) (iB : PySem.W.KeysLit w.params eB.toList) (wB : (aB == sysModules) = false)
    {b0 : Addr} {db0 : Option Addr} {nb0 : Nat} {sb0 : Array (Option Value)} {p0_0 : Addr} {dp0_0 : Option Addr} {np0_0 : Nat} {sp0_0 : Array (Option Value)} {t0_0 u0_0 : Tok} {b1 : Addr} {db1 : Option Addr} {nb1 : Nat} {sb1 : Array (Option Value)} {p1_0 : Addr} {dp1_0 : Option Addr} {np1_0 : Nat} {sp1_0 : Array (Option Value)} {t1_0 u1_0 : Tok} {b2 : Addr} {db2 : Option Addr} {nb2 : Nat} {sb2 : Array (Option Value)} {b3 : Addr} {db3 : Option Addr} {nb3 : Nat} {sb3 : Array (Option Value)} {p3_0 : Addr} {dp3_0 : Option Addr} {np3_0 : Nat} {sp3_0 : Array (Option Value)} {t3_0 u3_0 : Tok} {b4 : Addr} {db4 : Option Addr} {nb4 : Nat} {sb4 : Array (Option Value)} {p4_0 : Addr} {dp4_0 : Option Addr} {np4_0 : Nat} {sp4_0 : Array (Option Value)} {t4_0 u4_0 : Tok} {p4_1 : Addr} {dp4_1 : Option Addr} {np4_1 : Nat} {sp4_1 : Array (Option Value)} {t4_1 u4_1 : Tok} {b5 : Addr} {db5 : Option Addr} {nb5 : Nat} {sb5 : Array (Option Value)} {p5_0 : Addr} {dp5_0 : Option Addr} {np5_0 : Nat} {sp5_0 : Array (Option Value)} {t5_0 u5_0 : Tok} {p5_1 : Addr} {dp5_1 : Option Addr} {np5_1 : Nat} {sp5_1 : Array (Option Value)} {t5_1 u5_1 : Tok} {b6 : Addr} {db6 : Option Addr} {nb6 : Nat} {sb6 : Array (Option Value)} {b7 : Addr} {db7 : Option Addr} {nb7 : Nat} {sb7 : Array (Option Value)} {b8 : Addr} {db8 : Option Addr} {nb8 : Nat} {sb8 : Array (Option Value)} (rn0 : PySem.W.nsIn K aB "go" = some (some (.ref b0))) (rl0 : K.lookup b0 = some ⟨.type "tuple", db0, .seq ([.ref p0_0] : List Value).toArray nb0, sb0⟩) (rp0_0 : K.lookup p0_0 = some ⟨.type "tuple", dp0_0, .seq ([.int (-9) t0_0, .int 9 u0_0] : List Value).toArray np0_0, sp0_0⟩) (rn1 : PySem.W.nsIn K aB "turn" = some (some (.ref b1))) (rl1 : K.lookup b1 = some ⟨.type "tuple", db1, .seq ([.ref p1_0] : List Value).toArray nb1, sb1⟩) (rp1_0 : K.lookup p1_0 = some ⟨.type "tuple", dp1_0, .seq ([.int (1) t1_0, .int 3 u1_0] : List Value).toArray np1_0, sp1_0⟩) (rn2 : PySem.W.nsIn K aB "mirror" = some (some (.ref b2))) (rl2 : K.lookup b2 = some ⟨.type "tuple", db2, .seq ([] : List Value).toArray nb2, sb2⟩) (rn3 : PySem.W.nsIn K aB "scale" = some (some (.ref b3))) (rl3 : K.lookup b3 = some ⟨.type "tuple", db3, .seq ([.ref p3_0] : List Value).toArray nb3, sb3⟩) (rp3_0 : K.lookup p3_0 = some ⟨.type "tuple", dp3_0, .seq ([.int (-3) t3_0, .int 3 u3_0] : List Value).toArray np3_0, sp3_0⟩) (rn4 : PySem.W.nsIn K aB "aim" = some (some (.ref b4))) (rl4 : K.lookup b4 = some ⟨.type "tuple", db4, .seq ([.ref p4_0, .ref p4_1] : List Value).toArray nb4, sb4⟩) (rp4_0 : K.lookup p4_0 = some ⟨.type "tuple", dp4_0, .seq ([.int (-9) t4_0, .int 9 u4_0] : List Value).toArray np4_0, sp4_0⟩) (rp4_1 : K.lookup p4_1 = some ⟨.type "tuple", dp4_1, .seq ([.int (-9) t4_1, .int 9 u4_1] : List Value).toArray np4_1, sp4_1⟩) (rn5 : PySem.W.nsIn K aB "place" = some (some (.ref b5))) (rl5 : K.lookup b5 = some ⟨.type "tuple", db5, .seq ([.ref p5_0, .ref p5_1] : List Value).toArray nb5, sb5⟩) (rp5_0 : K.lookup p5_0 = some ⟨.type "tuple", dp5_0, .seq ([.int (-9) t5_0, .int 9 u5_0] : List Value).toArray np5_0, sp5_0⟩) (rp5_1 : K.lookup p5_1 = some ⟨.type "tuple", dp5_1, .seq ([.int (-9) t5_1, .int 9 u5_1] : List Value).toArray np5_1, sp5_1⟩) (rn6 : PySem.W.nsIn K aB "mark" = some (some (.ref b6))) (rl6 : K.lookup b6 = some ⟨.type "tuple", db6, .seq ([] : List Value).toArray nb6, sb6⟩) (rn7 : PySem.W.nsIn K aB "return" = some (some (.ref b7))) (rl7 : K.lookup b7 = some ⟨.type "tuple", db7, .seq ([] : List Value).toArray nb7, sb7⟩) (rn8 : PySem.W.nsIn K aB "exchange" = some (some (.ref b8))) (rl8 : K.lookup b8 = some ⟨.type "tuple", db8, .seq ([] : List Value).toArray nb8, sb8⟩)
    : ∃ fd : FuncData, (∀ (s : Shared) (v : Value), BindsTo s fd ⟨[v], []⟩ [("_law_script", v)]) ∧ ∀ base : Heap, K.In base → base.Ns mainGlobals mg → FnOk l.prog w K mg base CX0 6 fa fd ["_law_script"] (spLaw K) := by
  have e := hfa.symm.trans (PySem.W.mg_of X G a22)
  cases e
  have F0 := fun_mk (st := s_is_integer) l0 c0 k0
  have F1 := fun_mk (st := s_is_pen) l1 c1 k1
  have F2 := fun_mk (st := s_is_within) l2 c2 k2
  have F3 := fun_mk (st := s_is_command) l3 c3 k3
  have F4 := fun_mk (st := s_turned) l4 c4 k4
  have F5 := fun_mk (st := s_moved) l5 c5 k5
  have F6 := fun_mk (st := s_vector) l6 c6 k6
  have F7 := fun_mk (st := s_unit_pen) l7 c7 k7
  have F8 := fun_mk (st := s_probes) l8 c8 k8
  have F9 := fun_mk (st := s_matrix_from) l9 c9 k9
  have F10 := fun_mk (st := s_matrix_of) l10 c10 k10
  have F11 := fun_mk (st := s__law_pool) l11 c11 k11
  have F12 := fun_mk (st := s__law_draw) l12 c12 k12
  have F13 := fun_mk (st := s__law_number) l13 c13 k13
  have F14 := fun_mk (st := s__law_pen) l14 c14 k14
  have F15 := fun_mk (st := s__law_move) l15 c15 k15
  have F16 := fun_mk (st := s__law_is_matrix) l16 c16 k16
  have F17 := fun_mk (st := s__law_image) l17 c17 k17
  have F18 := fun_mk (st := s__law_pens) l18 c18 k18
  have F19 := fun_mk (st := s__law_probe) l19 c19 k19
  have F20 := fun_mk (st := s__law_any_command) l20 c20 k20
  have F21 := fun_mk (st := s__law_is_row) l21 c21 k21
  have F22 := fun_mk (st := s_law) l22 c22 k22
  have T : ∃ T : Top w K mg, T.a_law = fa ∧ T.d_law = PySem.W.fnOf "law" "law" (defArgs s_law) (defBody s_law) (defScope s_law) .none kV22 dc22 pm22 an22 cd22 ct22 := ⟨{ a_is_integer := f0, d_is_integer := PySem.W.fnOf "is_integer" "is_integer" (defArgs s_is_integer) (defBody s_is_integer) (defScope s_is_integer) .none kV0 dc0 pm0 an0 cd0 ct0, F_is_integer := F0, g_is_integer := PySem.W.mg_of X G a0, a_is_pen := f1, d_is_pen := PySem.W.fnOf "is_pen" "is_pen" (defArgs s_is_pen) (defBody s_is_pen) (defScope s_is_pen) .none kV1 dc1 pm1 an1 cd1 ct1, F_is_pen := F1, g_is_pen := PySem.W.mg_of X G a1, a_is_within := f2, d_is_within := PySem.W.fnOf "is_within" "is_within" (defArgs s_is_within) (defBody s_is_within) (defScope s_is_within) .none kV2 dc2 pm2 an2 cd2 ct2, F_is_within := F2, g_is_within := PySem.W.mg_of X G a2, a_is_command := f3, d_is_command := PySem.W.fnOf "is_command" "is_command" (defArgs s_is_command) (defBody s_is_command) (defScope s_is_command) .none kV3 dc3 pm3 an3 cd3 ct3, F_is_command := F3, g_is_command := PySem.W.mg_of X G a3, a_turned := f4, d_turned := PySem.W.fnOf "turned" "turned" (defArgs s_turned) (defBody s_turned) (defScope s_turned) .none kV4 dc4 pm4 an4 cd4 ct4, F_turned := F4, g_turned := PySem.W.mg_of X G a4, a_moved := f5, d_moved := PySem.W.fnOf "moved" "moved" (defArgs s_moved) (defBody s_moved) (defScope s_moved) .none kV5 dc5 pm5 an5 cd5 ct5, F_moved := F5, g_moved := PySem.W.mg_of X G a5, a_vector := f6, d_vector := PySem.W.fnOf "vector" "vector" (defArgs s_vector) (defBody s_vector) (defScope s_vector) .none kV6 dc6 pm6 an6 cd6 ct6, F_vector := F6, g_vector := PySem.W.mg_of X G a6, a_unit_pen := f7, d_unit_pen := PySem.W.fnOf "unit_pen" "unit_pen" (defArgs s_unit_pen) (defBody s_unit_pen) (defScope s_unit_pen) .none kV7 dc7 pm7 an7 cd7 ct7, F_unit_pen := F7, g_unit_pen := PySem.W.mg_of X G a7, a_probes := f8, d_probes := PySem.W.fnOf "probes" "probes" (defArgs s_probes) (defBody s_probes) (defScope s_probes) .none kV8 dc8 pm8 an8 cd8 ct8, F_probes := F8, g_probes := PySem.W.mg_of X G a8, a_matrix_from := f9, d_matrix_from := PySem.W.fnOf "matrix_from" "matrix_from" (defArgs s_matrix_from) (defBody s_matrix_from) (defScope s_matrix_from) .none kV9 dc9 pm9 an9 cd9 ct9, F_matrix_from := F9, g_matrix_from := PySem.W.mg_of X G a9, a_matrix_of := f10, d_matrix_of := PySem.W.fnOf "matrix_of" "matrix_of" (defArgs s_matrix_of) (defBody s_matrix_of) (defScope s_matrix_of) .none kV10 dc10 pm10 an10 cd10 ct10, F_matrix_of := F10, g_matrix_of := PySem.W.mg_of X G a10, a__law_pool := f11, d__law_pool := PySem.W.fnOf "_law_pool" "_law_pool" (defArgs s__law_pool) (defBody s__law_pool) (defScope s__law_pool) .none kV11 dc11 pm11 an11 cd11 ct11, F__law_pool := F11, g__law_pool := PySem.W.mg_of X G a11, a__law_draw := f12, d__law_draw := PySem.W.fnOf "_law_draw" "_law_draw" (defArgs s__law_draw) (defBody s__law_draw) (defScope s__law_draw) .none kV12 dc12 pm12 an12 cd12 ct12, F__law_draw := F12, g__law_draw := PySem.W.mg_of X G a12, a__law_number := f13, d__law_number := PySem.W.fnOf "_law_number" "_law_number" (defArgs s__law_number) (defBody s__law_number) (defScope s__law_number) .none kV13 dc13 pm13 an13 cd13 ct13, F__law_number := F13, g__law_number := PySem.W.mg_of X G a13, a__law_pen := f14, d__law_pen := PySem.W.fnOf "_law_pen" "_law_pen" (defArgs s__law_pen) (defBody s__law_pen) (defScope s__law_pen) .none kV14 dc14 pm14 an14 cd14 ct14, F__law_pen := F14, g__law_pen := PySem.W.mg_of X G a14, a__law_move := f15, d__law_move := PySem.W.fnOf "_law_move" "_law_move" (defArgs s__law_move) (defBody s__law_move) (defScope s__law_move) .none kV15 dc15 pm15 an15 cd15 ct15, F__law_move := F15, g__law_move := PySem.W.mg_of X G a15, a__law_is_matrix := f16, d__law_is_matrix := PySem.W.fnOf "_law_is_matrix" "_law_is_matrix" (defArgs s__law_is_matrix) (defBody s__law_is_matrix) (defScope s__law_is_matrix) .none kV16 dc16 pm16 an16 cd16 ct16, F__law_is_matrix := F16, g__law_is_matrix := PySem.W.mg_of X G a16, a__law_image := f17, d__law_image := PySem.W.fnOf "_law_image" "_law_image" (defArgs s__law_image) (defBody s__law_image) (defScope s__law_image) .none kV17 dc17 pm17 an17 cd17 ct17, F__law_image := F17, g__law_image := PySem.W.mg_of X G a17, a__law_pens := f18, d__law_pens := PySem.W.fnOf "_law_pens" "_law_pens" (defArgs s__law_pens) (defBody s__law_pens) (defScope s__law_pens) .none kV18 dc18 pm18 an18 cd18 ct18, F__law_pens := F18, g__law_pens := PySem.W.mg_of X G a18, a__law_probe := f19, d__law_probe := PySem.W.fnOf "_law_probe" "_law_probe" (defArgs s__law_probe) (defBody s__law_probe) (defScope s__law_probe) .none kV19 dc19 pm19 an19 cd19 ct19, F__law_probe := F19, g__law_probe := PySem.W.mg_of X G a19, a__law_any_command := f20, d__law_any_command := PySem.W.fnOf "_law_any_command" "_law_any_command" (defArgs s__law_any_command) (defBody s__law_any_command) (defScope s__law_any_command) .none kV20 dc20 pm20 an20 cd20 ct20, F__law_any_command := F20, g__law_any_command := PySem.W.mg_of X G a20, a__law_is_row := f21, d__law_is_row := PySem.W.fnOf "_law_is_row" "_law_is_row" (defArgs s__law_is_row) (defBody s__law_is_row) (defScope s__law_is_row) .none kV21 dc21 pm21 an21 cd21 ct21, F__law_is_row := F21, g__law_is_row := PySem.W.mg_of X G a21, a_law := fa, d_law := PySem.W.fnOf "law" "law" (defArgs s_law) (defBody s_law) (defScope s_law) .none kV22 dc22 pm22 an22 cd22 ct22, F_law := F22, g_law := PySem.W.mg_of X G a22, z_all := PySem.W.mg_none_of X G z0, z_bool := PySem.W.mg_none_of X G z1, z_int := PySem.W.mg_none_of X G z2, z_isinstance := PySem.W.mg_none_of X G z3, z_len := PySem.W.mg_none_of X G z4, z_list := PySem.W.mg_none_of X G z5, z_range := PySem.W.mg_none_of X G z6, z_str := PySem.W.mg_none_of X G z7, z_sum := PySem.W.mg_none_of X G z8, z_tuple := PySem.W.mg_none_of X G z9, z_zip := PySem.W.mg_none_of X G z10, a_BOUNDS := aB, c_BOUNDS := ⟨_, PySem.W.mg_of X G gB, rfl⟩, e_B := eB, n_B := nB, D_B := ⟨lB, iB, wB⟩, L_B := lims_of (row1 lB iB rn0 rl0 rp0_0) (row1 lB iB rn1 rl1 rp1_0) (row0 lB iB rn2 rl2) (row1 lB iB rn3 rl3 rp3_0) (row2 lB iB rn4 rl4 rp4_0 rp4_1) (row2 lB iB rn5 rl5 rp5_0 rp5_1) (row0 lB iB rn6 rl6) (row0 lB iB rn7 rl7) (row0 lB iB rn8 rl8) }, rfl, rfl⟩
  obtain ⟨T, e1, e2⟩ := T
  refine ⟨PySem.W.fnOf "law" "law" (defArgs s_law) (defBody s_law) (defScope s_law) .none kV22 dc22 pm22 an22 cd22 ct22, fun s v => .of_eq rfl, fun base _ _ => ?_⟩
  · rw [← e1, ← e2]; exact ok_law T
end My
open PySem PySem.W PyProof.Rows
set_option maxRecDepth 100000 in
set_option maxHeartbeats 0 in
theorem PySem.Challenge.cw_penhome_k03_matrix_of_a_command_holds : PySem.Challenge.rw_penhome_k03_matrix_of_a_command.Holds := by
  w_on; o_law; k_head; (case hw => w_witness2)
  k_fill
  refine L2.walk_of (l := PySem.Challenge.rw_penhome_k03_matrix_of_a_command) (n := 63) (k := 6) (x := "_law_script") (CX := fun _ => L2.CX0) (sp := fun w => My.spLaw _) rfl (by decide) rfl ⟨rfl, by decide, by decide⟩ (fun w h Y => PySem.W.kIn_of Y) ?F (fun _ _ a ns hl _ hS => ⟨a, ns, rfl, hS, hl, fun _ => rfl⟩) (fun _ _ _ _ _ h => h)
  case F =>
    intro w mg fa h KX G hmg
    refine' My.all_mk KX G hmg ?a0 ?l0 ?c0 ?k0 ?a1 ?l1 ?c1 ?k1 ?a2 ?l2 ?c2 ?k2 ?a3 ?l3 ?c3 ?k3 ?a4 ?l4 ?c4 ?k4 ?a5 ?l5 ?c5 ?k5 ?a6 ?l6 ?c6 ?k6 ?a7 ?l7 ?c7 ?k7 ?a8 ?l8 ?c8 ?k8 ?a9 ?l9 ?c9 ?k9 ?a10 ?l10 ?c10 ?k10 ?a11 ?l11 ?c11 ?k11 ?a12 ?l12 ?c12 ?k12 ?a13 ?l13 ?c13 ?k13 ?a14 ?l14 ?c14 ?k14 ?a15 ?l15 ?c15 ?k15 ?a16 ?l16 ?c16 ?k16 ?a17 ?l17 ?c17 ?k17 ?a18 ?l18 ?c18 ?k18 ?a19 ?l19 ?c19 ?k19 ?a20 ?l20 ?c20 ?k20 ?a21 ?l21 ?c21 ?k21 ?a22 ?l22 ?c22 ?k22 ?z0 ?z1 ?z2 ?z3 ?z4 ?z5 ?z6 ?z7 ?z8 ?z9 ?z10 ?gB ?lB ?iB ?wB ?rn0 ?rl0 ?rp0_0 ?rn1 ?rl1 ?rp1_0 ?rn2 ?rl2 ?rn3 ?rl3 ?rp3_0 ?rn4 ?rl4 ?rp4_0 ?rp4_1 ?rn5 ?rl5 ?rp5_0 ?rp5_1 ?rn6 ?rl6 ?rn7 ?rl7 ?rn8 ?rl8
    (case a0 => k_is); (case l0 => k_is); (case c0 => k_is); (case k0 => k_is); (case a1 => k_is); (case l1 => k_is); (case c1 => k_is); (case k1 => k_is); (case a2 => k_is); (case l2 => k_is); (case c2 => k_is); (case k2 => k_is); (case a3 => k_is); (case l3 => k_is); (case c3 => k_is); (case k3 => k_is); (case a4 => k_is); (case l4 => k_is); (case c4 => k_is); (case k4 => k_is); (case a5 => k_is); (case l5 => k_is); (case c5 => k_is); (case k5 => k_is); (case a6 => k_is); (case l6 => k_is); (case c6 => k_is); (case k6 => k_is); (case a7 => k_is); (case l7 => k_is); (case c7 => k_is); (case k7 => k_is); (case a8 => k_is); (case l8 => k_is); (case c8 => k_is); (case k8 => k_is); (case a9 => k_is); (case l9 => k_is); (case c9 => k_is); (case k9 => k_is); (case a10 => k_is); (case l10 => k_is); (case c10 => k_is); (case k10 => k_is); (case a11 => k_is); (case l11 => k_is); (case c11 => k_is); (case k11 => k_is); (case a12 => k_is); (case l12 => k_is); (case c12 => k_is); (case k12 => k_is); (case a13 => k_is); (case l13 => k_is); (case c13 => k_is); (case k13 => k_is); (case a14 => k_is); (case l14 => k_is); (case c14 => k_is); (case k14 => k_is); (case a15 => k_is); (case l15 => k_is); (case c15 => k_is); (case k15 => k_is); (case a16 => k_is); (case l16 => k_is); (case c16 => k_is); (case k16 => k_is); (case a17 => k_is); (case l17 => k_is); (case c17 => k_is); (case k17 => k_is); (case a18 => k_is); (case l18 => k_is); (case c18 => k_is); (case k18 => k_is); (case a19 => k_is); (case l19 => k_is); (case c19 => k_is); (case k19 => k_is); (case a20 => k_is); (case l20 => k_is); (case c20 => k_is); (case k20 => k_is); (case a21 => k_is); (case l21 => k_is); (case c21 => k_is); (case k21 => k_is); (case a22 => k_is); (case l22 => k_is); (case c22 => k_is); (case k22 => k_is); (case z0 => k_is); (case z1 => k_is); (case z2 => k_is); (case z3 => k_is); (case z4 => k_is); (case z5 => k_is); (case z6 => k_is); (case z7 => k_is); (case z8 => k_is); (case z9 => k_is); (case z10 => k_is); (case gB => k_is); (case lB => k_is); (case iB => repeat (first | exact True.intro | refine ⟨⟨_, _, rfl, rfl⟩, ?_⟩)); (case wB => decide); (case rn0 => k_is); (case rl0 => k_is); (case rp0_0 => k_is); (case rn1 => k_is); (case rl1 => k_is); (case rp1_0 => k_is); (case rn2 => k_is); (case rl2 => k_is); (case rn3 => k_is); (case rl3 => k_is); (case rp3_0 => k_is); (case rn4 => k_is); (case rl4 => k_is); (case rp4_0 => k_is); (case rp4_1 => k_is); (case rn5 => k_is); (case rl5 => k_is); (case rp5_0 => k_is); (case rp5_1 => k_is); (case rn6 => k_is); (case rl6 => k_is); (case rn7 => k_is); (case rl7 => k_is); (case rn8 => k_is); (case rl8 => k_is)

