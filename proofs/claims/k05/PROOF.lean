import PyProof.Rows.All
import Wide.All
import OpenK.AllK
import Wide.FinOn
import HandS.ForMost
import HandS.Star
import HandS.Wide
import HandS.Flow
import HandS.IsInst
import HandS.Walk
import HandS.NoneIn
import PySem.Challenge.RW_penhome_k05_composed
set_option Elab.async false
set_option linter.all false
set_option maxRecDepth 100000
namespace My
open PySem PySem.Spec PyProof.Rows L2
theorem hu64 {A : Around} {k : Nat} (hr : Room k A) : A.units + 64 < cLine := by
  have := hr.un
  omega
section
variable {X : Cx}
theorem call_intI : CallR X (.type "int") (fun xs H Q => ∃ i, xs = [.int i] ∧ Q (.int i) H) := fun pins s σ H xs us Q I r ⟨i, e, q⟩ => call_int1 pins s σ H xs us Q I r (.inl ⟨i, e, q⟩)
theorem call_intB : CallR X (.type "int") (fun xs H Q => ∃ k, xs = [.bl k] ∧ Q (.int (if k then 1 else 0)) H) := fun pins s σ H xs us Q I r ⟨i, e, q⟩ => call_int1 pins s σ H xs us Q I r (.inr ⟨i, e, q⟩)
theorem call_lenA : CallR X (.builtin "len") (fun xs H Q => ∃ p ys, xs = [.ref p] ∧ (SqL X.K H p ys ∨ SqT X.K H p ys) ∧ Q (.int ys.length) H) := call_len_seq
theorem call_listL : CallR X (.type "list") (fun xs H Q => ∃ p ys, xs = [.ref p] ∧ (SqL X.K H p ys ∨ SqT X.K H p ys) ∧ ∀ l, H l = none → Q (.ref l) (upd H l (.lst ys))) := call_list_of
theorem call_tupL : CallR X (.type "tuple") (fun xs H Q => ∃ p ys, xs = [.ref p] ∧ SqL X.K H p ys ∧ ∀ l, H l = none → Q (.ref l) (upd H l (.tup ys))) := fun pins s σ H xs us Q I r ⟨p, ys, e, h, q⟩ => call_tuple_of pins s σ H xs us Q I r ⟨p, ys, e, .inl ⟨h, q⟩⟩
theorem get_lst : PGet X (fun o i H Q => ∃ p xs k v, o = .ref p ∧ i = .int k ∧ 0 ≤ k ∧ SqL X.K H p xs ∧ xs[k.toNat]? = some v ∧ Q v H) := by
  intro pins s σ H o i ov iv Q I r1 r2 h
  obtain ⟨p, xs, k, v, rfl, rfl, h0, hq, he, q⟩ := h
  cases r1
  obtain ⟨t, rfl⟩ := r2
  obtain ⟨its, r, pl, hz⟩ := I.list hq
  obtain ⟨w, ew, rw'⟩ := r.get he
  have hl := r.length
  have hn := line63
  have hlt : k.toNat < xs.length := (List.getElem?_eq_some_iff.mp he).1
  exact wpAny_getItem_list pl.isList h0 (by omega) (by simpa using ew) ⟨v, H, I, rw', q⟩
end
/-! ### lists and tuples of ints compared -/
theorem dpAllInts {K : PySem.W.Frag} {H : Hp} : ∀ ns : List Int, DpAll K H (ns.map V.int) (ns.map PyData.int)
  | [] => .nil
  | n :: r => .cons (.int n) (dpAllInts r)
theorem canAllInts : ∀ ns : List Int, PyData.canLayAll0 (ns.map PyData.int) = true
  | [] => by simp [PyData.canLayAll0]
  | n :: r => by simp [PyData.canLayAll0, PyData.canLay0, canAllInts r]
theorem depthAllInts : ∀ ns : List Int, PyData.depthAll (ns.map PyData.int) = 0
  | [] => by simp [PyData.depthAll]
  | n :: r => by simp [PyData.depthAll, PyData.depth, depthAllInts r]
theorem shList (ns : List Int) : SeqAt.shaped (.list (ns.map PyData.int)) = true := by
  simp [SeqAt.shaped, PyData.canLay0, PyData.depth, canAllInts, depthAllInts]
theorem shTup (ns : List Int) : SeqAt.shaped (.tuple (ns.map PyData.int)) = true := by
  simp [SeqAt.shaped, PyData.canLay0, PyData.depth, canAllInts, depthAllInts]
theorem eqvAllInts : ∀ ns ms : List Int, PyData.eqvAll (ns.map PyData.int) (ms.map PyData.int) = decide (ns = ms)
  | [], [] => by simp [PyData.eqvAll]
  | [], m :: r => by simp [PyData.eqvAll]
  | n :: r, [] => by simp [PyData.eqvAll]
  | n :: r, m :: q => by
    rw [List.map_cons, List.map_cons, PyData.eqvAll, eqvAllInts r q, PyData.eqv]
    by_cases e : n = m
    · subst e; simp
    · simp [e]
section
variable {X : Cx}
def rEqI (K : PySem.W.Frag) : R2 := fun x y H Q => ∃ (a b : Addr) (ns ms : List Int), x = .ref a ∧ y = .ref b ∧ SqL K H a (ns.map V.int) ∧ SqL K H b (ms.map V.int) ∧ Q (.bl (decide (ns = ms))) H
def rNeI (K : PySem.W.Frag) : R2 := fun x y H Q => ∃ (a b : Addr) (ns ms : List Int), x = .ref a ∧ y = .ref b ∧ SqL K H a (ns.map V.int) ∧ SqL K H b (ms.map V.int) ∧ Q (.bl (!decide (ns = ms))) H
def rEqTI (K : PySem.W.Frag) : R2 := fun x y H Q => ∃ (a b : Addr) (ns ms : List Int), x = .ref a ∧ y = .ref b ∧ SqT K H a (ns.map V.int) ∧ SqT K H b (ms.map V.int) ∧ Q (.bl (decide (ns = ms))) H
def rNeTI (K : PySem.W.Frag) : R2 := fun x y H Q => ∃ (a b : Addr) (ns ms : List Int), x = .ref a ∧ y = .ref b ∧ SqT K H a (ns.map V.int) ∧ SqT K H b (ms.map V.int) ∧ Q (.bl (!decide (ns = ms))) H
theorem op_eqI (hu : X.A.units + 64 < cLine) : OpR X (compareOp .Eq) (rEqI X.K) := fun pins s σ H x y v u Q I rx ry ⟨a, b, ns, ms, e1, e2, h1, h2, q⟩ =>
  op_eqD hu pins s σ H x y v u Q I rx ry ⟨_, _, e1 ▸ .lst h1 (dpAllInts ns), e2 ▸ .lst h2 (dpAllInts ms), shList ns, shList ms, by rw [PyData.eqv, eqvAllInts]; exact q⟩
theorem op_neI (hu : X.A.units + 64 < cLine) : OpR X (compareOp .NotEq) (rNeI X.K) := fun pins s σ H x y v u Q I rx ry ⟨a, b, ns, ms, e1, e2, h1, h2, q⟩ =>
  op_neD hu pins s σ H x y v u Q I rx ry ⟨_, _, e1 ▸ .lst h1 (dpAllInts ns), e2 ▸ .lst h2 (dpAllInts ms), shList ns, shList ms, by rw [PyData.eqv, eqvAllInts]; exact q⟩
theorem op_eqTI (hu : X.A.units + 64 < cLine) : OpR X (compareOp .Eq) (rEqTI X.K) := fun pins s σ H x y v u Q I rx ry ⟨a, b, ns, ms, e1, e2, h1, h2, q⟩ =>
  op_eqD hu pins s σ H x y v u Q I rx ry ⟨_, _, e1 ▸ .tup h1 (dpAllInts ns), e2 ▸ .tup h2 (dpAllInts ms), shTup ns, shTup ms, by rw [PyData.eqv, eqvAllInts]; exact q⟩
theorem op_neTI (hu : X.A.units + 64 < cLine) : OpR X (compareOp .NotEq) (rNeTI X.K) := fun pins s σ H x y v u Q I rx ry ⟨a, b, ns, ms, e1, e2, h1, h2, q⟩ =>
  op_neD hu pins s σ H x y v u Q I rx ry ⟨_, _, e1 ▸ .tup h1 (dpAllInts ns), e2 ▸ .tup h2 (dpAllInts ms), shTup ns, shTup ms, by rw [PyData.eqv, eqvAllInts]; exact q⟩
end
/-! ### heaps -/
theorem same_upd {H : Hp} {p : Addr} {o : HO} (h : H p = none) : Same H (upd H p o) := fun b x e => by
  rw [upd_ne (ne_of_none e h)]
  exact e
/-- all that was tracked is as it was, but for what is at p -/
def Kp (p : Addr) (H H' : Hp) : Prop := ∀ b o, b ≠ p → H b = some o → H' b = some o
theorem Kp.refl (p : Addr) (H : Hp) : Kp p H H := fun _ _ _ h => h
theorem Kp.trans {p : Addr} {H H1 H2 : Hp} (a : Kp p H H1) (b : Kp p H1 H2) : Kp p H H2 := fun c o n h => b c o n (a c o n h)
theorem Kp.upd {p : Addr} {H : Hp} {o : HO} : Kp p H (upd H p o) := fun b x n e => by rw [upd_ne n]; exact e
theorem Kp.of {p : Addr} {H H' : Hp} (s : Same H H') : Kp p H H' := fun b o _ e => s b o e
theorem Kp.new {p q : Addr} {H H1 : Hp} {o : HO} (k : Kp p H H1) (n : H q = none) : Kp p H (L2.upd H1 q o) := fun b x nb e => by
  rw [upd_ne (ne_of_none e n)]
  exact k b x nb e
theorem same_new {q : Addr} {H H1 : Hp} {o : HO} (k : Same H H1) (n : H q = none) : Same H (upd H1 q o) := fun b x e => by
  rw [upd_ne (ne_of_none e n)]
  exact k b x e
theorem Kp.none {p q : Addr} {H H' : Hp} (k : Kp p H H') (h : H' q = none) (n : q ≠ p) : H q = none := by
  cases e : H q with
  | none => rfl
  | some o =>
    rw [k q o n e] at h
    cases h
/-- the law's pool: a list of L ints -/
def Pool (H : Hp) (p : Addr) (L : Nat) : Prop := ∃ ns : List Int, H p = some (.lst (ns.map V.int)) ∧ ns.length = L
theorem Pool.ne {H : Hp} {p q : Addr} {L : Nat} (h : Pool H p L) (n : H q = none) : q ≠ p := fun e => by
  obtain ⟨ns, h, _⟩ := h
  rw [← e, n] at h
  cases h
theorem Pool.new {H : Hp} {p q : Addr} {o : HO} {L : Nat} (h : Pool H p L) (n : H q = none) : Pool (upd H q o) p L := by
  have hn := (h.ne n).symm
  obtain ⟨ns, h, e⟩ := h
  exact ⟨ns, by rw [upd_ne hn]; exact h, e⟩
theorem Pool.keep {H : Hp} {p q : Addr} {o : HO} {L : Nat} (h : Pool H p L) (n : q ≠ p) : Pool (upd H q o) p L := by
  obtain ⟨ns, h, e⟩ := h
  exact ⟨ns, by rw [upd_ne n.symm]; exact h, e⟩
theorem get_map {ns : List Int} {i : Nat} {n : Int} (h : ns[i]? = some n) : (ns.map V.int)[i]? = some (.int n) := by
  rw [List.getElem?_map, h]
  rfl
theorem at_map {ns : List Int} {i : Int} (h0 : 0 ≤ i) (h1 : i < ns.length) : ∃ n, ns[i.toNat]? = some n ∧ atI (ns.map V.int) i = some (.int n) := by
  have hi : i.toNat < ns.length := by omega
  refine ⟨ns[i.toNat], List.getElem?_eq_getElem hi, ?_⟩
  refine at_of (j := i.toNat) (by omega) ?_
  exact get_map (List.getElem?_eq_getElem hi)
theorem ixN_in {n : Nat} {i : Int} (h0 : 0 ≤ i) (h1 : i < n) : ixN n i = some i.toNat := by
  unfold ixN
  rw [if_pos h0, if_pos h1]
theorem set_map {ns : List Int} {j : Nat} {z : Int} : (ns.map V.int).set j (.int z) = (ns.set j z).map V.int := by
  rw [List.map_set]
theorem small100 {n : Nat} (h : n ≤ 1000) : n ≤ sizeLine := Nat.le_of_lt (small1000 h)
theorem len_map (ns : List Int) : (ns.map V.int).length = ns.length := List.length_map ..
/-! ### what a for walks: a list or a tuple -/
def iSeq (K : PySem.W.Frag) (tl : TE) : TI := fun σ H R => iList K tl σ H R ∨ iTup K tl σ H R
theorem pi_seq {X : Cx} {tg l : Expr} {tl : TE} (h1 : PI X tg l (iList X.K tl)) (h2 : PI X tg l (iTup X.K tl)) : PI X tg l (iSeq X.K tl) :=
  ⟨fun pins s σ H R I h => h.elim (fun h => h1.run pins s σ H R I h) fun h => h2.run pins s σ H R I h⟩
theorem pi_sq {X : Cx} {tg l : Expr} {tl : TE} (h : PE X l tl) : PI X tg l (iSeq X.K tl) := pi_seq (pi_list h) (pi_tup h)
/-! ### the same rules, the written part by name (within a comprehension's block) -/
section
variable (K : PySem.W.Frag) {X : Cx}
def rLenA (K : PySem.W.Frag) : List V → Hp → VK → Prop := fun xs H Q => ∃ p ys, xs = [V.ref p] ∧ (SqL K H p ys ∨ SqT K H p ys) ∧ Q (.int ys.length) H
def rListL (K : PySem.W.Frag) : List V → Hp → VK → Prop := fun xs H Q => ∃ p ys, xs = [V.ref p] ∧ (SqL K H p ys ∨ SqT K H p ys) ∧ ∀ l, H l = none → Q (.ref l) (upd H l (.lst ys))
def rTupL (K : PySem.W.Frag) : List V → Hp → VK → Prop := fun xs H Q => ∃ p ys, xs = [V.ref p] ∧ SqL K H p ys ∧ ∀ l, H l = none → Q (.ref l) (upd H l (.tup ys))
theorem k_len (hK : X.K = K := by rfl) : CallR X (.builtin "len") (rLenA K) := hK ▸ call_lenA
theorem k_list (hK : X.K = K := by rfl) : CallR X (.type "list") (rListL K) := hK ▸ call_listL
theorem k_tuple (hK : X.K = K := by rfl) : CallR X (.type "tuple") (rTupL K) := hK ▸ call_tupL
theorem k_isi (hK : X.K = K := by rfl) : CallR X (.builtin "isinstance") (rIsi K) := hK ▸ call_isi
theorem k_all (hK : X.K = K := by rfl) (hc : X.calm = true := by rfl) : CallR X (.builtin "all") (rAll K) := hK ▸ cr_all hc
theorem k_sum (hK : X.K = K := by rfl) (hc : X.calm = true := by rfl) : CallR X (.builtin "sum") (rSum K) := hK ▸ cr_sum hc
theorem k_ixL (hK : X.K = K := by rfl) : IxR X (rIxL K) := hK ▸ ix_list
theorem k_ixT (hK : X.K = K := by rfl) : IxR X (rIxT K) := hK ▸ ix_tup
theorem k_slL (hK : X.K = K := by rfl) : SlR X (rSlL K) := hK ▸ sl_list
theorem k_slT (hK : X.K = K := by rfl) : SlR X (rSlT K) := hK ▸ sl_tup
theorem k_piL {tg l : Expr} {tl : TE} (hl : PE X l tl) (hK : X.K = K := by rfl) : PI X tg l (iList K tl) := hK ▸ pi_list hl
theorem k_piT {tg l : Expr} {tl : TE} (hl : PE X l tl) (hK : X.K = K := by rfl) : PI X tg l (iTup K tl) := hK ▸ pi_tup hl
theorem k_piS {tg l : Expr} {tl : TE} (hl : PE X l tl) (hK : X.K = K := by rfl) : PI X tg l (iSeq K tl) := hK ▸ pi_sq hl
theorem k_eqI (hu : X.A.units + 64 < cLine) (hK : X.K = K := by rfl) : OpR X (compareOp .Eq) (rEqI K) := hK ▸ op_eqI hu
theorem k_neI (hu : X.A.units + 64 < cLine) (hK : X.K = K := by rfl) : OpR X (compareOp .NotEq) (rNeI K) := hK ▸ op_neI hu
theorem k_eqTI (hu : X.A.units + 64 < cLine) (hK : X.K = K := by rfl) : OpR X (compareOp .Eq) (rEqTI K) := hK ▸ op_eqTI hu
theorem k_neTI (hu : X.A.units + 64 < cLine) (hK : X.K = K := by rfl) : OpR X (compareOp .NotEq) (rNeTI K) := hK ▸ op_neTI hu
theorem k_getL (hK : X.K = K := by rfl) : PGet X (fun o i H Q => ∃ p xs k v, o = .ref p ∧ i = .int k ∧ 0 ≤ k ∧ SqL K H p xs ∧ xs[k.toNat]? = some v ∧ Q v H) := hK ▸ get_lst
theorem k_star {e : Expr} {es : List Expr} {te : TE} {t : TA} {p : Pos} (he : PE X e te) (hr : PA X es t) (hK : X.K = K := by rfl) (hs : starEach (.Starred e p :: es) X.env = (true, eval e X.env) :: starEach es X.env := by rfl) : PA X (.Starred e p :: es) (StX.tStar K te t) := hK ▸ StX.pa_star he hr hs
end
theorem iteP {c A B : Prop} [Decidable c] (hc : c) (h : A) : if decide c = true then A else B := by
  rw [if_pos (decide_eq_true hc)]
  exact h
section
variable (K : PySem.W.Frag) {X : Cx}
theorem k_listT (hK : X.K = K := by rfl) : CallR X (.type "list") (rListL K) := k_list K hK
end

def topS (i : Nat) : Stmt := PySem.Challenge.pw_penhome_k05_composed.main.body.getD i (.Pass ⟨0, 0, 0, 0⟩)
theorem bt_all : bootBuiltins "all" = some (.builtin "all") := by decide +kernel
theorem bt_bool : bootBuiltins "bool" = some (.type "bool") := by decide +kernel
theorem bt_int : bootBuiltins "int" = some (.type "int") := by decide +kernel
theorem bt_isinstance : bootBuiltins "isinstance" = some (.builtin "isinstance") := by decide +kernel
theorem bt_len : bootBuiltins "len" = some (.builtin "len") := by decide +kernel
theorem bt_list : bootBuiltins "list" = some (.type "list") := by decide +kernel
theorem bt_range : bootBuiltins "range" = some (.type "range") := by decide +kernel
theorem bt_sum : bootBuiltins "sum" = some (.builtin "sum") := by decide +kernel
abbrev s_row_of : Stmt := topS 1
abbrev N_row_of : List Str := ["matrix", "i"]
theorem sc_row_of : FnScope N_row_of ["matrix", "i"] (defScope s_row_of) := ⟨rfl, rfl, rfl, by decide +kernel, rfl, by decide +kernel, by decide +kernel⟩
abbrev s_rows_behind : Stmt := topS 2
abbrev N_rows_behind : List Str := ["one", "rows", "columns", "j", "a", "b", "c", "d", "e", "f", "g", "h", "i", "k", "m", "n", "o"]
theorem sc_rows_behind : FnScope N_rows_behind ["one", "rows"] (defScope s_rows_behind) := ⟨rfl, rfl, rfl, by decide +kernel, rfl, by decide +kernel, by decide +kernel⟩
abbrev s_composed : Stmt := topS 3
abbrev N_composed : List Str := ["one", "other", "rows", "row", "number", "i"]
theorem sc_composed : FnScope N_composed ["one", "other"] (defScope s_composed) := ⟨rfl, rfl, rfl, by decide +kernel, rfl, by decide +kernel, by decide +kernel⟩
abbrev s__law_pool : Stmt := topS 5
abbrev N__law_pool : List Str := ["_law_script", "_law_cell"]
theorem sc__law_pool : FnScope N__law_pool ["_law_script"] (defScope s__law_pool) := ⟨rfl, rfl, rfl, by decide +kernel, rfl, by decide +kernel, by decide +kernel⟩
abbrev s__law_draw : Stmt := topS 6
abbrev N__law_draw : List Str := ["_law_pool_here", "_law_many", "_law_at", "_law_cell", "_law_number_here"]
theorem sc__law_draw : FnScope N__law_draw ["_law_pool_here", "_law_many"] (defScope s__law_draw) := ⟨rfl, rfl, rfl, by decide +kernel, rfl, by decide +kernel, by decide +kernel⟩
abbrev s__law_number : Stmt := topS 7
abbrev N__law_number : List Str := ["_law_pool_here", "_law_small", "_law_at", "_law_number_here"]
theorem sc__law_number : FnScope N__law_number ["_law_pool_here"] (defScope s__law_number) := ⟨rfl, rfl, rfl, by decide +kernel, rfl, by decide +kernel, by decide +kernel⟩
abbrev s__law_is_matrix : Stmt := topS 8
abbrev N__law_is_matrix : List Str := ["_law_value"]
theorem sc__law_is_matrix : FnScope N__law_is_matrix ["_law_value"] (defScope s__law_is_matrix) := ⟨rfl, rfl, rfl, by decide +kernel, rfl, by decide +kernel, by decide +kernel⟩
abbrev s__law_times : Stmt := topS 9
abbrev N__law_times : List Str := ["_law_one", "_law_other", "_law_result", "_law_i", "_law_j", "_law_k"]
theorem sc__law_times : FnScope N__law_times ["_law_one", "_law_other"] (defScope s__law_times) := ⟨rfl, rfl, rfl, by decide +kernel, rfl, by decide +kernel, by decide +kernel⟩
abbrev s__law_any_matrix : Stmt := topS 10
abbrev N__law_any_matrix : List Str := ["_law_pool_here", "_law_wide", "_law_matrix", "_law_k", "_law_number_here"]
theorem sc__law_any_matrix : FnScope N__law_any_matrix ["_law_pool_here"] (defScope s__law_any_matrix) := ⟨rfl, rfl, rfl, by decide +kernel, rfl, by decide +kernel, by decide +kernel⟩
abbrev s__law_is_row : Stmt := topS 11
abbrev N__law_is_row : List Str := ["_law_value", "_law_many", "_law_x"]
theorem sc__law_is_row : FnScope N__law_is_row ["_law_value", "_law_many"] (defScope s__law_is_row) := ⟨rfl, rfl, rfl, by decide +kernel, rfl, by decide +kernel, by decide +kernel⟩
abbrev s__law_good : Stmt := topS 12
abbrev N__law_good : List Str := ["_law_one", "_law_other", "_law_first", "_law_second", "_law_answer"]
theorem sc__law_good : FnScope N__law_good ["_law_one", "_law_other"] (defScope s__law_good) := ⟨rfl, rfl, rfl, by decide +kernel, rfl, by decide +kernel, by decide +kernel⟩
abbrev s_law : Stmt := topS 13
abbrev N_law : List Str := ["_law_script", "_law_pool_here", "_law_one", "_law_other", "_law_third", "_law_unit", "_law_pair", "_law_left", "_law_right", "_law_k"]
theorem sc_law : FnScope N_law ["_law_script"] (defScope s_law) := ⟨rfl, rfl, rfl, by decide +kernel, rfl, by decide +kernel, by decide +kernel⟩
structure Top (w : World) (K : PySem.W.Frag) (mg : Str → Option Value) where
  a_row_of : Addr
  d_row_of : FuncData
  F_row_of : Fun K "row_of" "row_of" s_row_of a_row_of d_row_of
  g_row_of : mg "row_of" = some (.ref a_row_of)
  a_rows_behind : Addr
  d_rows_behind : FuncData
  F_rows_behind : Fun K "rows_behind" "rows_behind" s_rows_behind a_rows_behind d_rows_behind
  g_rows_behind : mg "rows_behind" = some (.ref a_rows_behind)
  a_composed : Addr
  d_composed : FuncData
  F_composed : Fun K "composed" "composed" s_composed a_composed d_composed
  g_composed : mg "composed" = some (.ref a_composed)
  a__law_pool : Addr
  d__law_pool : FuncData
  F__law_pool : Fun K "_law_pool" "_law_pool" s__law_pool a__law_pool d__law_pool
  g__law_pool : mg "_law_pool" = some (.ref a__law_pool)
  a__law_draw : Addr
  d__law_draw : FuncData
  F__law_draw : Fun K "_law_draw" "_law_draw" s__law_draw a__law_draw d__law_draw
  g__law_draw : mg "_law_draw" = some (.ref a__law_draw)
  a__law_number : Addr
  d__law_number : FuncData
  F__law_number : Fun K "_law_number" "_law_number" s__law_number a__law_number d__law_number
  g__law_number : mg "_law_number" = some (.ref a__law_number)
  a__law_is_matrix : Addr
  d__law_is_matrix : FuncData
  F__law_is_matrix : Fun K "_law_is_matrix" "_law_is_matrix" s__law_is_matrix a__law_is_matrix d__law_is_matrix
  g__law_is_matrix : mg "_law_is_matrix" = some (.ref a__law_is_matrix)
  a__law_times : Addr
  d__law_times : FuncData
  F__law_times : Fun K "_law_times" "_law_times" s__law_times a__law_times d__law_times
  g__law_times : mg "_law_times" = some (.ref a__law_times)
  a__law_any_matrix : Addr
  d__law_any_matrix : FuncData
  F__law_any_matrix : Fun K "_law_any_matrix" "_law_any_matrix" s__law_any_matrix a__law_any_matrix d__law_any_matrix
  g__law_any_matrix : mg "_law_any_matrix" = some (.ref a__law_any_matrix)
  a__law_is_row : Addr
  d__law_is_row : FuncData
  F__law_is_row : Fun K "_law_is_row" "_law_is_row" s__law_is_row a__law_is_row d__law_is_row
  g__law_is_row : mg "_law_is_row" = some (.ref a__law_is_row)
  a__law_good : Addr
  d__law_good : FuncData
  F__law_good : Fun K "_law_good" "_law_good" s__law_good a__law_good d__law_good
  g__law_good : mg "_law_good" = some (.ref a__law_good)
  a_law : Addr
  d_law : FuncData
  F_law : Fun K "law" "law" s_law a_law d_law
  g_law : mg "law" = some (.ref a_law)
  z_all : mg "all" = none
  z_bool : mg "bool" = none
  z_int : mg "int" = none
  z_isinstance : mg "isinstance" = none
  z_len : mg "len" = none
  z_list : mg "list" = none
  z_range : mg "range" = none
  z_sum : mg "sum" = none
theorem b_row_of {w : World} {K : PySem.W.Frag} {mg : Str → Option Value} (T : Top w K mg) : Binds K T.d_row_of ["matrix", "i"] [] := T.F_row_of.binds (ps := ["matrix", "i"]) fun _ _ _ _ _ _ us hl => match us, hl with | [_, _], _ => rfl
theorem b_rows_behind {w : World} {K : PySem.W.Frag} {mg : Str → Option Value} (T : Top w K mg) : Binds K T.d_rows_behind ["one", "rows"] [] := T.F_rows_behind.binds (ps := ["one", "rows"]) fun _ _ _ _ _ _ us hl => match us, hl with | [_, _], _ => rfl
theorem b_composed {w : World} {K : PySem.W.Frag} {mg : Str → Option Value} (T : Top w K mg) : Binds K T.d_composed ["one", "other"] [] := T.F_composed.binds (ps := ["one", "other"]) fun _ _ _ _ _ _ us hl => match us, hl with | [_, _], _ => rfl
theorem b__law_pool {w : World} {K : PySem.W.Frag} {mg : Str → Option Value} (T : Top w K mg) : Binds K T.d__law_pool ["_law_script"] [] := T.F__law_pool.binds (ps := ["_law_script"]) fun _ _ _ _ _ _ us hl => match us, hl with | [_], _ => rfl
theorem b__law_draw {w : World} {K : PySem.W.Frag} {mg : Str → Option Value} (T : Top w K mg) : Binds K T.d__law_draw ["_law_pool_here", "_law_many"] [] := T.F__law_draw.binds (ps := ["_law_pool_here", "_law_many"]) fun _ _ _ _ _ _ us hl => match us, hl with | [_, _], _ => rfl
theorem b__law_number {w : World} {K : PySem.W.Frag} {mg : Str → Option Value} (T : Top w K mg) : Binds K T.d__law_number ["_law_pool_here"] [] := T.F__law_number.binds (ps := ["_law_pool_here"]) fun _ _ _ _ _ _ us hl => match us, hl with | [_], _ => rfl
theorem b__law_is_matrix {w : World} {K : PySem.W.Frag} {mg : Str → Option Value} (T : Top w K mg) : Binds K T.d__law_is_matrix ["_law_value"] [] := T.F__law_is_matrix.binds (ps := ["_law_value"]) fun _ _ _ _ _ _ us hl => match us, hl with | [_], _ => rfl
theorem b__law_times {w : World} {K : PySem.W.Frag} {mg : Str → Option Value} (T : Top w K mg) : Binds K T.d__law_times ["_law_one", "_law_other"] [] := T.F__law_times.binds (ps := ["_law_one", "_law_other"]) fun _ _ _ _ _ _ us hl => match us, hl with | [_, _], _ => rfl
theorem b__law_any_matrix {w : World} {K : PySem.W.Frag} {mg : Str → Option Value} (T : Top w K mg) : Binds K T.d__law_any_matrix ["_law_pool_here"] [] := T.F__law_any_matrix.binds (ps := ["_law_pool_here"]) fun _ _ _ _ _ _ us hl => match us, hl with | [_], _ => rfl
theorem b__law_is_row {w : World} {K : PySem.W.Frag} {mg : Str → Option Value} (T : Top w K mg) : Binds K T.d__law_is_row ["_law_value", "_law_many"] [] := T.F__law_is_row.binds (ps := ["_law_value", "_law_many"]) fun _ _ _ _ _ _ us hl => match us, hl with | [_, _], _ => rfl
theorem b__law_good {w : World} {K : PySem.W.Frag} {mg : Str → Option Value} (T : Top w K mg) : Binds K T.d__law_good ["_law_one", "_law_other"] [] := T.F__law_good.binds (ps := ["_law_one", "_law_other"]) fun _ _ _ _ _ _ us hl => match us, hl with | [_, _], _ => rfl
theorem b_law {w : World} {K : PySem.W.Frag} {mg : Str → Option Value} (T : Top w K mg) : Binds K T.d_law ["_law_script"] [] := T.F_law.binds (ps := ["_law_script"]) fun _ _ _ _ _ _ us hl => match us, hl with | [_], _ => rfl
section
variable {P : Program} {w : World} {K : PySem.W.Frag} {mg : Str → Option Value} {base : Heap}
def sp__law_pool (K : PySem.W.Frag) : Sp := fun vs H Q _ => ∃ (a : Addr) (ns : List Int), vs = [.ref a] ∧ SqL K H a (ns.map V.int) ∧ ns.length ≤ 63 ∧
  ∀ (H' : Hp) (p : Addr) (L : Nat), Same H H' → H p = none → Pool H' p L → 2 ≤ L → L ≤ 64 → Q (.ref p) H'
theorem cut63 {ns : List Int} (h : ns.length ≤ 63) : cutV (ns.map V.int) none (some 63) = ns.map V.int := by
  unfold cutV
  rw [HT.sIx_none, show HT.sIx (ns.map V.int).length (ns.map V.int).length (some 63) = min 63 (ns.map V.int).length from HT.sIx_nat _ _ 63, List.drop_zero, Nat.sub_zero]
  refine List.take_of_length_le ?_
  rw [List.length_map]
  omega
theorem ok__law_pool (T : Top w K mg) : FnOk P w K mg base CX0 1 T.a__law_pool T.d__law_pool ["_law_script"] (sp__law_pool K) := by
  refine T.F__law_pool.ok sc__law_pool (fun vs H Q E h => ?_) (fun cdv A outer s H vs Q E hr h => ?_)
  · obtain ⟨a, ns, rfl, _⟩ := h
    rfl
  · obtain ⟨a, ns, rfl, hS, hlen, q⟩ := h
    refine ⟨_, (pss_one (ps_ret (pe_op op_cat (pe_lst (pa_cons pe_int pa_nil)) (pe_orT (pe_lc (own := [("_law_cell", 1)]) (g := (gName 1)) (tt := tYes) rfl sc__law_pool.nd (k_piL K (pe_slice (k_slL K) (pv 0) po_none (po_some pe_int))) (blkOk_by (N := N__law_pool) (sc := defScope s__law_pool) (by decide +kernel)) (fun _ _ _ _ _ => (pg_name (i := 1) sc__law_pool.nd rfl (Or.inl rfl))) (fun _ _ _ _ _ => pts_nil) (fun _ _ _ _ _ => (pe_callTy call_intI (by rfl) T.z_int bt_int (pa_cons (pv 1) pa_nil)))) (pe_one (pe_lst (pa_cons pe_int pa_nil))))))), ?_⟩
    refine ⟨small100 (n := 1) (by decide), fun l0 n0 => ?_⟩
    have s1 : Same H (upd H l0 (.lst [.int 0])) := same_upd n0
    refine ⟨_, rfl, 63, rfl, a, _, rfl, s1.seq hS, fun c nc => ?_⟩
    rw [cut63 hlen]
    have s2 := s1.trans (same_upd (o := .lst (ns.map V.int)) nc)
    have hl0 : (upd (upd H l0 (.lst [.int 0])) c (.lst (ns.map V.int))) l0 = some (.lst [.int 0]) := by
      rw [upd_ne (ne_of_none upd_same nc), upd_same]
    refine ⟨c, rfl, ⟨_, SqL.of upd_same⟩, fun D nD => ?_⟩
    refine lc_list (xs := ns.map V.int) (fun i H' => Same (upd (upd H l0 (.lst [.int 0])) c (.lst (ns.map V.int))) H' ∧ H' D = some (.lst ((ns.take i).map V.int))) ⟨same_upd nD, ?_⟩ (fun i H' _ h => h.1.seq (SqL.of upd_same)) (fun i x H' hx h => ?_) (fun H' h => ?_)
    · rw [upd_same]
      rfl
    · obtain ⟨hs, hD⟩ := h
      rw [List.getElem?_map] at hx
      cases e : ns[i]? with
      | none =>
        rw [e] at hx
        cases hx
      | some n =>
        rw [e] at hx
        cases hx
        refine ⟨rfl, _, rfl, n, rfl, _, hD, ?_, same_new hs nD, ?_⟩
        · rw [List.length_map, List.length_take]
          exact small1000 (by omega)
        · rw [upd_same, List.take_add_one, e, List.map_append]
          rfl
    · obtain ⟨hs, hD⟩ := h
      rw [len_map, List.take_length] at hD
      have hl0' := hs _ _ hl0
      have hD0 : H D = none := s2.free nD
      refine ⟨!(ns.map V.int).isEmpty, .inl ⟨_, SqL.of hD, rfl⟩, ?_⟩
      have hne : D ≠ l0 := (ne_of_none hl0 nD).symm
      cases ns with
      | nil =>
        refine ⟨small100 (n := 1) (by decide), fun l2 n2 => ?_⟩
        have hl2 : (upd H' l2 (.lst [.int 0])) l0 = some (.lst [.int 0]) := by
          rw [upd_ne (ne_of_none hl0' n2)]
          exact hl0'
        refine ⟨l0, l2, _, _, rfl, rfl, hl2, upd_same, small100 (n := 2) (by decide), fun p np => ?_⟩
        have s3 := same_new (s2.trans hs) (o := .lst [.int 0]) ((s2.trans hs).free n2)
        exact q _ p 2 (same_new s3 (s3.free np)) (s3.free np) ⟨[0, 0], upd_same, rfl⟩ (by decide) (by decide)
      | cons n r =>
        refine ⟨l0, D, _, _, rfl, rfl, hl0', hD, ?_, fun p np => ?_⟩
        · show 1 + ((n :: r).map V.int).length ≤ sizeLine
          rw [len_map]
          exact small100 (by omega)
        · have s3 := s2.trans hs
          refine q _ p (1 + (n :: r).length) (same_new s3 (s3.free np)) (s3.free np) ⟨0 :: n :: r, upd_same, ?_⟩ ?_ ?_
          · rw [List.length_cons]
            omega
          · rw [List.length_cons]
            omega
          · omega
def sp__law_draw (K : PySem.W.Frag) : Sp := fun vs H Q _ => ∃ (p : Addr) (L : Nat) (m : Int), vs = [.ref p, .int m] ∧ Pool H p L ∧ 2 ≤ L ∧ L ≤ 64 ∧ 0 < m ∧ m ≤ 1000 ∧
  ∀ (r : Int) (H' : Hp), 0 ≤ r → r < m → Kp p H H' → Pool H' p L → Q (.int r) H'
theorem ok__law_draw (T : Top w K mg) : FnOk P w K mg base CX0 1 T.a__law_draw T.d__law_draw ["_law_pool_here", "_law_many"] (sp__law_draw K) := by
  refine T.F__law_draw.ok sc__law_draw (fun vs H Q E h => ?_) (fun cdv A outer s H vs Q E hr h => ?_)
  · obtain ⟨p, L, m, rfl, _⟩ := h
    rfl
  · obtain ⟨p, L, m, rfl, ⟨ns, hp, hL⟩, h2, h64, hm0, hm1, q⟩ := h
    refine ⟨_, (pss_cons (ps_augS (pv 0) pe_int (k_getL K) pe_int ip_add set_list)
      (pss_cons (ps_set (i := 2) sc__law_draw.nd rfl (Or.inl rfl) (pe_op op_add pe_int (pe_op op_mod (pe_callTy call_intI (by rfl) T.z_int bt_int (pa_cons (pe_ix (k_ixL K) (pv 0) pe_int (fun _ _ => rfl)) pa_nil)) (pe_op op_sub (pe_callB (k_len K) (by rfl) T.z_len bt_len (pa_cons (pv 0) pa_nil)) pe_int))))
      (pss_cons (ps_set (i := 3) sc__law_draw.nd rfl (Or.inl rfl) (pe_callTy call_intI (by rfl) T.z_int bt_int (pa_cons (pe_ix (k_ixL K) (pv 0) (pv 2) (fun _ _ => rfl)) pa_nil)))
      (pss_cons (ps_if (pt_cmpR op_ge (pv 3) (pe_op op_pow pe_int pe_int) (nomark _)) (pss_cons (ps_asg (pe_op op_fdiv (pv 3) (pv 1)) (pg_sub (pv 0) (pv 2) set_list))
        (pss_one (ps_ret (pe_op op_mod (pv 3) (pv 1))))) pss_nil)
      (pss_cons (ps_set (i := 4) sc__law_draw.nd rfl (Or.inl rfl) (pe_op op_mod (pe_op op_mul (pe_callTy call_intI (by rfl) T.z_int bt_int (pa_cons (pe_op op_add (pe_op op_add (pv 3) (pe_op op_mul pe_int (pe_ix (k_ixL K) (pv 0) pe_int (fun _ _ => rfl)))) pe_int) pa_nil)) pe_int) pe_int))
      (pss_cons (ps_set (i := 4) sc__law_draw.nd rfl (Or.inl rfl) (pe_op op_mod (pe_op op_mul (pv 4) (pe_op op_add (pe_op op_fdiv (pv 4) pe_int) pe_int)) pe_int))
      (pss_cons (ps_set (i := 4) sc__law_draw.nd rfl (Or.inl rfl) (pe_op op_mod (pe_op op_mul (pv 4) (pe_op op_add (pe_op op_fdiv (pv 4) pe_int) pe_int)) pe_int))
      (pss_one (ps_ret (pe_op op_mod (pe_op op_fdiv (pv 4) pe_int) (pv 1))))))))))), ?_⟩
    obtain ⟨c0, g0, _⟩ := at_map (ns := ns) (i := 0) (by decide) (by omega)
    refine ⟨_, rfl, p, ns.map V.int, 0, .int c0, rfl, rfl, by decide, SqL.of hp, get_map g0, c0, 1, rfl, rfl, p, _, 0, 0, rfl, rfl, hp, ixN_in (by decide) (by rw [len_map]; omega), ?_⟩
    rw [set_map]
    generalize e1 : ns.set 0 (c0 + 1) = ms
    have hms : ms.length = L := by
      rw [← e1, List.length_set]
      exact hL
    clear e1
    have k1 : Kp p H (upd H p (.lst (ms.map V.int))) := Kp.upd
    have hp1 : (upd H p (.lst (ms.map V.int))) p = some (.lst (ms.map V.int)) := upd_same
    generalize upd H p (.lst (ms.map V.int)) = H1 at *
    obtain ⟨c1, _, g1⟩ := at_map (ns := ms) (i := 0) (by decide) (by omega)
    have hL1 : (0 : Int) < ((ms.map V.int).length : Int) - 1 := by
      rw [len_map]
      omega
    refine ⟨_, rfl, p, _, 0, _, rfl, rfl, SqL.of hp1, g1, c1, rfl, _, rfl, p, _, rfl, .inl (SqL.of hp1), _, _, rfl, rfl, _, _, rfl, rfl, hL1, _, _, rfl, rfl, ?_⟩
    have b0 : 0 ≤ 1 + c1 % (((ms.map V.int).length : Int) - 1) := by
      have := Int.emod_nonneg c1 (Int.ne_of_gt hL1)
      omega
    have b1 : 1 + c1 % (((ms.map V.int).length : Int) - 1) < ms.length := by
      have := Int.emod_lt_of_pos c1 hL1
      rw [len_map] at this ⊢
      omega
    dsimp only
    generalize 1 + c1 % (((ms.map V.int).length : Int) - 1) = j at *
    obtain ⟨c2, _, g2⟩ := at_map (ns := ms) (i := j) b0 b1
    refine ⟨_, rfl, _, rfl, p, _, j, _, rfl, rfl, SqL.of hp1, g2, c2, rfl, ?_⟩
    refine ⟨_, rfl, 10, 18, rfl, rfl, ⟨by decide, by decide, by decide⟩, _, _, rfl, rfl, _, rfl, ite2 (fun _ => ?_) (fun _ => ?_)⟩
    · refine ⟨_, rfl, _, rfl, _, _, rfl, rfl, ⟨hm0, by omega⟩, _, rfl, _, rfl, p, _, j, j.toNat, rfl, rfl, hp1, ixN_in b0 (by rw [len_map]; exact b1), ?_⟩
      rw [set_map]
      refine ⟨_, rfl, _, rfl, _, _, rfl, rfl, hm0, ?_⟩
      exact q _ _ (Int.emod_nonneg _ (Int.ne_of_gt hm0)) (Int.emod_lt_of_pos _ hm0) (k1.trans Kp.upd) ⟨_, upd_same, by rw [List.length_set]; exact hms⟩
    · obtain ⟨c3, _, g3⟩ := at_map (ns := ms) (i := 0) (by decide) (by omega)
      refine ⟨_, rfl, _, rfl, p, _, 0, _, rfl, rfl, SqL.of hp1, g3, _, c3, rfl, rfl, .inl ⟨by decide, by decide⟩, _, _, rfl, rfl, _, _, rfl, rfl, _, rfl, _, _, rfl, rfl, .inr ⟨by decide, by decide⟩, _, _, rfl, rfl, (show (0 : Int) < 2147483647 by decide), ?_⟩
      dsimp only
      generalize ez : (c2 + 7919 * c3 + 1) * 48271 % 2147483647 = z
      have z0 : 0 ≤ z := by rw [← ez]; exact Int.emod_nonneg _ (by decide)
      have z1 : z < 2147483647 := by rw [← ez]; exact Int.emod_lt_of_pos _ (by decide)
      refine ⟨_, rfl, _, rfl, _, _, rfl, rfl, ⟨by decide, by decide⟩, _, _, rfl, rfl, _, _, rfl, rfl, .inl ⟨by omega, by omega⟩, _, _, rfl, rfl, (show (0 : Int) < 2147483647 by decide), ?_⟩
      dsimp only
      generalize ey : z * (z / 1009 + 69621) % 2147483647 = y
      have y0 : 0 ≤ y := by rw [← ey]; exact Int.emod_nonneg _ (by decide)
      have y1 : y < 2147483647 := by rw [← ey]; exact Int.emod_lt_of_pos _ (by decide)
      refine ⟨_, rfl, _, rfl, _, _, rfl, rfl, ⟨by decide, by decide⟩, _, _, rfl, rfl, _, _, rfl, rfl, .inl ⟨by omega, by omega⟩, _, _, rfl, rfl, (show (0 : Int) < 2147483399 by decide), ?_⟩
      refine ⟨_, rfl, _, _, rfl, rfl, ⟨by decide, by decide⟩, _, rfl, _, _, rfl, rfl, hm0, ?_⟩
      exact q _ _ (Int.emod_nonneg _ (Int.ne_of_gt hm0)) (Int.emod_lt_of_pos _ hm0) k1 ⟨_, hp1, hms⟩

def Bd (n : Int) : Prop := -(2 ^ 133) < n ∧ n < 2 ^ 133
def sp__law_number (K : PySem.W.Frag) : Sp := fun vs H Q _ => ∃ (p : Addr) (L : Nat), vs = [.ref p] ∧ Pool H p L ∧ 2 ≤ L ∧ L ≤ 64 ∧
  ∀ (r : Int) (H' : Hp), Bd r → Kp p H H' → Pool H' p L → Q (.int r) H'
theorem ok__law_number (T : Top w K mg) : FnOk P w K mg base CX0 2 T.a__law_number T.d__law_number ["_law_pool_here"] (sp__law_number K) := by
  refine T.F__law_number.ok sc__law_number (fun vs H Q E h => ?_) (fun cdv A outer s H vs Q E hr h => ?_)
  · obtain ⟨p, L, rfl, _⟩ := h
    rfl
  · obtain ⟨p, L, rfl, pl, h2, h64, q⟩ := h
    refine ⟨_, (pss_cons (ps_set (i := 1) sc__law_number.nd rfl (Or.inl rfl) (pe_call (ok__law_draw T) hr (by rfl) T.g__law_draw T.F__law_draw.kp (b__law_draw T) .nil pass0 (pa_cons (pv 0) (pa_cons pe_int pa_nil))))
      (pss_cons (ps_if (pt_cmpR op_eq (pv 1) pe_int (nomark _)) (pss_one (ps_ret (pe_op op_sub (pe_call (ok__law_draw T) hr (by rfl) T.g__law_draw T.F__law_draw.kp (b__law_draw T) .nil pass0 (pa_cons (pv 0) (pa_cons pe_int pa_nil))) pe_int))) pss_nil)
      (pss_cons (ps_augS (pv 0) pe_int (k_getL K) pe_int ip_add set_list)
      (pss_cons (ps_set (i := 2) sc__law_number.nd rfl (Or.inl rfl) (pe_op op_add pe_int (pe_op op_mod (pe_callTy call_intI (by rfl) T.z_int bt_int (pa_cons (pe_ix (k_ixL K) (pv 0) pe_int (fun _ _ => rfl)) pa_nil)) (pe_op op_sub (pe_callB (k_len K) (by rfl) T.z_len bt_len (pa_cons (pv 0) pa_nil)) pe_int))))
      (pss_cons (ps_set (i := 3) sc__law_number.nd rfl (Or.inl rfl) (pe_op op_mod (pe_callTy call_intI (by rfl) T.z_int bt_int (pa_cons (pe_op op_add (pe_op op_mul (pe_ix (k_ixL K) (pv 0) (pv 2) (fun _ _ => rfl)) pe_int) (pe_op op_mul (pe_ix (k_ixL K) (pv 0) pe_int (fun _ _ => rfl)) pe_int)) pa_nil)) (pe_op op_pow pe_int pe_int)))
      (pss_cons (ps_if (pt_cmpR op_eq (pe_call (ok__law_draw T) hr (by rfl) T.g__law_draw T.F__law_draw.kp (b__law_draw T) .nil pass0 (pa_cons (pv 0) (pa_cons pe_int pa_nil))) pe_int (nomark _)) (pss_one (ps_ret (pv 3))) pss_nil)
      (pss_one (ps_ret (pe_op op_sub pe_int (pv 3)))))))))), ?_⟩
    refine ⟨_, rfl, p, L, 3, rfl, pl, h2, h64, by decide, by decide, fun r1 H1 _ _ k1 pl1 => ?_⟩
    refine ⟨_, rfl, rfl, _, rfl, ite2 (fun _ => ?_) (fun _ => ?_)⟩
    · refine ⟨_, rfl, p, L, 9, rfl, pl1, h2, h64, by decide, by decide, fun r2 H2 a1 a2 k2 pl2 => ?_⟩
      refine ⟨_, _, rfl, rfl, ?_⟩
      exact q _ _ ⟨by omega, by omega⟩ (k1.trans k2) pl2
    · obtain ⟨ns, hp, hL⟩ := pl1
      obtain ⟨c0, g0, _⟩ := at_map (ns := ns) (i := 0) (by decide) (by omega)
      refine ⟨_, rfl, p, ns.map V.int, 0, .int c0, rfl, rfl, by decide, SqL.of hp, get_map g0, c0, 1, rfl, rfl, p, _, 0, 0, rfl, rfl, hp, ixN_in (by decide) (by rw [len_map]; omega), ?_⟩
      rw [set_map]
      generalize e1 : ns.set 0 (c0 + 1) = ms
      have hms : ms.length = L := by
        rw [← e1, List.length_set]
        exact hL
      clear e1
      have k2 : Kp p H (upd H1 p (.lst (ms.map V.int))) := k1.trans Kp.upd
      have hp1 : (upd H1 p (.lst (ms.map V.int))) p = some (.lst (ms.map V.int)) := upd_same
      generalize upd H1 p (.lst (ms.map V.int)) = H2 at *
      obtain ⟨c1, _, g1⟩ := at_map (ns := ms) (i := 0) (by decide) (by omega)
      have hL1 : (0 : Int) < ((ms.map V.int).length : Int) - 1 := by
        rw [len_map]
        omega
      refine ⟨_, rfl, p, _, 0, _, rfl, rfl, SqL.of hp1, g1, c1, rfl, _, rfl, p, _, rfl, .inl (SqL.of hp1), _, _, rfl, rfl, _, _, rfl, rfl, hL1, _, _, rfl, rfl, ?_⟩
      have b0 : 0 ≤ 1 + c1 % (((ms.map V.int).length : Int) - 1) := by
        have := Int.emod_nonneg c1 (Int.ne_of_gt hL1)
        omega
      have b1 : 1 + c1 % (((ms.map V.int).length : Int) - 1) < ms.length := by
        have := Int.emod_lt_of_pos c1 hL1
        rw [len_map] at this ⊢
        omega
      dsimp only
      generalize 1 + c1 % (((ms.map V.int).length : Int) - 1) = j at *
      obtain ⟨c2, _, g2⟩ := at_map (ns := ms) (i := j) b0 b1
      obtain ⟨c3, _, g3⟩ := at_map (ns := ms) (i := 0) (by decide) (by omega)
      refine ⟨_, rfl, _, rfl, p, _, j, _, rfl, rfl, SqL.of hp1, g2, _, _, rfl, rfl, .inr ⟨by decide, by decide⟩, _, rfl, p, _, 0, _, rfl, rfl, SqL.of hp1, g3, _, _, rfl, rfl, .inr ⟨by decide, by decide⟩, _, _, rfl, rfl, _, rfl, 10, 40, rfl, rfl, ⟨by decide, by decide, by decide⟩, _, _, rfl, rfl, (show (0 : Int) < 10 ^ 40 by decide), ?_⟩
      dsimp only
      generalize ez : (c2 * 48271 + c3 * 69621) % 10 ^ (40 : Int).toNat = z
      have z0 : 0 ≤ z := by rw [← ez]; exact Int.emod_nonneg _ (by decide)
      have z1 : z < 10 ^ 40 := by rw [← ez]; exact Int.emod_lt_of_pos _ (by decide)
      refine ⟨_, rfl, p, L, 2, rfl, ⟨_, hp1, hms⟩, h2, h64, by decide, by decide, fun r3 H3 _ _ k3 pl3 => ?_⟩
      refine ⟨rfl, _, rfl, ite2 (fun _ => ?_) (fun _ => ?_)⟩
      · exact ⟨_, rfl, q _ _ ⟨by omega, by omega⟩ (k2.trans k3) pl3⟩
      · exact ⟨_, rfl, _, _, rfl, rfl, q _ _ ⟨by omega, by omega⟩ (k2.trans k3) pl3⟩

def sp__law_is_row (K : PySem.W.Frag) : Sp := fun vs H Q _ => ∃ (a : Addr) (ns : List Int) (m : Int), vs = [.ref a, .int m] ∧ (SqL K H a (ns.map V.int) ∨ SqT K H a (ns.map V.int)) ∧ ns.length ≤ 1000 ∧
  ∀ (b : Bool) (H' : Hp), (m = (ns.length : Int) → b = true) → Same H H' → Q (.bl b) H'
theorem same_sq {K : PySem.W.Frag} {H H' : Hp} {a : Addr} {xs : List V} (e : Same H H') (h : SqT K H a xs) : SqT K H' a xs := by
  rcases h with (h | ⟨o, h⟩) | h
  · exact .inl (.inl (e _ _ h))
  · exact .inl (.inr ⟨o, e _ _ h⟩)
  · exact .inr h
theorem trues (n : Nat) : ((List.replicate n true).all id) = true := by
  induction n with
  | zero => rfl
  | succ n ih => rw [List.replicate_succ, List.all_cons, ih]; rfl
theorem ok__law_is_row (T : Top w K mg) : FnOk P w K mg base CX0 1 T.a__law_is_row T.d__law_is_row ["_law_value", "_law_many"] (sp__law_is_row K) := by
  refine T.F__law_is_row.ok sc__law_is_row (fun vs H Q E h => ?_) (fun cdv A outer s H vs Q E hr h => ?_)
  · obtain ⟨a, ns, m, rfl, _⟩ := h
    rfl
  · obtain ⟨a, ns, m, rfl, hS, hlen, q⟩ := h
    refine ⟨_, (pss_one (ps_ret (pe_and (pe_cmpR op_eq (pe_callB (k_len K) (by rfl) T.z_len bt_len (pa_cons (pv 0) pa_nil)) (pv 1) (nomark _)) (pe_one (pe_callB (k_all K) (by rfl) T.z_all bt_all (pa_cons (pe_lc (own := [("_law_x", 2)]) (g := (gName 2)) (tt := tYes) rfl sc__law_is_row.nd (k_piS K (pv 0)) (blkOk_by (N := N__law_is_row) (sc := defScope s__law_is_row) (by decide +kernel)) (fun _ _ _ _ _ => (pg_name (i := 2) sc__law_is_row.nd rfl (Or.inl rfl))) (fun _ _ _ _ _ => pts_nil) (fun _ _ _ _ _ => (pe_and (pe_callB (k_isi K) (by rfl) T.z_isinstance bt_isinstance (pa_cons (pv 2) (pa_cons (pe_bltn (v := .ty "int") (by rfl) T.z_int bt_int rfl) pa_nil))) (pe_one (pe_not (pe_callB (k_isi K) (by rfl) T.z_isinstance bt_isinstance (pa_cons (pv 2) (pa_cons (pe_bltn (v := .ty "bool") (by rfl) T.z_bool bt_bool rfl) pa_nil)))))))) pa_nil)))))), ?_⟩
    refine ⟨_, rfl, a, _, rfl, hS, _, rfl, rfl, _, rfl, ite2 (fun _ => ?_) (fun hn => ?_)⟩
    · have turn : ∀ (i : Nat) (x : V) (D : Addr) (H' : Hp), (ns.map V.int)[i]? = some x → H D = none → (Same H H' ∧ H' D = some (.lst ((List.replicate i true).map V.bl))) → i < ns.length →
          ∃ n, x = .int n ∧ (((List.replicate i true).map V.bl).length < sizeLine) ∧ (Same H (upd H' D (.lst ((List.replicate i true).map V.bl ++ [V.bl true]))) ∧ (upd H' D (.lst ((List.replicate i true).map V.bl ++ [V.bl true]))) D = some (.lst ((List.replicate (i + 1) true).map V.bl))) := by
        intro i x D H' hx hD h hi
        rw [List.getElem?_map, List.getElem?_eq_getElem hi] at hx
        cases hx
        refine ⟨_, rfl, ?_, same_new h.1 hD, ?_⟩
        · rw [List.length_map, List.length_replicate]
          exact small1000 (by omega)
        · rw [upd_same, List.replicate_succ', List.map_append]
          rfl
      have done : ∀ (D : Addr) (H' : Hp), (Same H H' ∧ H' D = some (.lst ((List.replicate (ns.map V.int).length true).map V.bl))) → ∃ bs : List Bool, SqL K H' D (bs.map V.bl) ∧ Q (.bl (bs.all id)) H' := by
        intro D H' h
        exact ⟨_, SqL.of h.2, q _ _ (fun _ => trues _) h.1⟩
      have fin : ∀ (D : Addr) (H' : Hp), (Same H H' ∧ H' D = some (.lst ((List.replicate (ns.map V.int).length true).map V.bl))) → tCB (rAll K) (fun σ H Q => Q [V.ref D] H) [] H' Q := by
        intro D H' h
        obtain ⟨bs, h1, h2⟩ := done D H' h
        exact ⟨D, bs, rfl, h1, h2⟩
      rcases hS with hS | hS
      · refine .inl ⟨_, rfl, a, rfl, ⟨_, hS⟩, fun D nD => ?_⟩
        refine lc_list (xs := ns.map V.int) (fun i H' => Same H H' ∧ H' D = some (.lst ((List.replicate i true).map V.bl))) ⟨same_upd nD, upd_same⟩ (fun i H' _ h => h.1.seq hS) (fun i x H' hx h => ?_) (fun H' h => fin D H' h)
        obtain ⟨n, rfl, h1, h2⟩ := turn i x D H' hx nD h (by have := (List.getElem?_eq_some_iff.mp hx).1; rwa [List.length_map] at this)
        refine ⟨rfl, _, rfl, _, _, _, _, true, rfl, .ty _, .base (.int n), kit_ty (by decide +kernel), true, rfl, _, rfl, _, _, _, _, false, rfl, .ty _, .base (.int n), kit_ty (by decide +kernel), false, rfl, _, h.2, h1, h2⟩
      · refine .inr ⟨_, rfl, a, rfl, ⟨_, hS⟩, fun D nD => ?_⟩
        refine lc_tup (xs := ns.map V.int) (fun i H' => Same H H' ∧ H' D = some (.lst ((List.replicate i true).map V.bl))) ⟨same_upd nD, upd_same⟩ (fun i H' _ h => same_sq h.1 hS) (fun i x H' hx h => ?_) (fun H' h => fin D H' h)
        obtain ⟨n, rfl, h1, h2⟩ := turn i x D H' hx nD h (by have := (List.getElem?_eq_some_iff.mp hx).1; rwa [List.length_map] at this)
        refine ⟨rfl, _, rfl, _, _, _, _, true, rfl, .ty _, .base (.int n), kit_ty (by decide +kernel), true, rfl, _, rfl, _, _, _, _, false, rfl, .ty _, .base (.int n), kit_ty (by decide +kernel), false, rfl, _, h.2, h1, h2⟩
    · refine q false _ (fun e => ?_) (Same.refl _)
      exact absurd (decide_eq_true (by rw [len_map, ← e])) hn

def sp__law_is_matrix (K : PySem.W.Frag) : Sp := fun vs H Q _ => ∃ (a : Addr) (ns : List Int), vs = [.ref a] ∧ H a = some (.lst (ns.map V.int)) ∧ ns.length = 49 ∧ ∀ H', Same H H' → Q (.bl true) H'
theorem ok__law_is_matrix (T : Top w K mg) : FnOk P w K mg base CX0 2 T.a__law_is_matrix T.d__law_is_matrix ["_law_value"] (sp__law_is_matrix K) := by
  refine T.F__law_is_matrix.ok sc__law_is_matrix (fun vs H Q E h => ?_) (fun cdv A outer s H vs Q E hr h => ?_)
  · obtain ⟨a, ns, rfl, _⟩ := h
    rfl
  · obtain ⟨a, ns, rfl, ha, hl, q⟩ := h
    refine ⟨_, (pss_one (ps_ret (pe_and (pe_callB (k_isi K) (by rfl) T.z_isinstance bt_isinstance (pa_cons (pv 0) (pa_cons (pe_bltn (v := .ty "list") (by rfl) T.z_list bt_list rfl) pa_nil))) (pe_one (pe_call (ok__law_is_row T) hr (by rfl) T.g__law_is_row T.F__law_is_row.kp (b__law_is_row T) .nil pass0 (pa_cons (pv 0) (pa_cons pe_int pa_nil))))))), ?_⟩
    refine ⟨_, rfl, _, _, _, _, true, rfl, .ty _, .base (.lst ha), kit_ty (by decide +kernel), true, rfl, _, rfl, a, ns, 49, rfl, .inl (SqL.of ha), by omega, fun b H' hb sm => ?_⟩
    rw [hb (by rw [hl]; rfl)]
    exact q H' sm

def sp__law_any_matrix (K : PySem.W.Frag) : Sp := fun vs H Q _ => ∃ (p : Addr) (L : Nat), vs = [.ref p] ∧ Pool H p L ∧ 2 ≤ L ∧ L ≤ 64 ∧
  ∀ (q : Addr) (ns : List Int) (H' : Hp), ns.length = 49 → (∀ n ∈ ns, Bd n) → Kp p H H' → Pool H' p L → H q = none → H' q = some (.lst (ns.map V.int)) → Q (.ref q) H'
theorem bd_snoc {ns : List Int} {z : Int} (h : ∀ n ∈ ns, Bd n) (b : Bd z) : ∀ n ∈ ns ++ [z], Bd n := fun n hn => by
  rcases List.mem_append.mp hn with hn | hn
  · exact h n hn
  · rw [List.mem_singleton.mp hn]
    exact b
theorem map_snoc (ns : List Int) (z : Int) : ns.map V.int ++ [.int z] = (ns ++ [z]).map V.int := by
  rw [List.map_append]
  rfl
theorem ok__law_any_matrix (T : Top w K mg) : FnOk P w K mg base CX0 3 T.a__law_any_matrix T.d__law_any_matrix ["_law_pool_here"] (sp__law_any_matrix K) := by
  refine T.F__law_any_matrix.ok sc__law_any_matrix (fun vs H Q E h => ?_) (fun cdv A outer s H vs Q E hr h => ?_)
  · obtain ⟨p, L, rfl, _⟩ := h
    rfl
  · obtain ⟨p, L, rfl, pl, h2, h64, q⟩ := h
    refine ⟨_, (pss_cons (ps_set (i := 1) sc__law_any_matrix.nd rfl (Or.inl rfl) (pe_call (ok__law_draw T) (hr.mono (by decide)) (by rfl) T.g__law_draw T.F__law_draw.kp (b__law_draw T) .nil pass0 (pa_cons (pv 0) (pa_cons pe_int pa_nil))))
      (pss_cons (ps_set (i := 2) sc__law_any_matrix.nd rfl (Or.inl rfl) (pe_lst pa_nil))
      (pss_cons (ps_for PassesOwn.never rfl (pi_range1 (by rfl) T.z_range (pa_cons pe_int pa_nil)) (pg_name (i := 3) sc__law_any_matrix.nd rfl (Or.inl rfl)) (pss_cons (ps_set (i := 4) sc__law_any_matrix.nd rfl (Or.inl rfl) pe_int)
        (pss_cons (ps_if (pt_cmpR op_eq (pe_call (ok__law_draw T) (hr.mono (by decide)) (by rfl) T.g__law_draw T.F__law_draw.kp (b__law_draw T) .nil pass0 (pa_cons (pv 0) (pa_cons pe_int pa_nil))) pe_int (nomark _)) (pss_cons (ps_set (i := 4) sc__law_any_matrix.nd rfl (Or.inl rfl) (pe_op op_sub (pe_call (ok__law_draw T) (hr.mono (by decide)) (by rfl) T.g__law_draw T.F__law_draw.kp (b__law_draw T) .nil pass0 (pa_cons (pv 0) (pa_cons pe_int pa_nil))) pe_int))
          (pss_one (ps_if (pt_cmpR op_eq (pv 1) pe_int (nomark _)) (pss_one (ps_set (i := 4) sc__law_any_matrix.nd rfl (Or.inl rfl) (pe_call (ok__law_number T) hr (by rfl) T.g__law_number T.F__law_number.kp (b__law_number T) .nil pass0 (pa_cons (pv 0) pa_nil)))) pss_nil))) pss_nil)
        (pss_one (ps_expr (pe_bm PySem.F.plainAttrs_list PySem.F.slot_list_append PySem.F.type_list_append mt_append (pv 2) (pa_cons (pv 4) pa_nil)))))))
      (pss_one (ps_ret (pv 2)))))), ?_⟩
    refine ⟨_, rfl, p, L, 4, rfl, pl, h2, h64, by decide, by decide, fun wd H1 _ _ k1 pl1 => ?_⟩
    refine ⟨Nat.zero_le _, fun m nm => ?_⟩
    have nm0 : H m = none := k1.none nm (pl1.ne nm)
    have hmp : m ≠ p := pl1.ne nm
    refine ⟨49, rfl, by decide, by decide, for_range (n := 49) (fun i σ H' => ∃ (y z : Option V) (ns : List Int), σ = [some (.ref p), some (.int wd), some (.ref m), y, z] ∧ ns.length = i ∧ (∀ n ∈ ns, Bd n) ∧ Kp p H H' ∧ Pool H' p L ∧ H' m = some (.lst (ns.map V.int))) ?_ (fun i σ H' hi h => ?_) (fun σ H' h => ?_)⟩
    · exact ⟨none, none, [], rfl, rfl, (by intro n hn; cases hn), k1.new nm0, pl1.new nm, upd_same⟩
    · obtain ⟨y, z, ns, rfl, hl, hb, k2, pl2, hm⟩ := h
      have hz : (ns.map V.int).length < sizeLine := by
        rw [len_map]
        exact small1000 (by omega)
      refine ⟨_, rfl, p, L, 3, rfl, pl2, h2, h64, by decide, by decide, fun r3 H3 _ _ k3 pl3 => ?_⟩
      have hm3 := k3 _ _ hmp hm
      refine ⟨rfl, _, rfl, ite2 (fun _ => ?_) (fun _ => ?_)⟩
      · refine ⟨_, rfl, p, L, 9, rfl, pl3, h2, h64, by decide, by decide, fun r4 H4 a1 a2 k4 pl4 => ?_⟩
        have hm4 := k4 _ _ hmp hm3
        have b4 : Bd (r4 - 4) := ⟨by omega, by omega⟩
        refine ⟨_, _, rfl, rfl, _, rfl, rfl, _, rfl, ite2 (fun _ => ?_) (fun _ => ?_)⟩
        · refine ⟨_, rfl, p, L, rfl, pl4, h2, h64, fun r5 H5 b5 k5 pl5 => ?_⟩
          have hm5 := k5 _ _ hmp hm4
          refine ⟨_, rfl, .inl ⟨rfl, _, SqL.of hm5⟩, _, rfl, m, _, _, rfl, rfl, hm5, hz, ?_⟩
          rw [map_snoc]
          exact ⟨_, _, ns ++ [r5], rfl, by simp [hl], bd_snoc hb b5, ((k2.trans k3).trans (k4.trans k5)).new nm0, pl5.keep hmp, upd_same⟩
        · refine ⟨_, rfl, .inl ⟨rfl, _, SqL.of hm4⟩, _, rfl, m, _, _, rfl, rfl, hm4, hz, ?_⟩
          rw [map_snoc]
          exact ⟨_, _, ns ++ [r4 - 4], rfl, by simp [hl], bd_snoc hb b4, ((k2.trans k3).trans k4).new nm0, pl4.keep hmp, upd_same⟩
      · refine ⟨_, rfl, .inl ⟨rfl, _, SqL.of hm3⟩, _, rfl, m, _, _, rfl, rfl, hm3, hz, ?_⟩
        have e0 : ns.map V.int ++ [.int 0] = (ns ++ [0]).map V.int := map_snoc ns 0
        rw [e0]
        exact ⟨_, _, ns ++ [0], rfl, by simp [hl], bd_snoc hb ⟨by decide, by decide⟩, (k2.trans k3).new nm0, pl3.keep hmp, upd_same⟩
    · obtain ⟨y, z, ns, rfl, hl, hb, k2, pl2, hm⟩ := h
      exact ⟨_, rfl, q m ns H' hl hb k2 pl2 nm0 hm⟩

theorem getD_get {ns : List Int} {t : Nat} (h : t < ns.length) : ns[t]? = some (ns.getD t 0) := by
  rw [List.getD_eq_getElem?_getD, List.getElem?_eq_getElem h]
  rfl
theorem at_nat {ns : List Int} {i : Int} {t : Nat} (e : i = (t : Int)) (h : t < ns.length) : atI (ns.map V.int) i = some (.int (ns.getD t 0)) := by
  rw [e]
  exact atI_nat (get_map (getD_get h))
theorem range_snoc (f : Nat → Int) (n : Nat) : ((List.range n).map f).map V.int ++ [.int (f n)] = ((List.range (n + 1)).map f).map V.int := by
  rw [List.range_succ, List.map_append, List.map_append]
  rfl
theorem list49 {ns : List Int} (h : ns.length = 49) : ns = (List.range 49).map fun t => ns.getD t 0 := by
  refine List.ext_getElem? fun t => ?_
  rw [List.getElem?_map]
  by_cases ht : t < 49
  · rw [List.getElem?_range ht, getD_get (by omega)]
    rfl
  · rw [List.getElem?_eq_none (by omega), List.getElem?_eq_none (by rw [List.length_range]; omega)]
    rfl

def S (n : Nat) (f : Nat → Int) : Int := ((List.range n).map f).sum
theorem S_zero (f : Nat → Int) : S 0 f = 0 := rfl
theorem sum_snoc (l : List Int) (z : Int) : (l ++ [z]).sum = l.sum + z := by
  rw [List.sum_append, List.sum_cons, List.sum_nil, Int.add_zero]
theorem S_succ (n : Nat) (f : Nat → Int) : S (n + 1) f = S n f + f n := by
  unfold S
  rw [List.range_succ, List.map_append, List.map_cons, List.map_nil, sum_snoc]
theorem S_congr {n : Nat} {f g : Nat → Int} (h : ∀ k, k < n → f k = g k) : S n f = S n g := by
  unfold S
  rw [List.map_congr_left fun k hk => h k (List.mem_range.mp hk)]
theorem S_left (n : Nat) (c : Int) (f : Nat → Int) : c * S n f = S n fun k => c * f k := by
  induction n with
  | zero => rw [S_zero, S_zero, Int.mul_zero]
  | succ n ih => rw [S_succ, S_succ, Int.mul_add, ih]
theorem S_right (n : Nat) (c : Int) (f : Nat → Int) : S n f * c = S n fun k => f k * c := by
  induction n with
  | zero => rw [S_zero, S_zero, Int.zero_mul]
  | succ n ih => rw [S_succ, S_succ, Int.add_mul, ih]
theorem S_add (n : Nat) (f g : Nat → Int) : (S n fun k => f k + g k) = S n f + S n g := by
  induction n with
  | zero => rfl
  | succ n ih =>
    rw [S_succ, S_succ, S_succ, ih]
    omega
theorem S_const0 (n : Nat) : (S n fun _ => 0) = 0 := by
  induction n with
  | zero => rfl
  | succ n ih => rw [S_succ, ih, Int.add_zero]
theorem S_comm (n m : Nat) (f : Nat → Nat → Int) : (S n fun i => S m fun j => f i j) = S m fun j => S n fun i => f i j := by
  induction n with
  | zero => rw [S_zero]; exact (S_const0 m).symm
  | succ n ih =>
    rw [S_succ, ih, ← S_add]
    refine S_congr fun j _ => ?_
    rw [S_succ]
theorem S_single {n i : Nat} {f : Nat → Int} (hi : i < n) (h : ∀ k, k < n → k ≠ i → f k = 0) : S n f = f i := by
  induction n with
  | zero => omega
  | succ n ih =>
    rw [S_succ]
    by_cases e : i = n
    · subst e
      rw [show S i f = 0 from (S_congr fun k hk => h k (by omega) (by omega)).trans (S_const0 i), Int.zero_add]
    · rw [ih (by omega) (fun k hk hne => h k (by omega) hne), h n (by omega) (by omega), Int.add_zero]
theorem S_bound {n b : Nat} {f : Nat → Int} (h : ∀ k, k < n → (f k).natAbs < 2 ^ b) : (S n f).natAbs ≤ n * 2 ^ b := by
  induction n with
  | zero => rw [S_zero]; simp
  | succ n ih =>
    rw [S_succ, Nat.succ_mul]
    have h1 := ih fun k hk => h k (by omega)
    have h2 := h n (by omega)
    have h3 := Int.natAbs_add_le (S n f) (f n)
    omega
/-- all numbers below 2 ^ b -/
def Bw (b : Nat) (ns : List Int) : Prop := ∀ t, (ns.getD t 0).natAbs < 2 ^ b
theorem Bw.mono {a b : Nat} {ns : List Int} (h : Bw a ns) (hab : a ≤ b) : Bw b ns := fun t => Nat.lt_of_lt_of_le (h t) (Nat.pow_le_pow_right (by decide) hab)
theorem getD_mem {ns : List Int} {P : Int → Prop} (h : ∀ n ∈ ns, P n) (h0 : P 0) (t : Nat) : P (ns.getD t 0) := by
  rw [List.getD_eq_getElem?_getD]
  cases e : ns[t]? with
  | none => exact h0
  | some n => exact h n (List.mem_of_getElem? e)
theorem Bd.bw {ns : List Int} (h : ∀ n ∈ ns, Bd n) : Bw 133 ns := fun t => by
  have := getD_mem h ⟨by decide, by decide⟩ t
  have h1 : -(2 ^ 133) < ns.getD t 0 := this.1
  have h2 : ns.getD t 0 < 2 ^ 133 := this.2
  generalize ns.getD t 0 = z at *
  omega
theorem bw_mul {a b : Nat} {x y : Int} (hx : x.natAbs < 2 ^ a) (hy : y.natAbs < 2 ^ b) (ha : 0 < a) (hb : 0 < b) (h : a + b ≤ 1000000) : CMulW x y := wide_mul hx hy ha hb h
def row (ns : List Int) (i : Nat) : List Int := (List.range 7).map fun t => ns.getD (7 * i + t) 0
def col (ns : List Int) (j : Nat) : List Int := (List.range 7).map fun t => ns.getD (7 * t + j) 0
theorem row_len (ns : List Int) (i : Nat) : (row ns i).length = 7 := by unfold row; rw [List.length_map, List.length_range]
theorem col_len (ns : List Int) (i : Nat) : (col ns i).length = 7 := by unfold col; rw [List.length_map, List.length_range]
theorem getD7 {g : Nat → Int} {t : Nat} : ((List.range 7).map g).getD t 0 = if t < 7 then g t else 0 := by
  rw [List.getD_eq_getElem?_getD, List.getElem?_map]
  by_cases ht : t < 7
  · rw [List.getElem?_range ht, if_pos ht]
    rfl
  · rw [List.getElem?_eq_none (by rw [List.length_range]; omega), if_neg ht]
    rfl
theorem row_bw {b : Nat} {ns : List Int} (h : Bw b ns) (i : Nat) : Bw b (row ns i) := fun t => by
  unfold row
  rw [getD7]
  split
  · exact h _
  · exact Nat.two_pow_pos b
theorem col_bw {b : Nat} {ns : List Int} (h : Bw b ns) (i : Nat) : Bw b (col ns i) := fun t => by
  unfold col
  rw [getD7]
  split
  · exact h _
  · exact Nat.two_pow_pos b
theorem cut_row {ns : List Int} {i : Nat} (hl : ns.length = 49) (hi : i < 7) : cutV (ns.map V.int) (some (7 * (i : Int))) (some (7 * (i : Int) + 7)) = (row ns i).map V.int := by
  have e1 : (7 * (i : Int)) = ((7 * i : Nat) : Int) := by omega
  have e2 : (7 * (i : Int) + 7) = ((7 * i + 7 : Nat) : Int) := by omega
  rw [e1, show (((7 * i : Nat) : Int) + 7) = ((7 * i + 7 : Nat) : Int) by omega]
  have h : cutV (ns.map V.int) (some ((7 * i : Nat) : Int)) (some ((7 * i + 7 : Nat) : Int)) = ((ns.map V.int).drop (7 * i)).take (7 * i + 7 - 7 * i) := by
    unfold cutV
    rw [HT.sIx_nat, HT.sIx_nat, Nat.min_eq_left (by rw [len_map]; omega), Nat.min_eq_left (by rw [len_map]; omega)]
  rw [h, ← List.map_drop, ← List.map_take]
  refine congrArg (List.map V.int) (List.ext_getElem? fun t => ?_)
  unfold row
  rw [List.getElem?_take, List.getElem?_drop, List.getElem?_map]
  by_cases ht : t < 7
  · rw [if_pos (by omega), List.getElem?_range ht, getD_get (by omega)]
    rfl
  · rw [if_neg (by omega), List.getElem?_eq_none (by rw [List.length_range]; omega)]
    rfl

def sp_row_of (K : PySem.W.Frag) : Sp := fun vs H Q _ => ∃ (a : Addr) (ns : List Int) (z : Int) (i : Nat), vs = [.ref a, .int z] ∧ z = (i : Int) ∧ SqL K H a (ns.map V.int) ∧ ns.length = 49 ∧ i < 7 ∧
  ∀ (q : Addr) (H' : Hp), Same H H' → H q = none → H' q = some (.lst ((row ns i).map V.int)) → Q (.ref q) H'
theorem ok_row_of (T : Top w K mg) : FnOk P w K mg base CX0 1 T.a_row_of T.d_row_of ["matrix", "i"] (sp_row_of K) := by
  refine T.F_row_of.ok sc_row_of (fun vs H Q E h => ?_) (fun cdv A outer s H vs Q E hr h => ?_)
  · obtain ⟨a, ns, z, i, rfl, _⟩ := h
    rfl
  · obtain ⟨a, ns, z, i, rfl, rfl, hS, hl, hi, q⟩ := h
    refine ⟨_, (pss_one (ps_ret (pe_slice (k_slL K) (pv 0) (po_some (pe_op op_mul pe_int (pv 1))) (po_some (pe_op op_add (pe_op op_mul pe_int (pv 1)) pe_int))))), ?_⟩
    refine ⟨_, rfl, _, rfl, _, _, rfl, rfl, .inl ⟨by decide, by decide⟩, _, rfl, _, rfl, _, _, rfl, rfl, .inl ⟨by decide, by decide⟩, _, _, rfl, rfl, _, rfl, a, _, rfl, hS, fun p np => ?_⟩
    rw [cut_row hl hi]
    exact q p _ (same_upd np) np upd_same
def dot7 (r c : List Int) : Int := S 7 fun t => r.getD t 0 * c.getD t 0

/-! ### the names of a comprehension -/
theorem wipe_get : ∀ (vs : List Nat) (σ : L2.St) (j : Nat), (wipe σ vs)[j]? = if j ∈ vs then (σ[j]?).map (fun _ => none) else σ[j]?
  | [], σ, j => by simp [wipe]
  | v :: r, σ, j => by
    rw [wipe, List.getElem?_set]
    have ih := wipe_get r σ j
    have hl := wipe_length σ r
    by_cases h : v = j
    · subst h
      rw [if_pos rfl, if_pos List.mem_cons_self]
      by_cases h2 : v < (wipe σ r).length
      · rw [if_pos h2, List.getElem?_eq_getElem (by omega)]
        rfl
      · rw [if_neg h2, List.getElem?_eq_none (by omega)]
        rfl
    · rw [if_neg h, ih]
      by_cases h3 : j ∈ r
      · rw [if_pos h3, if_pos (List.mem_cons_of_mem _ h3)]
      · rw [if_neg h3, if_neg (fun z => (List.mem_cons.mp z).elim (fun z => h z.symm) h3)]
theorem wipe_set {vs : List Nat} {σ : L2.St} {i : Nat} {x : Option V} (h : i ∈ vs) : wipe (σ.set i x) vs = wipe σ vs := by
  refine List.ext_getElem? fun j => ?_
  rw [wipe_get, wipe_get]
  by_cases hj : j ∈ vs
  · rw [if_pos hj, if_pos hj, List.getElem?_set]
    by_cases e : i = j
    · subst e
      rw [if_pos rfl]
      by_cases hl : i < σ.length
      · rw [if_pos hl, List.getElem?_eq_getElem hl]
        rfl
      · rw [if_neg hl, List.getElem?_eq_none (by omega)]
    · rw [if_neg e]
  · rw [if_neg hj, if_neg hj, List.getElem?_set_ne (fun e => hj (by rw [← e]; exact h))]
theorem wipe_wipe {vs : List Nat} {σ : L2.St} : wipe (wipe σ vs) vs = wipe σ vs := by
  refine List.ext_getElem? fun j => ?_
  rw [wipe_get, wipe_get]
  by_cases hj : j ∈ vs
  · rw [if_pos hj, if_pos hj]
    cases σ[j]? <;> rfl
  · rw [if_neg hj, if_neg hj]
theorem wipe7 {vs : List Nat} {σ : L2.St} {a b c d e f g : Nat} {x0 x1 x2 x3 x4 x5 x6 : Option V} (h : a ∈ vs ∧ b ∈ vs ∧ c ∈ vs ∧ d ∈ vs ∧ e ∈ vs ∧ f ∈ vs ∧ g ∈ vs) :
    wipe (((((((((wipe σ vs).set a x0).set b x1).set c x2).set d x3).set e x4).set f x5).set g x6)) vs = wipe σ vs := by
  obtain ⟨h0, h1, h2, h3, h4, h5, h6⟩ := h
  rw [wipe_set h6, wipe_set h5, wipe_set h4, wipe_set h3, wipe_set h2, wipe_set h1, wipe_set h0, wipe_wipe]
theorem at_slots {te : TE} {σ σ' : L2.St} {H : Hp} {K : VK} {N : Hp → Prop} (e : σ = σ') (q : te σ' H K) : tYes σ H fun b H3 => if b = true then te σ H3 K else N H3 := by
  subst e
  exact q

def cell (ns ms : List Int) (i j : Nat) : Int := S 7 fun k => ms.getD (7 * i + k) 0 * ns.getD (7 * k + j) 0
def comp (ns ms : List Int) : List Int := (List.range 49).map fun t => cell ns ms (t / 7) (t % 7)
theorem comp_len (ns ms : List Int) : (comp ns ms).length = 49 := by unfold comp; rw [List.length_map, List.length_range]
theorem dot_cell (ns ms : List Int) (i j : Nat) : dot7 (row ms i) (col ns j) = cell ns ms i j := S_congr fun k hk => by
  unfold row col
  rw [getD7, getD7, if_pos hk, if_pos hk]
theorem getD49 {g : Nat → Int} {t : Nat} : ((List.range 49).map g).getD t 0 = if t < 49 then g t else 0 := by
  rw [List.getD_eq_getElem?_getD, List.getElem?_map]
  by_cases ht : t < 49
  · rw [List.getElem?_range ht, if_pos ht]
    rfl
  · rw [List.getElem?_eq_none (by rw [List.length_range]; omega), if_neg ht]
    rfl
theorem comp_bw {a b : Nat} {ns ms : List Int} (ha : Bw a ns) (hb : Bw b ms) : Bw (a + b + 3) (comp ns ms) := fun t => by
  unfold comp
  rw [getD49]
  split
  · have h := S_bound (n := 7) (b := b + a) (f := fun k => ms.getD (7 * (t / 7) + k) 0 * ns.getD (7 * k + t % 7) 0) fun k _ => wide_lt (hb _) (ha _)
    have e : (2 : Nat) ^ (a + b + 3) = 8 * 2 ^ (b + a) := by rw [Nat.pow_add, Nat.add_comm a b]; omega
    have p := Nat.two_pow_pos (b + a)
    show (S 7 fun k => ms.getD (7 * (t / 7) + k) 0 * ns.getD (7 * k + t % 7) 0).natAbs < _
    omega
  · exact Nat.two_pow_pos _
theorem comp_at (ns ms : List Int) {i j : Nat} (hi : i < 7) (hj : j < 7) : (comp ns ms).getD (7 * i + j) 0 = cell ns ms i j := by
  unfold comp
  rw [getD49, if_pos (by omega), show (7 * i + j) / 7 = i by omega, show (7 * i + j) % 7 = j by omega]
theorem comp_assoc (a b c : List Int) : comp (comp a b) c = comp a (comp b c) := by
  unfold comp
  refine List.map_congr_left fun t ht => ?_
  have ht := List.mem_range.mp ht
  show cell (comp a b) c (t / 7) (t % 7) = cell a (comp b c) (t / 7) (t % 7)
  have h1 : cell (comp a b) c (t / 7) (t % 7) = S 7 fun k => S 7 fun l => c.getD (7 * (t / 7) + k) 0 * (b.getD (7 * k + l) 0 * a.getD (7 * l + t % 7) 0) := S_congr fun k hk => by
    rw [comp_at a b hk (Nat.mod_lt _ (by decide))]
    exact S_left 7 _ _
  have h2 : cell a (comp b c) (t / 7) (t % 7) = S 7 fun l => S 7 fun k => c.getD (7 * (t / 7) + k) 0 * b.getD (7 * k + l) 0 * a.getD (7 * l + t % 7) 0 := S_congr fun l hl => by
    rw [comp_at b c (by omega) hl]
    exact S_right 7 _ _
  rw [h1, h2, S_comm]
  exact S_congr fun l _ => S_congr fun k _ => (Int.mul_assoc _ _ _).symm
def unit : List Int := (List.range 49).map fun k => if k % 8 = 0 then 1 else 0
theorem unit_at {i k : Nat} (hi : i < 7) (hk : k < 7) : unit.getD (7 * i + k) 0 = if k = i then 1 else 0 := by
  unfold unit
  rw [getD49, if_pos (by omega)]
  by_cases e : k = i
  · rw [if_pos e, if_pos (by omega)]
  · rw [if_neg e, if_neg (by omega)]
theorem unit_bw : Bw 133 unit := fun t => by
  unfold unit
  rw [getD49]
  split
  · split <;> decide
  · decide
theorem unit_len : unit.length = 49 := by unfold unit; rw [List.length_map, List.length_range]
theorem comp_unit {ns : List Int} (h : ns.length = 49) : comp ns unit = ns := by
  refine Eq.trans ?_ (list49 h).symm
  unfold comp
  refine List.map_congr_left fun t ht => ?_
  have ht := List.mem_range.mp ht
  have e : cell ns unit (t / 7) (t % 7) = unit.getD (7 * (t / 7) + t / 7) 0 * ns.getD (7 * (t / 7) + t % 7) 0 := by
    refine S_single (i := t / 7) (f := fun k => unit.getD (7 * (t / 7) + k) 0 * ns.getD (7 * k + t % 7) 0) (by omega) fun k hk hne => ?_
    show unit.getD (7 * (t / 7) + k) 0 * _ = 0
    rw [unit_at (by omega) hk, if_neg hne, Int.zero_mul]
  rw [e, unit_at (by omega) (by omega), if_pos rfl, Int.one_mul, show 7 * (t / 7) + t % 7 = t by omega]
theorem unit_comp {ns : List Int} (h : ns.length = 49) : comp unit ns = ns := by
  refine Eq.trans ?_ (list49 h).symm
  unfold comp
  refine List.map_congr_left fun t ht => ?_
  have ht := List.mem_range.mp ht
  have e : cell unit ns (t / 7) (t % 7) = ns.getD (7 * (t / 7) + t % 7) 0 * unit.getD (7 * (t % 7) + t % 7) 0 := by
    refine S_single (i := t % 7) (f := fun k => ns.getD (7 * (t / 7) + k) 0 * unit.getD (7 * k + t % 7) 0) (by omega) fun k hk hne => ?_
    show _ * unit.getD (7 * k + t % 7) 0 = 0
    rw [unit_at hk (by omega), if_neg (fun e => hne e.symm), Int.mul_zero]
  rw [e, unit_at (by omega) (by omega), if_pos rfl, Int.mul_one, show 7 * (t / 7) + t % 7 = t by omega]
/-! ### xs[j::7] of a list of 49 -/
theorem range7 {j : Nat} (hj : j < 7) : sliceRange (j : Int) 49 7 = (List.range 7).map fun k => j + 7 * k := by
  match j, hj with
  | 0, _ => decide
  | 1, _ => decide
  | 2, _ => decide
  | 3, _ => decide
  | 4, _ => decide
  | 5, _ => decide
  | 6, _ => decide
theorem filterMap_get (its : List Value) : ∀ ks : List Nat, (∀ k ∈ ks, k < its.length) → ks.filterMap (fun k => its[k]?) = ks.map fun k => its.getD k .none
  | [], _ => rfl
  | k :: r, h => by
    have hk := h k (List.mem_cons_self ..)
    rw [List.filterMap_cons, List.getElem?_eq_getElem hk, List.map_cons, List.getD_eq_getElem?_getD, List.getElem?_eq_getElem hk, filterMap_get its r fun k hk => h k (List.mem_cons_of_mem _ hk)]
    rfl
theorem pick7 {its : List Value} {j : Nat} (hl : its.length = 49) (hj : j < 7) : slicePick its.toArray (some (j : Int)) none (some 7) = ((List.range 7).map fun k => its.getD (j + 7 * k) .none).toArray := by
  unfold slicePick
  have e1 : (sliceBounds (some (j : Int)) none (some 7) its.toArray.size).1 = (j : Int) := by
    simp only [sliceBounds, List.size_toArray, hl, Option.getD_some, show (7 : Int) > 0 by decide, if_true]
    rw [if_neg (by omega)]
    omega
  have e2 : (sliceBounds (some (j : Int)) none (some 7) its.toArray.size).2.1 = 49 := by
    simp only [sliceBounds, List.size_toArray, hl, Option.getD_some, show (7 : Int) > 0 by decide, if_true]
    rfl
  have e3 : (sliceBounds (some (j : Int)) none (some 7) its.toArray.size).2.2 = 7 := rfl
  rw [e1, e2, e3, range7 hj]
  have := filterMap_get its ((List.range 7).map fun k => j + 7 * k) fun k hk => by
    obtain ⟨i, hi, rfl⟩ := List.mem_map.mp hk
    have := List.mem_range.mp hi
    omega
  rw [List.map_map] at this
  simp only [List.getElem?_toArray]
  rw [this]
  rfl
theorem vals_pick {j : Nat} {xs : List V} {its : List Value} (r : Vals xs its) (hl : xs.length = 49) (hj : j < 7) : ∀ ks : List Nat, (∀ k ∈ ks, k < 7) → Vals (ks.map fun k => xs.getD (j + 7 * k) .non) (ks.map fun k => its.getD (j + 7 * k) .none)
  | [], _ => .nil
  | k :: ks, h => by
    have hk := h k (List.mem_cons_self ..)
    have hx : xs[j + 7 * k]? = some (xs.getD (j + 7 * k) .non) := by
      rw [List.getD_eq_getElem?_getD, List.getElem?_eq_getElem (show j + 7 * k < xs.length by omega)]
      rfl
    obtain ⟨u, hu, ru⟩ := r.get hx
    rw [List.map_cons, List.map_cons]
    refine .cons ?_ (vals_pick r hl hj ks fun k hk => h k (List.mem_cons_of_mem _ hk))
    rw [List.getD_eq_getElem?_getD (l := its), hu]
    exact ru
def tStep7 (K : PySem.W.Frag) (te tl : TE) : TE := fun σ H Q => te σ H fun x H1 => tPart tl σ H1 fun o H2 => ∃ (a : Addr) (xs : List V) (j : Nat), o = some (j : Int) ∧ x = .ref a ∧ SqL K H2 a xs ∧ xs.length = 49 ∧ j < 7 ∧
  ∀ p, H2 p = none → Q (.ref p) (upd H2 p (.lst ((List.range 7).map fun k => xs.getD (j + 7 * k) .non)))
theorem pe_step7 (K : PySem.W.Frag) {X : Cx} {e lo : Expr} {te tl : TE} {k : Nat} {p1 p3 pos : Pos} (he : PE X e te) (hl : PE X lo tl) (hK : X.K = K := by rfl) : PE X (.Subscript e (.Slice (some lo) none (some (.Constant (.int 7) k p1)) p3) pos) (tStep7 K te tl) := by
  subst hK
  refine ⟨fun pins s σ H Q I h => ?_⟩
  refine Subscript_ (thn (he.run pins s σ H _ I h) fun v s1 ⟨x, H1, I1, r1, q1⟩ => ?_)
  have hlo : PO X (some lo) (tPart tl) := po_some hl
  have hst : PO X (some (.Constant (.int 7) k p1)) (tPart (tC (.int 7))) := po_some pe_int
  refine wpAny_Slice (thn (hlo.run pins s1 σ H1 _ I1 q1) fun vl s2 ⟨l, H2, I2, pl, a, xs, j, el, ex, hx, hxl, hj, q⟩ => ?_)
  subst el ex
  cases r1
  refine thn (po_none.run pins s2 σ H2 (fun o H3 => o = none ∧ H3 = H2) I2 ⟨rfl, rfl⟩) fun vu s3 ⟨u, H3, I3, pu, eu, e3⟩ => ?_
  subst eu e3
  refine thn (hst.run pins s3 σ H3 (fun o H4 => o = some 7 ∧ H4 = H3) I3 ⟨7, rfl, rfl, rfl⟩) fun vs s4 ⟨o, H4, I4, ps, eo, e4⟩ => ?_
  subst eo e4
  have I5 : Inv X pins σ H4 { s4 with heap := s4.heap.push { cls := .type "slice", data := .fields #[vl, vu, vs] } } := I4.kept (t' := s4.toks) fun b ob q => Heap.get?_push_of_some _ q
  obtain ⟨its, r, ht, hz⟩ := I5.list hx
  have hlen := r.length
  show wpAny (model X.prog X.w) X.A (subscriptTail e (.Slice (some lo) none (some (.Constant (.int 7) k p1)) p3) (.ref a) (.ref s4.heap.objs.size)) (EP X pins σ Q) X.xe { s4 with heap := s4.heap.push { cls := .type "slice", data := .fields #[vl, vu, vs] } }
  refine tail_any (ops := [.ref a, .ref s4.heap.objs.size]) ht.isList.typeIs (PySem.slot_list_getitem.lookup) ?_ (by with_unfolding_all rfl)
  refine wpAny_getItem_list_slice ht.isList (Heap.IsSliceOf.new _ vl vu vs) pl pu ps (by decide) ?_ (by rw [List.size_toArray]; omega)
  rw [pick7 (by omega) hj]
  refine ⟨.ref _, _, I5.laid (t' := s4.toks) (o := .lst ((List.range 7).map fun k => xs.getD (j + 7 * k) .non)) (fun b ob q => Heap.get?_push_of_some _ q) (Nat.le_refl _) ?_, rfl, q _ (I5.hok.fresh (Nat.le_refl _))⟩
  exact ⟨by rw [List.length_map, List.length_range]; exact small100 (by decide), _, 0, vals_pick r hxl hj (List.range 7) (fun k hk => List.mem_range.mp hk), Heap.get?_push_size _ rfl⟩
/-! ### a list of lists -/
def Rows (H : Hp) (D : Addr) (ps : List Addr) (F : Nat → List Int) : Prop := H D = some (.lst (ps.map V.ref)) ∧ ∀ (j : Nat) (a : Addr), ps[j]? = some a → a ≠ D ∧ H a = some (.lst ((F j).map V.int))
theorem Rows.push {H' J : Hp} {D q : Addr} {ps : List Addr} {F : Nat → List Int} (h : Rows H' D ps F) (sm : Same H' J) (nq : H' q = none) (hq : J q = some (.lst ((F ps.length).map V.int))) : Rows (upd J D (.lst (ps.map V.ref ++ [.ref q]))) D (ps ++ [q]) F := by
  have nqD : q ≠ D := (ne_of_none h.1 nq).symm
  refine ⟨by rw [upd_same, List.map_append]; rfl, fun j a e => ?_⟩
  rw [List.getElem?_append] at e
  split at e
  · obtain ⟨n, h2⟩ := h.2 j a e
    exact ⟨n, by rw [upd_ne n]; exact sm _ _ h2⟩
  · rename_i hj
    have hj2 := (List.getElem?_eq_some_iff.mp e).1
    have ej : j = ps.length := by
      rw [List.length_cons, List.length_nil] at hj2
      omega
    subst ej
    rw [Nat.sub_self] at e
    cases e
    exact ⟨nqD, by rw [upd_ne nqD]; exact hq⟩
theorem Rows.same {H' J : Hp} {D : Addr} {ps : List Addr} {F : Nat → List Int} (h : Rows H' D ps F) (sm : Same H' J) : Rows J D ps F := ⟨sm _ _ h.1, fun j a e => ⟨(h.2 j a e).1, sm _ _ (h.2 j a e).2⟩⟩
theorem Rows.nil {H : Hp} {D : Addr} {F : Nat → List Int} : Rows (upd H D (.lst [])) D [] F := ⟨upd_same, fun j a e => by simp at e⟩
theorem getRef {ps : List Addr} {i : Nat} (h : i < ps.length) : ∃ a, ps[i]? = some a ∧ (ps.map V.ref)[i]? = some (.ref a) := ⟨ps[i], List.getElem?_eq_getElem h, by rw [List.getElem?_map, List.getElem?_eq_getElem h]; rfl⟩

theorem col_pick {ns : List Int} {j : Nat} (hl : ns.length = 49) (hj : j < 7) : ((List.range 7).map fun k => (ns.map V.int).getD (j + 7 * k) .non) = (col ns j).map V.int := by
  unfold col
  rw [List.map_map]
  refine List.map_congr_left fun k hk => ?_
  have hk := List.mem_range.mp hk
  rw [List.getD_eq_getElem?_getD, get_map (getD_get (ns := ns) (t := j + 7 * k) (by omega)), Nat.add_comm]
  rfl
/-- the row r of what stands behind the matrix ns -/
def rowB (ns r : List Int) : List Int := (List.range 7).map fun j => dot7 r (col ns j)
theorem rowB_len (ns r : List Int) : (rowB ns r).length = 7 := by unfold rowB; rw [List.length_map, List.length_range]
theorem list7e {l : List Int} (h : l.length = 7) : ∃ a b c d e f g, l = [a, b, c, d, e, f, g] := by
  match l, h with
  | [a, b, c, d, e, f, g], _ => exact ⟨a, b, c, d, e, f, g, rfl⟩
theorem dot7_sum (a b c d e f g h i j k m n o : Int) : a * h + b * i + c * j + d * k + e * m + f * n + g * o = dot7 [a, b, c, d, e, f, g] [h, i, j, k, m, n, o] := by
  show _ = a * h + (b * i + (c * j + (d * k + (e * m + (f * n + (g * o + 0))))))
  generalize a * h = z1
  generalize b * i = z2
  generalize c * j = z3
  generalize d * k = z4
  generalize e * m = z5
  generalize f * n = z6
  generalize g * o = z7
  omega
def sp_rows_behind (K : PySem.W.Frag) : Sp := fun vs H Q _ => ∃ (a b : Addr) (ns : List Int) (qs : List Addr) (F : Nat → List Int), vs = [.ref a, .ref b] ∧ SqL K H a (ns.map V.int) ∧ ns.length = 49 ∧ Bw 2000 ns ∧ qs.length ≤ 7 ∧ Rows H b qs F ∧ (∀ j, (F j).length = 7 ∧ Bw 2000 (F j)) ∧
  ∀ (q : Addr) (ps : List Addr) (H' : Hp), Same H H' → H q = none → ps.length = qs.length → Rows H' q ps (fun i => rowB ns (F i)) → Q (.ref q) H'
set_option maxHeartbeats 4000000 in
theorem ok_rows_behind (T : Top w K mg) : FnOk P w K mg base CX0 1 T.a_rows_behind T.d_rows_behind ["one", "rows"] (sp_rows_behind K) := by
  refine T.F_rows_behind.ok sc_rows_behind (fun vs H Q E h => ?_) (fun cdv A outer s H vs Q E hr h => ?_)
  · obtain ⟨a, b, ns, qs, F, rfl, _⟩ := h
    rfl
  · obtain ⟨a, b, ns, qs, F, rfl, hA, ln, bn, lq, hB, hF, q⟩ := h
    refine ⟨_, (pss_cons (ps_set (i := 2) sc_rows_behind.nd rfl (Or.inr rfl) (pe_lc (own := [("j", 3)]) (g := (gName 3)) (tt := tYes) rfl sc_rows_behind.nd (pi_range1 (by rfl) T.z_range (pa_cons pe_int pa_nil)) (blkOk_by (N := N_rows_behind) (sc := defScope s_rows_behind) (by decide +kernel)) (fun _ _ _ _ _ => (pg_name (i := 3) sc_rows_behind.nd rfl (Or.inl rfl))) (fun _ _ _ _ _ => pts_nil) (fun _ _ _ _ _ => (pe_step7 K (pv 0) (pv 3)))))
      (pss_one (ps_ret (pe_lc (own := [("a", 4), ("b", 5), ("c", 6), ("d", 7), ("e", 8), ("f", 9), ("g", 10)]) (g := (gUnl K 7 (gCons (gName 4) (gCons (gName 5) (gCons (gName 6) (gCons (gName 7) (gCons (gName 8) (gCons (gName 9) (gCons (gName 10) gNil))))))))) (tt := tYes) rfl sc_rows_behind.nd (k_piL K (pv 1)) (blkOk_by (N := N_rows_behind) (sc := defScope s_rows_behind) (by decide +kernel)) (fun _ _ _ _ _ => (pg_unl rfl (pgs_cons (pg_name (i := 4) sc_rows_behind.nd rfl (Or.inr rfl)) (pgs_cons (pg_name (i := 5) sc_rows_behind.nd rfl (Or.inr rfl)) (pgs_cons (pg_name (i := 6) sc_rows_behind.nd rfl (Or.inr rfl)) (pgs_cons (pg_name (i := 7) sc_rows_behind.nd rfl (Or.inr rfl)) (pgs_cons (pg_name (i := 8) sc_rows_behind.nd rfl (Or.inr rfl)) (pgs_cons (pg_name (i := 9) sc_rows_behind.nd rfl (Or.inr rfl)) (pgs_cons (pg_name (i := 10) sc_rows_behind.nd rfl (Or.inr rfl)) pgs_nil))))))))) (fun _ _ _ _ _ => pts_nil) (fun _ _ _ _ _ => (pe_lc (own := [("h", 11), ("i", 12), ("j", 3), ("k", 13), ("m", 14), ("n", 15), ("o", 16)]) (g := (gUnl K 7 (gCons (gName 11) (gCons (gName 12) (gCons (gName 3) (gCons (gName 13) (gCons (gName 14) (gCons (gName 15) (gCons (gName 16) gNil))))))))) (tt := tYes) rfl sc_rows_behind.nd (k_piL K (pv 2)) (blkOk_by (N := N_rows_behind) (sc := (relS ({ kind := .function, names := [(".0", .local), ("a", .cell), ("b", .cell), ("c", .cell), ("d", .cell), ("e", .cell), ("f", .cell), ("g", .cell), ("columns", .free)], isGenerator := false, isCoroutine := false } : Scope) (defScope s_rows_behind))) (by decide +kernel)) (fun _ _ _ _ _ => (pg_unl rfl (pgs_cons (pg_name (i := 11) sc_rows_behind.nd rfl (Or.inl rfl)) (pgs_cons (pg_name (i := 12) sc_rows_behind.nd rfl (Or.inl rfl)) (pgs_cons (pg_name (i := 3) sc_rows_behind.nd rfl (Or.inl rfl)) (pgs_cons (pg_name (i := 13) sc_rows_behind.nd rfl (Or.inl rfl)) (pgs_cons (pg_name (i := 14) sc_rows_behind.nd rfl (Or.inl rfl)) (pgs_cons (pg_name (i := 15) sc_rows_behind.nd rfl (Or.inl rfl)) (pgs_cons (pg_name (i := 16) sc_rows_behind.nd rfl (Or.inl rfl)) pgs_nil))))))))) (fun _ _ _ _ _ => pts_nil) (fun _ _ _ _ _ => (pe_op op_add (pe_op op_add (pe_op op_add (pe_op op_add (pe_op op_add (pe_op op_add (pe_op op_mulW (pv 4) (pv 11)) (pe_op op_mulW (pv 5) (pv 12))) (pe_op op_mulW (pv 6) (pv 3))) (pe_op op_mulW (pv 7) (pv 13))) (pe_op op_mulW (pv 8) (pv 14))) (pe_op op_mulW (pv 9) (pv 15))) (pe_op op_mulW (pv 10) (pv 16)))))))))), ?_⟩
    refine ⟨7, rfl, by decide, by decide, fun D1 nD1 => lc_range (n := 7) (fun i H' => Same H H' ∧ ∃ ps : List Addr, ps.length = i ∧ Rows H' D1 ps (col ns)) ⟨same_upd nD1, [], rfl, Rows.nil⟩ (fun i H' hi h => ?_) (fun H1 h => ?_)⟩
    · obtain ⟨sm, ps, hl, hR⟩ := h
      refine ⟨rfl, _, rfl, _, rfl, _, rfl, a, _, i, congrArg some (Int.zero_add _), rfl, sm.seq hA, by rw [len_map]; exact ln, hi, fun p np => ?_⟩
      rw [col_pick ln hi]
      have s2 := same_upd (o := .lst ((col ns i).map V.int)) np
      refine ⟨_, s2 _ _ hR.1, ?_, same_new (sm.trans s2) nD1, ps ++ [p], by rw [List.length_append, hl]; rfl, hR.push s2 np (by rw [upd_same, hl])⟩
      rw [List.length_map, hl]
      exact small1000 (by omega)
    · obtain ⟨s1, ps, hl, hR⟩ := h
      refine ⟨_, rfl, b, rfl, ⟨_, SqL.of (s1 _ _ hB.1)⟩, fun D nD => ?_⟩
      refine lc_list (xs := qs.map V.ref) (fun i J => Same H1 J ∧ ∃ rs : List Addr, rs.length = i ∧ Rows J D rs fun i => rowB ns (F i)) ⟨same_upd nD, [], rfl, Rows.nil⟩ (fun i J _ h => SqL.of (h.1 _ _ (s1 _ _ hB.1))) (fun i x J hx h => ?_) (fun J h => ?_)
      · obtain ⟨sm, rs, hrl, hS⟩ := h
        obtain ⟨r, er, rfl⟩ : ∃ a, qs[i]? = some a ∧ x = .ref a := by
          rw [List.getElem?_map] at hx
          cases h : qs[i]? with
          | none => rw [h] at hx; cases hx
          | some a => rw [h] at hx; cases hx; exact ⟨a, rfl, rfl⟩
        have hi := (List.getElem?_eq_some_iff.mp er).1
        have hr := sm _ _ (s1 _ _ (hB.2 i r er).2)
        obtain ⟨lF, bF⟩ := hF i
        generalize eF : F i = fi at *
        obtain ⟨a', b', c', d', e', f', g', rfl⟩ := list7e lF
        refine ⟨r, _, rfl, SqL.of hr, rfl, _, _, rfl, _, _, rfl, _, _, rfl, _, _, rfl, _, _, rfl, _, _, rfl, _, _, rfl, rfl, wipe7 (by decide), ?_⟩
        have hR1 := hR.same sm
        refine ⟨_, rfl, D1, rfl, ⟨_, SqL.of hR1.1⟩, fun C nC => ?_⟩
        refine lc_list (xs := ps.map V.ref) (fun j L => Same J L ∧ L C = some (.lst (((List.range j).map fun j => dot7 [a', b', c', d', e', f', g'] (col ns j)).map V.int))) ⟨same_upd nC, upd_same⟩ (fun j L _ h => SqL.of (h.1 _ _ hR1.1)) (fun j x L hx h => ?_) (fun L h => ?_)
        · obtain ⟨sL, hC⟩ := h
          obtain ⟨c, ec, rfl⟩ : ∃ a, ps[j]? = some a ∧ x = .ref a := by
            rw [List.getElem?_map] at hx
            cases h : ps[j]? with
            | none => rw [h] at hx; cases hx
            | some a => rw [h] at hx; cases hx; exact ⟨a, rfl, rfl⟩
          have hj := (List.getElem?_eq_some_iff.mp ec).1
          have hc := sL _ _ (hR1.2 j c ec).2
          have bc := col_bw bn j
          have lc := col_len ns j
          have eC : dot7 [a', b', c', d', e', f', g'] (col ns j) = dot7 [a', b', c', d', e', f', g'] (col ns j) := rfl
          generalize hcj : col ns j = cj at hc bc lc eC
          obtain ⟨h0, h1, h2, h3, h4, h5, h6, rfl⟩ := list7e lc
          have w : ∀ {x y : Int} (t u : Nat), [a', b', c', d', e', f', g'].getD t 0 = x → [h0, h1, h2, h3, h4, h5, h6].getD u 0 = y → CMulW x y := fun t u e1 e2 => e1 ▸ e2 ▸ bw_mul (bF t) (bc u) (by decide) (by decide) (by decide)
          refine ⟨c, _, rfl, SqL.of hc, rfl, _, _, rfl, _, _, rfl, _, _, rfl, _, _, rfl, _, _, rfl, _, _, rfl, _, _, rfl, rfl, wipe7 (by decide), ?_⟩
          refine at_slots (σ' := [some (.ref a), some (.ref b), some (.ref D1), some (.int h2), some (.int a'), some (.int b'), some (.int c'), some (.int d'), some (.int e'), some (.int f'), some (.int g'), some (.int h0), some (.int h1), some (.int h3), some (.int h4), some (.int h5), some (.int h6)]) (by rw [show L2.start N_rows_behind [V.ref a, V.ref b] = [some (.ref a), some (.ref b), none, none, none, none, none, none, none, none, none, none, none, none, none, none, none] from rfl]; simp only [wipe, List.map, List.set]) ?_
          refine ⟨_, rfl, _, rfl, _, _, rfl, rfl, w 0 0 rfl rfl, _, rfl, _, rfl, _, _, rfl, rfl, w 1 1 rfl rfl, _, _, rfl, rfl, _, rfl, _, rfl, _, _, rfl, rfl, w 2 2 rfl rfl, _, _, rfl, rfl, _, rfl, _, rfl, _, _, rfl, rfl, w 3 3 rfl rfl, _, _, rfl, rfl, _, rfl, _, rfl, _, _, rfl, rfl, w 4 4 rfl rfl, _, _, rfl, rfl, _, rfl, _, rfl, _, _, rfl, rfl, w 5 5 rfl rfl, _, _, rfl, rfl, _, rfl, _, rfl, _, _, rfl, rfl, w 6 6 rfl rfl, _, _, rfl, rfl, _, hC, ?_, same_new sL nC, ?_⟩
          · rw [List.length_map, List.length_map, List.length_range]
            exact small1000 (by omega)
          · rw [upd_same]
            dsimp only
            rw [dot7_sum, ← hcj]
            exact congrArg (fun z => some (HO.lst z)) (range_snoc (fun j => dot7 [a', b', c', d', e', f', g'] (col ns j)) j)
        · obtain ⟨sL, hC⟩ := h
          rw [List.length_map, hl] at hC
          have hS2 := hS.same sL
          refine ⟨_, hS2.1, ?_, same_new (sm.trans sL) nD, rs ++ [C], by rw [List.length_append, hrl]; rfl, hS.push sL nC (by rw [hrl]; show L C = _; rw [eF]; exact hC)⟩
          rw [List.length_map, hrl]
          exact small1000 (by omega)
      · obtain ⟨sm, rs, hrl, hS⟩ := h
        rw [List.length_map] at hrl
        exact q D rs J (s1.trans sm) (s1.free nD) hrl hS
def sp_composed (K : PySem.W.Frag) : Sp := fun vs H Q _ => ∃ (a b : Addr) (ns ms : List Int), vs = [.ref a, .ref b] ∧ SqL K H a (ns.map V.int) ∧ SqL K H b (ms.map V.int) ∧ ns.length = 49 ∧ ms.length = 49 ∧ Bw 2000 ns ∧ Bw 2000 ms ∧
  ∀ (q : Addr) (H' : Hp), Same H H' → H q = none → H' q = some (.lst ((comp ns ms).map V.int)) → Q (.ref q) H'
theorem ok_composed (T : Top w K mg) : FnOk P w K mg base CX0 2 T.a_composed T.d_composed ["one", "other"] (sp_composed K) := by
  refine T.F_composed.ok sc_composed (fun vs H Q E h => ?_) (fun cdv A outer s H vs Q E hr h => ?_)
  · obtain ⟨a, b, ns, ms, rfl, _⟩ := h
    rfl
  · obtain ⟨a, b, ns, ms, rfl, hA, hB, ln, lm, bn, bm, q⟩ := h
    refine ⟨_, (pss_cons (ps_set (i := 2) sc_composed.nd rfl (Or.inl rfl) (pe_call (ok_rows_behind T) hr (by rfl) T.g_rows_behind T.F_rows_behind.kp (b_rows_behind T) .nil pass0 (pa_cons (pv 0) (pa_cons (pe_lc (own := [("i", 5)]) (g := (gName 5)) (tt := tYes) rfl sc_composed.nd (pi_range1 (by rfl) T.z_range (pa_cons pe_int pa_nil)) (blkOk_by (N := N_composed) (sc := defScope s_composed) (by decide +kernel)) (fun _ _ _ _ _ => (pg_name (i := 5) sc_composed.nd rfl (Or.inl rfl))) (fun _ _ _ _ _ => pts_nil) (fun _ _ _ _ _ => (pe_call (ok_row_of T) hr (by rfl) T.g_row_of T.F_row_of.kp (b_row_of T) .nil pass0 (pa_cons (pv 1) (pa_cons (pv 5) pa_nil))))) pa_nil))))
      (pss_one (ps_ret (pe_lc2 (own := [("row", 3), ("number", 4)]) (vs1 := [4]) (g := (gName 3)) (g1 := (gName 4)) (tt := tYes) (tt1 := tYes) rfl sc_composed.nd (k_piL K (pv 2)) (blkOk_by (N := N_composed) (sc := defScope s_composed) (by decide +kernel)) (by decide) (fun _ _ _ _ _ => (pg_name (i := 3) sc_composed.nd rfl (Or.inl rfl))) (fun _ _ _ _ _ => pts_nil) (fun _ _ _ _ _ => (k_piL K (pv 3))) (fun _ _ _ _ _ => (pg_name (i := 4) sc_composed.nd rfl (Or.inl rfl))) (fun _ _ _ _ _ => pts_nil) (fun _ _ _ _ _ => (pv 4)))))), ?_⟩
    refine ⟨_, rfl, 7, rfl, by decide, by decide, fun D2 nD2 => lc_range (n := 7) (fun i H' => Same H H' ∧ ∃ qs : List Addr, qs.length = i ∧ Rows H' D2 qs (row ms)) ⟨same_upd nD2, [], rfl, Rows.nil⟩ (fun i H' hi h => ?_) (fun H2 h => ?_)⟩
    · obtain ⟨sm, qs, hl, hR⟩ := h
      refine ⟨rfl, _, rfl, _, rfl, b, ms, _, i, rfl, Int.zero_add _, sm.seq hB, lm, hi, fun p J s2 np hp => ?_⟩
      refine ⟨_, s2 _ _ hR.1, ?_, same_new (sm.trans s2) nD2, qs ++ [p], by rw [List.length_append, hl]; rfl, hR.push s2 np (by rw [hp, hl])⟩
      rw [List.length_map, hl]
      exact small1000 (by omega)
    · obtain ⟨s2, qs, hl2, hR2⟩ := h
      refine ⟨a, D2, ns, qs, row ms, rfl, s2.seq hA, ln, bn, by omega, hR2, fun j => ⟨row_len _ _, row_bw bm j⟩, fun D1 ps H3 s3 nD1 hpl hR1 => ?_⟩
      rw [hl2] at hpl
      let f : Nat → Int := fun t => cell ns ms (t / 7) (t % 7)
      refine ⟨_, rfl, D1, rfl, ⟨_, SqL.of hR1.1⟩, fun D nD => ?_⟩
      refine ⟨fun i m H' => m = 7 - i ∧ i ≤ 7 ∧ Same H3 H' ∧ H' D = some (.lst (((List.range (7 * i)).map f).map V.int)), ⟨7, rfl, by decide, same_upd nD, upd_same⟩, fun i m H' h => ?_⟩
      obtain ⟨rfl, hi, sm, hD⟩ := h
      have hr1 := hR1.same sm
      by_cases h7 : i < 7
      · obtain ⟨r, er, er2⟩ := getRef (ps := ps) (i := i) (by omega)
        refine .inr ⟨⟨_, _, SqL.of hr1.1, er2⟩, fun H' => Same H3 H' ∧ H' D = some (.lst (((List.range (7 * i + 7)).map f).map V.int)), fun H' h => ⟨7 - (i + 1), by omega, rfl, h7, h.1, by rw [h.2, Nat.mul_succ]⟩, fun x H' y => ?_⟩
        obtain ⟨rfl, hy⟩ := y
        have hy := hy _ (SqL.of hr1.1)
        rw [er2] at hy
        cases hy
        refine ⟨rfl, _, rfl, r, rfl, ⟨_, SqL.of (hr1.2 _ _ er).2⟩, ?_⟩
        refine ⟨fun j k H' => k = 7 - j ∧ j ≤ 7 ∧ Same H3 H' ∧ H' D = some (.lst (((List.range (7 * i + j)).map f).map V.int)), ⟨7, rfl, by decide, sm, hD⟩, fun j k H' h => ?_⟩
        obtain ⟨rfl, hj, sm, hD⟩ := h
        have hr1 := hR1.same sm
        by_cases j7 : j < 7
        · have eg : (rowB ns (row ms i))[j]? = some (f (7 * i + j)) := by
            unfold rowB
            rw [List.getElem?_map, List.getElem?_range j7]
            show some (dot7 (row ms i) (col ns j)) = _
            rw [dot_cell]
            show _ = some (cell ns ms ((7 * i + j) / 7) ((7 * i + j) % 7))
            rw [show (7 * i + j) / 7 = i by omega, show (7 * i + j) % 7 = j by omega]
          refine .inr ⟨⟨_, _, SqL.of (hr1.2 _ _ er).2, get_map eg⟩, fun H' => Same H3 H' ∧ H' D = some (.lst (((List.range (7 * i + (j + 1))).map f).map V.int)), fun H' h => ⟨7 - (j + 1), by omega, rfl, j7, h.1, h.2⟩, fun x H' y => ?_⟩
          obtain ⟨rfl, hy⟩ := y
          have hy := hy _ (SqL.of (hr1.2 _ _ er).2)
          rw [get_map eg] at hy
          cases hy
          refine ⟨rfl, _, rfl, _, hD, ?_, same_new sm nD, ?_⟩
          · rw [List.length_map, List.length_map, List.length_range]
            exact small1000 (by omega)
          · rw [upd_same, range_snoc, Nat.add_assoc]
        · refine .inl ⟨⟨_, SqL.of (hr1.2 _ _ er).2, by rw [List.length_map, rowB_len]; omega⟩, sm, ?_⟩
          rw [hD, show j = 7 by omega]
      · have e : i = 7 := by omega
        subst e
        exact .inl ⟨⟨_, SqL.of hr1.1, by rw [List.length_map]; omega⟩, q D H' (s2.trans (s3.trans sm)) ((s2.trans s3).free nD) hD⟩

def sp__law_times (K : PySem.W.Frag) : Sp := fun vs H Q _ => ∃ (a b : Addr) (ns ms : List Int), vs = [.ref a, .ref b] ∧ SqL K H a (ns.map V.int) ∧ SqL K H b (ms.map V.int) ∧ ns.length = 49 ∧ ms.length = 49 ∧ Bw 2000 ns ∧ Bw 2000 ms ∧
  ∀ (q : Addr) (H' : Hp), Same H H' → H q = none → H' q = some (.lst ((comp ns ms).map V.int)) → Q (.ref q) H'
theorem ok__law_times (T : Top w K mg) : FnOk P w K mg base CX0 1 T.a__law_times T.d__law_times ["_law_one", "_law_other"] (sp__law_times K) := by
  refine T.F__law_times.ok sc__law_times (fun vs H Q E h => ?_) (fun cdv A outer s H vs Q E hr h => ?_)
  · obtain ⟨a, b, ns, ms, rfl, _⟩ := h
    rfl
  · obtain ⟨a, b, ns, ms, rfl, hA, hB, ln, lm, bn, bm, q⟩ := h
    refine ⟨_, (pss_cons (ps_set (i := 2) sc__law_times.nd rfl (Or.inl rfl) (pe_lst pa_nil))
      (pss_cons (ps_for PassesOwn.never rfl (pi_range1 (by rfl) T.z_range (pa_cons pe_int pa_nil)) (pg_name (i := 3) sc__law_times.nd rfl (Or.inr rfl)) (pss_one (ps_for PassesOwn.never rfl (pi_range1 (by rfl) T.z_range (pa_cons pe_int pa_nil)) (pg_name (i := 4) sc__law_times.nd rfl (Or.inr rfl)) (pss_one (ps_expr (pe_bm PySem.F.plainAttrs_list PySem.F.slot_list_append PySem.F.type_list_append mt_append (pv 2) (pa_cons (pe_callB (k_sum K) (by rfl) T.z_sum bt_sum (pa_cons (pe_lc (own := [("_law_k", 5)]) (g := (gName 5)) (tt := tYes) rfl sc__law_times.nd (pi_range1 (by rfl) T.z_range (pa_cons pe_int pa_nil)) (blkOk_by (N := N__law_times) (sc := defScope s__law_times) (by decide +kernel)) (fun _ _ _ _ _ => (pg_name (i := 5) sc__law_times.nd rfl (Or.inl rfl))) (fun _ _ _ _ _ => pts_nil) (fun _ _ _ _ _ => (pe_op op_mulW (pe_ix (k_ixL K) (pv 1) (pe_op op_add (pe_op op_mul pe_int (pv 3)) (pv 5)) (fun _ _ => rfl)) (pe_ix (k_ixL K) (pv 0) (pe_op op_add (pe_op op_mul pe_int (pv 5)) (pv 4)) (fun _ _ => rfl))))) pa_nil)) pa_nil)))))))
      (pss_one (ps_ret (pv 2))))), ?_⟩
    let f : Nat → Int := fun t => cell ns ms (t / 7) (t % 7)
    refine ⟨Nat.zero_le _, fun D nD => ?_⟩
    refine ⟨7, rfl, by decide, by decide, for_range (n := 7) (fun i σ H' => ∃ (y z : Option V), σ = [some (.ref a), some (.ref b), some (.ref D), y, z, none] ∧ Same H H' ∧ H' D = some (.lst (((List.range (7 * i)).map f).map V.int))) ?_ (fun i σ H' hi h => ?_) (fun σ H' h => ?_)⟩
    · exact ⟨none, none, rfl, same_upd nD, upd_same⟩
    · obtain ⟨y, z, rfl, sm, hD⟩ := h
      refine ⟨7, rfl, by decide, by decide, for_range (n := 7) (fun j σ H' => ∃ (z : Option V), σ = [some (.ref a), some (.ref b), some (.ref D), some (.int (0 + i)), z, none] ∧ Same H H' ∧ H' D = some (.lst (((List.range (7 * i + j)).map f).map V.int))) ?_ (fun j σ H' hj h => ?_) (fun σ H' h => ?_)⟩
      · exact ⟨z, rfl, sm, hD⟩
      · obtain ⟨z, rfl, sm, hD⟩ := h
        have hsz : (((List.range (7 * i + j)).map f).map V.int).length < sizeLine := by
          rw [List.length_map, List.length_map, List.length_range]
          exact small1000 (by omega)
        refine ⟨_, rfl, .inl ⟨rfl, _, SqL.of hD⟩, 7, rfl, by decide, by decide, fun C nC => lc_range (n := 7) (fun k J => Same H' J ∧ J C = some (.lst (((List.range k).map fun k => ms.getD (7 * i + k) 0 * ns.getD (7 * k + j) 0).map V.int))) ⟨same_upd nC, upd_same⟩ (fun k J hk h => ?_) (fun J h => ?_)⟩
        · obtain ⟨sJ, hC⟩ := h
          refine ⟨rfl, _, rfl, _, rfl, _, _, rfl, rfl, .inl ⟨by decide, by decide⟩, _, rfl, _, _, rfl, rfl, b, _, _, _, rfl, rfl, (sm.trans sJ).seq hB, at_nat (t := 7 * i + k) (by omega) (by omega), _, rfl, _, rfl, _, _, rfl, rfl, .inl ⟨by decide, by decide⟩, _, rfl, _, _, rfl, rfl, a, _, _, _, rfl, rfl, (sm.trans sJ).seq hA, at_nat (t := 7 * k + j) (by omega) (by omega), _, _, rfl, rfl, bw_mul (bm _) (bn _) (by decide) (by decide) (by decide), _, hC, ?_, same_new sJ nC, ?_⟩
          · rw [List.length_map, List.length_map, List.length_range]
            exact small1000 (by omega)
          · rw [upd_same]
            exact congrArg (fun z => some (HO.lst z)) (range_snoc (fun k => ms.getD (7 * i + k) 0 * ns.getD (7 * k + j) 0) k)
        · obtain ⟨sJ, hC⟩ := h
          refine ⟨C, _, rfl, SqL.of hC, D, _, _, rfl, rfl, sJ _ _ hD, hsz, ?_⟩
          have ef : f (7 * i + j) = ((List.range 7).map fun k => ms.getD (7 * i + k) 0 * ns.getD (7 * k + j) 0).sum := by
            show cell ns ms ((7 * i + j) / 7) ((7 * i + j) % 7) = _
            rw [show (7 * i + j) / 7 = i by omega, show (7 * i + j) % 7 = j by omega]
            rfl
          refine ⟨_, rfl, same_new (sm.trans sJ) nD, ?_⟩
          rw [upd_same, ← ef, range_snoc, Nat.add_assoc]
      · obtain ⟨z, rfl, sm, hD⟩ := h
        exact ⟨_, z, rfl, sm, by rw [hD, Nat.mul_succ]⟩
    · obtain ⟨y, z, rfl, sm, hD⟩ := h
      exact ⟨_, rfl, q D H' sm nD hD⟩

def Mat (ns : List Int) : Prop := ns.length = 49 ∧ Bw 133 ns
theorem Mat.wd {ns : List Int} (h : Mat ns) : Bw 2000 ns := h.2.mono (by decide)
def sp__law_good (K : PySem.W.Frag) : Sp := fun vs H Q _ => ∃ (a b : Addr) (ns ms : List Int), vs = [.ref a, .ref b] ∧ SqL K H a (ns.map V.int) ∧ SqL K H b (ms.map V.int) ∧ Mat ns ∧ Mat ms ∧ ∀ H', Same H H' → Q (.bl true) H'
theorem ok__law_good (T : Top w K mg) : FnOk P w K mg base CX0 3 T.a__law_good T.d__law_good ["_law_one", "_law_other"] (sp__law_good K) := by
  refine T.F__law_good.ok sc__law_good (fun vs H Q E h => ?_) (fun cdv A outer s H vs Q E hr h => ?_)
  · obtain ⟨a, b, ns, ms, rfl, _⟩ := h
    rfl
  · obtain ⟨a, b, ns, ms, rfl, hA, hB, mn, mm, q⟩ := h
    refine ⟨_, (pss_cons (ps_set (i := 2) sc__law_good.nd rfl (Or.inl rfl) (pe_callTy (k_list K) (by rfl) T.z_list bt_list (pa_cons (pv 0) pa_nil)))
      (pss_cons (ps_set (i := 3) sc__law_good.nd rfl (Or.inl rfl) (pe_callTy (k_list K) (by rfl) T.z_list bt_list (pa_cons (pv 1) pa_nil)))
      (pss_cons (ps_set (i := 4) sc__law_good.nd rfl (Or.inl rfl) (pe_call (ok_composed T) hr (by rfl) T.g_composed T.F_composed.kp (b_composed T) .nil pass0 (pa_cons (pv 2) (pa_cons (pv 3) pa_nil))))
      (pss_one (ps_ret (pe_and (pe_call (ok__law_is_matrix T) hr (by rfl) T.g__law_is_matrix T.F__law_is_matrix.kp (b__law_is_matrix T) .nil pass0 (pa_cons (pv 4) pa_nil)) (pe_and (pe_cmpR (k_eqI K (hu64 hr)) (pv 4) (pe_call (ok__law_times T) (hr.mono (by decide)) (by rfl) T.g__law_times T.F__law_times.kp (b__law_times T) .nil pass0 (pa_cons (pv 0) (pa_cons (pv 1) pa_nil))) (nomark _)) (pe_and (pe_cmpR (k_eqI K (hu64 hr)) (pv 2) (pv 0) (nomark _)) (pe_one (pe_cmpR (k_eqI K (hu64 hr)) (pv 3) (pv 1) (nomark _))))))))))), ?_⟩
    refine ⟨_, rfl, a, _, rfl, .inl hA, fun x nx => ?_⟩
    have s1 := same_upd (o := .lst (ns.map V.int)) nx
    have hx : (upd H x (.lst (ns.map V.int))) x = some (.lst (ns.map V.int)) := upd_same
    generalize upd H x (.lst (ns.map V.int)) = H1 at *
    refine ⟨_, rfl, b, _, rfl, .inl (s1.seq hB), fun y ny => ?_⟩
    have s2 := same_upd (o := .lst (ms.map V.int)) ny
    have hy : (upd H1 y (.lst (ms.map V.int))) y = some (.lst (ms.map V.int)) := upd_same
    generalize upd H1 y (.lst (ms.map V.int)) = H2 at *
    refine ⟨_, rfl, _, rfl, x, y, ns, ms, rfl, SqL.of (s2 _ _ hx), SqL.of hy, mn.1, mm.1, mn.wd, mm.wd, fun r H3 s3 nr hr3 => ?_⟩
    refine ⟨_, rfl, r, _, rfl, hr3, comp_len _ _, fun H4 s4 => ⟨true, rfl, ?_⟩⟩
    have s04 := s1.trans (s2.trans (s3.trans s4))
    refine ⟨_, rfl, _, rfl, _, rfl, a, b, ns, ms, rfl, s04.seq hA, s04.seq hB, mn.1, mm.1, mn.wd, mm.wd, fun t H5 s5 nt ht => ?_⟩
    have s05 := s04.trans s5
    refine ⟨r, t, _, _, rfl, rfl, SqL.of (s5 _ _ (s4 _ _ hr3)), SqL.of ht, _, rfl, iteP rfl ?_⟩
    refine ⟨_, rfl, _, rfl, x, a, ns, ns, rfl, rfl, SqL.of (s5 _ _ (s4 _ _ (s3 _ _ (s2 _ _ hx)))), s05.seq hA, _, rfl, iteP rfl ?_⟩
    refine ⟨_, rfl, _, rfl, y, b, ms, ms, rfl, rfl, SqL.of (s5 _ _ (s4 _ _ (s3 _ _ hy))), s05.seq hB, ?_⟩
    rw [decide_eq_true rfl]
    exact q _ s05
def spLaw (K : PySem.W.Frag) : Sp := fun vs H Q _ => ∃ (a : Addr) (ns : List Int), vs = [.ref a] ∧ SqL K H a (ns.map V.int) ∧ ns.length ≤ 63 ∧ ∀ H', Q (.bl true) H'
/-- a pair of two of the law's matrices -/
def Pr (H : Hp) (x : V) : Prop := ∃ (t a b : Addr) (ns ms : List Int), x = .ref t ∧ H t = some (.tup [.ref a, .ref b]) ∧ H a = some (.lst (ns.map V.int)) ∧ H b = some (.lst (ms.map V.int)) ∧ Mat ns ∧ Mat ms
theorem all6 {α : Type} {P : α → Prop} {x0 x1 x2 x3 x4 x5 y : α} {i : Nat} (h : [x0, x1, x2, x3, x4, x5][i]? = some y) (h0 : P x0) (h1 : P x1) (h2 : P x2) (h3 : P x3) (h4 : P x4) (h5 : P x5) : P y := by
  match i, h with
  | 0, h => exact Option.some.inj h ▸ h0
  | 1, h => exact Option.some.inj h ▸ h1
  | 2, h => exact Option.some.inj h ▸ h2
  | 3, h => exact Option.some.inj h ▸ h3
  | 4, h => exact Option.some.inj h ▸ h4
  | 5, h => exact Option.some.inj h ▸ h5
theorem ok_law (T : Top w K mg) : FnOk P w K mg base CX0 4 T.a_law T.d_law ["_law_script"] (spLaw K) := by
  refine T.F_law.ok sc_law (fun vs H Q E h => ?_) (fun cdv A outer s H vs Q E hr h => ?_)
  · obtain ⟨a, ns, rfl, _⟩ := h
    rfl
  · obtain ⟨a, ns, rfl, hS, hlen, q⟩ := h
    refine ⟨_, (pss_cons (ps_set (i := 1) sc_law.nd rfl (Or.inl rfl) (pe_call (ok__law_pool T) (hr.mono (by decide)) (by rfl) T.g__law_pool T.F__law_pool.kp (b__law_pool T) .nil pass0 (pa_cons (pv 0) pa_nil)))
      (pss_cons (ps_set (i := 2) sc_law.nd rfl (Or.inl rfl) (pe_call (ok__law_any_matrix T) hr (by rfl) T.g__law_any_matrix T.F__law_any_matrix.kp (b__law_any_matrix T) .nil pass0 (pa_cons (pv 1) pa_nil)))
      (pss_cons (ps_set (i := 3) sc_law.nd rfl (Or.inl rfl) (pe_call (ok__law_any_matrix T) hr (by rfl) T.g__law_any_matrix T.F__law_any_matrix.kp (b__law_any_matrix T) .nil pass0 (pa_cons (pv 1) pa_nil)))
      (pss_cons (ps_set (i := 4) sc_law.nd rfl (Or.inl rfl) (pe_call (ok__law_any_matrix T) hr (by rfl) T.g__law_any_matrix T.F__law_any_matrix.kp (b__law_any_matrix T) .nil pass0 (pa_cons (pv 1) pa_nil)))
      (pss_cons (ps_setLc (i := 5) (own := [("_law_k", 9)]) (g := (gName 9)) (tt := tYes) rfl sc_law.nd rfl rfl (sw_true rfl rfl rfl (by decide +kernel)) (pi_range1 (by rfl) T.z_range (pa_cons pe_int pa_nil)) (blkOk_by (N := N_law) (sc := defScope s_law) (by decide +kernel)) (fun _ _ _ _ _ => (pg_name (i := 9) sc_law.nd rfl (Or.inl rfl))) (fun _ _ _ _ _ => pts_nil) (fun _ _ _ _ _ => (pe_callTy call_intB (by rfl) T.z_int bt_int (pa_cons (pe_cmpR op_eq (pe_op op_mod (pv 9) pe_int) pe_int (nomark _)) pa_nil))))
      (pss_cons (ps_for PassesOwn.never rfl (k_piL K (pe_lst (pa_cons (pe_tup (pa_cons (pv 2) (pa_cons (pv 3) pa_nil))) (pa_cons (pe_tup (pa_cons (pv 3) (pa_cons (pv 2) pa_nil))) (pa_cons (pe_tup (pa_cons (pv 3) (pa_cons (pv 4) pa_nil))) (pa_cons (pe_tup (pa_cons (pv 2) (pa_cons (pv 5) pa_nil))) (pa_cons (pe_tup (pa_cons (pv 5) (pa_cons (pv 2) pa_nil))) (pa_cons (pe_tup (pa_cons (pv 4) (pa_cons (pv 4) pa_nil))) pa_nil)))))))) (pg_name (i := 6) sc_law.nd rfl (Or.inl rfl)) (pss_one (ps_if (pt_not (pt_val (pe_call (ok__law_good T) hr (by rfl) T.g__law_good T.F__law_good.kp (b__law_good T) .nil pass0 (pa_cons (pe_ix (k_ixT K) (pv 6) pe_int (fun _ _ => rfl)) (pa_cons (pe_ix (k_ixT K) (pv 6) pe_int (fun _ _ => rfl)) pa_nil))))) (pss_one (ps_ret pe_bl)) pss_nil)))
      (pss_cons (ps_if (PW.pt (pw_or (pt_cmpR (k_neI K (hu64 hr)) (pe_call (ok_composed T) (hr.mono (by decide)) (by rfl) T.g_composed T.F_composed.kp (b_composed T) .nil pass0 (pa_cons (pe_callTy (k_list K) (by rfl) T.z_list bt_list (pa_cons (pv 2) pa_nil)) (pa_cons (pe_callTy (k_list K) (by rfl) T.z_list bt_list (pa_cons (pv 5) pa_nil)) pa_nil))) (pv 2) (nomark _)) (pw_or1 (pt_cmpR (k_neI K (hu64 hr)) (pe_call (ok_composed T) (hr.mono (by decide)) (by rfl) T.g_composed T.F_composed.kp (b_composed T) .nil pass0 (pa_cons (pe_callTy (k_list K) (by rfl) T.z_list bt_list (pa_cons (pv 5) pa_nil)) (pa_cons (pe_callTy (k_list K) (by rfl) T.z_list bt_list (pa_cons (pv 2) pa_nil)) pa_nil))) (pv 2) (nomark _))))) (pss_one (ps_ret pe_bl)) pss_nil)
      (pss_cons (ps_if (pt_cmpR (k_neI K (hu64 hr)) (pe_call (ok_composed T) (hr.mono (by decide)) (by rfl) T.g_composed T.F_composed.kp (b_composed T) .nil pass0 (pa_cons (pv 2) (pa_cons (pv 2) pa_nil))) (pe_call (ok__law_times T) (hr.mono (by decide)) (by rfl) T.g__law_times T.F__law_times.kp (b__law_times T) .nil pass0 (pa_cons (pv 2) (pa_cons (pv 2) pa_nil))) (nomark _)) (pss_one (ps_ret pe_bl)) pss_nil)
      (pss_cons (ps_set (i := 7) sc_law.nd rfl (Or.inl rfl) (pe_call (ok_composed T) (hr.mono (by decide)) (by rfl) T.g_composed T.F_composed.kp (b_composed T) .nil pass0 (pa_cons (pe_call (ok_composed T) (hr.mono (by decide)) (by rfl) T.g_composed T.F_composed.kp (b_composed T) .nil pass0 (pa_cons (pv 2) (pa_cons (pv 3) pa_nil))) (pa_cons (pv 4) pa_nil))))
      (pss_cons (ps_set (i := 8) sc_law.nd rfl (Or.inl rfl) (pe_call (ok_composed T) (hr.mono (by decide)) (by rfl) T.g_composed T.F_composed.kp (b_composed T) .nil pass0 (pa_cons (pv 2) (pa_cons (pe_call (ok_composed T) (hr.mono (by decide)) (by rfl) T.g_composed T.F_composed.kp (b_composed T) .nil pass0 (pa_cons (pv 3) (pa_cons (pv 4) pa_nil))) pa_nil))))
      (pss_one (ps_ret (pe_cmpR (k_eqI K (hu64 hr)) (pv 7) (pv 8) (nomark _)))))))))))))), ?_⟩
    refine ⟨_, rfl, a, ns, rfl, hS, hlen, fun H1 p L s1 np pl h2 h64 => ?_⟩
    refine ⟨_, rfl, p, L, rfl, pl, h2, h64, fun o1 m1 H2 l1 b1 k2 pl2 no1 ho1 => ?_⟩
    refine ⟨_, rfl, p, L, rfl, pl2, h2, h64, fun o2 m2 H3 l2 b2 k3 pl3 no2 ho2 => ?_⟩
    refine ⟨_, rfl, p, L, rfl, pl3, h2, h64, fun o3 m3 H4 l3 b3 k4 pl4 no3 ho3 => ?_⟩
    have M1 : Mat m1 := ⟨l1, Bd.bw b1⟩
    have M2 : Mat m2 := ⟨l2, Bd.bw b2⟩
    have M3 : Mat m3 := ⟨l3, Bd.bw b3⟩
    have ho1 := k4 _ _ (pl.ne no1) (k3 _ _ (pl.ne no1) ho1)
    have ho2 := k4 _ _ (pl2.ne no2) ho2
    refine ⟨49, rfl, by decide, by decide, fun u nu => lc_range (n := 49) (fun i H' => Same H4 H' ∧ H' u = some (.lst (((List.range i).map fun k => if k % 8 = 0 then 1 else 0).map V.int))) ⟨same_upd nu, upd_same⟩ (fun i H' hi h => ?_) (fun H5 h => ?_)⟩
    · obtain ⟨sm, hu⟩ := h
      have ez : (if decide (V.int ((0 + (i : Int)) % 8) = V.int 0) = true then (1 : Int) else 0) = if i % 8 = 0 then 1 else 0 := by
        by_cases e : i % 8 = 0
        · rw [if_pos e, decide_eq_true (show V.int ((0 + (i : Int)) % 8) = V.int 0 by rw [show (0 + (i : Int)) % 8 = 0 by omega]), if_pos rfl]
        · rw [if_neg e, decide_eq_false (fun x => e (by have := V.int.inj x; omega)), if_neg (by decide)]
      refine ⟨rfl, _, rfl, _, _, rfl, rfl, (show (0 : Int) < 8 by decide), rfl, _, rfl, _, hu, ?_, same_new sm nu, ?_⟩
      · rw [List.length_map, List.length_map, List.length_range]
        exact small1000 (by omega)
      · rw [upd_same]
        refine congrArg (fun z => some (HO.lst z)) (Eq.trans ?_ (range_snoc (fun k => if k % 8 = 0 then 1 else 0) i))
        dsimp only
        rw [ez]
    · obtain ⟨s5, hu⟩ := h
      have hu : H5 u = some (.lst (unit.map V.int)) := hu
      have MU : Mat unit := ⟨unit_len, unit_bw⟩
      have ho1 := s5 _ _ ho1
      have ho2 := s5 _ _ ho2
      have ho3 := s5 _ _ ho3
      refine ⟨_, rfl, _, rfl, small100 (n := 2) (by decide), fun t1 n1 => ?_⟩
      have j1 := same_upd (o := .tup [.ref o1, .ref o2]) n1
      have g1 : (upd H5 t1 (.tup [.ref o1, .ref o2])) t1 = some (.tup [.ref o1, .ref o2]) := upd_same
      generalize upd H5 t1 (.tup [.ref o1, .ref o2]) = J1 at *
      refine ⟨_, rfl, _, rfl, small100 (n := 2) (by decide), fun t2 n2 => ?_⟩
      have j2 := same_upd (o := .tup [.ref o2, .ref o1]) n2
      have g2 : (upd J1 t2 (.tup [.ref o2, .ref o1])) t2 = some (.tup [.ref o2, .ref o1]) := upd_same
      generalize upd J1 t2 (.tup [.ref o2, .ref o1]) = J2 at *
      refine ⟨_, rfl, _, rfl, small100 (n := 2) (by decide), fun t3 n3 => ?_⟩
      have j3 := same_upd (o := .tup [.ref o2, .ref o3]) n3
      have g3 : (upd J2 t3 (.tup [.ref o2, .ref o3])) t3 = some (.tup [.ref o2, .ref o3]) := upd_same
      generalize upd J2 t3 (.tup [.ref o2, .ref o3]) = J3 at *
      refine ⟨_, rfl, _, rfl, small100 (n := 2) (by decide), fun t4 n4 => ?_⟩
      have j4 := same_upd (o := .tup [.ref o1, .ref u]) n4
      have g4 : (upd J3 t4 (.tup [.ref o1, .ref u])) t4 = some (.tup [.ref o1, .ref u]) := upd_same
      generalize upd J3 t4 (.tup [.ref o1, .ref u]) = J4 at *
      refine ⟨_, rfl, _, rfl, small100 (n := 2) (by decide), fun t5 n5 => ?_⟩
      have j5 := same_upd (o := .tup [.ref u, .ref o1]) n5
      have g5 : (upd J4 t5 (.tup [.ref u, .ref o1])) t5 = some (.tup [.ref u, .ref o1]) := upd_same
      generalize upd J4 t5 (.tup [.ref u, .ref o1]) = J5 at *
      refine ⟨_, rfl, _, rfl, small100 (n := 2) (by decide), fun t6 n6 => ?_⟩
      have j6 := same_upd (o := .tup [.ref o3, .ref o3]) n6
      have g6 : (upd J5 t6 (.tup [.ref o3, .ref o3])) t6 = some (.tup [.ref o3, .ref o3]) := upd_same
      generalize upd J5 t6 (.tup [.ref o3, .ref o3]) = J6 at *
      refine ⟨small100 (n := 6) (by decide), fun dl ndl => ?_⟩
      have j7 := same_upd (o := .lst [.ref t1, .ref t2, .ref t3, .ref t4, .ref t5, .ref t6]) ndl
      have hdl : (upd J6 dl (.lst [.ref t1, .ref t2, .ref t3, .ref t4, .ref t5, .ref t6])) dl = some (.lst [.ref t1, .ref t2, .ref t3, .ref t4, .ref t5, .ref t6]) := upd_same
      generalize upd J6 dl (.lst [.ref t1, .ref t2, .ref t3, .ref t4, .ref t5, .ref t6]) = J7 at *
      have i6 := j6.trans j7
      have i5 := j5.trans i6
      have i4 := j4.trans i5
      have i3 := j3.trans i4
      have i2 := j2.trans i3
      have i1 := j1.trans i2
      have ho1 := i1 _ _ ho1
      have ho2 := i1 _ _ ho2
      have ho3 := i1 _ _ ho3
      have hu := i1 _ _ hu
      have each : ∀ {i : Nat} {x : V}, [V.ref t1, .ref t2, .ref t3, .ref t4, .ref t5, .ref t6][i]? = some x → Pr J7 x := fun hx =>
        all6 hx ⟨_, _, _, _, _, rfl, i2 _ _ g1, ho1, ho2, M1, M2⟩ ⟨_, _, _, _, _, rfl, i3 _ _ g2, ho2, ho1, M2, M1⟩ ⟨_, _, _, _, _, rfl, i4 _ _ g3, ho2, ho3, M2, M3⟩
          ⟨_, _, _, _, _, rfl, i5 _ _ g4, ho1, hu, M1, MU⟩ ⟨_, _, _, _, _, rfl, i6 _ _ g5, hu, ho1, MU, M1⟩ ⟨_, _, _, _, _, rfl, j7 _ _ g6, ho3, ho3, M3, M3⟩
      refine ⟨dl, rfl, ⟨_, SqL.of hdl⟩, for_list (xs := [V.ref t1, .ref t2, .ref t3, .ref t4, .ref t5, .ref t6]) (fun i σ H' => ∃ y6, σ = [some (.ref a), some (.ref p), some (.ref o1), some (.ref o2), some (.ref o3), some (.ref u), y6, none, none, none] ∧ Same J7 H') ?_ (fun i σ H' hi h => ?_) (fun i x σ H' hx h => ?_) (fun σ H' h => ?_)⟩
      · exact ⟨none, rfl, Same.refl _⟩
      · obtain ⟨_, _, sm⟩ := h
        exact SqL.of (sm _ _ hdl)
      · obtain ⟨y6, rfl, sm⟩ := h
        obtain ⟨t, x, y, xs, ys, rfl, ht, hx, hy, mx, my⟩ := each hx
        refine ⟨_, rfl, t, _, 0, _, rfl, rfl, SqT.of (sm _ _ ht), atI_nat (j := 0) rfl, _, rfl, t, _, 1, _, rfl, rfl, SqT.of (sm _ _ ht), atI_nat (j := 1) rfl, x, y, xs, ys, rfl, SqL.of (sm _ _ hx), SqL.of (sm _ _ hy), mx, my, fun J sJ => ?_⟩
        exact ⟨_, rfl, _, rfl, sm.trans sJ⟩
      · obtain ⟨y6, rfl, sm⟩ := h
        have ho1 := sm _ _ ho1
        have ho2 := sm _ _ ho2
        have ho3 := sm _ _ ho3
        have hu := sm _ _ hu
        clear each i1 i2 i3 i4 i5 i6 j1 j2 j3 j4 j5 j6 j7
        -- composed(list(one), list(unit)) != one
        refine ⟨_, rfl, o1, _, rfl, .inl (SqL.of ho1), fun x nx => ?_⟩
        have s1 := same_upd (o := .lst (m1.map V.int)) nx
        have hx : (upd H' x (.lst (m1.map V.int))) x = some (.lst (m1.map V.int)) := upd_same
        generalize upd H' x (.lst (m1.map V.int)) = G1 at *
        refine ⟨_, rfl, u, _, rfl, .inl (SqL.of (s1 _ _ hu)), fun y ny => ?_⟩
        have s2 := same_upd (o := .lst (unit.map V.int)) ny
        have hy : (upd G1 y (.lst (unit.map V.int))) y = some (.lst (unit.map V.int)) := upd_same
        generalize upd G1 y (.lst (unit.map V.int)) = G2 at *
        refine ⟨x, y, m1, unit, rfl, SqL.of (s2 _ _ hx), SqL.of hy, l1, unit_len, M1.wd, MU.wd, fun r G3 s3 nr hr3 => ?_⟩
        have s03 := s1.trans (s2.trans s3)
        refine ⟨_, rfl, r, o1, _, m1, rfl, rfl, SqL.of hr3, SqL.of (s03 _ _ ho1), _, rfl, iteNS (comp_unit l1) ?_⟩
        refine ⟨_, rfl, u, _, rfl, .inl (SqL.of (s03 _ _ hu)), fun x nx => ?_⟩
        have s4 := same_upd (o := .lst (unit.map V.int)) nx
        have hx : (upd G3 x (.lst (unit.map V.int))) x = some (.lst (unit.map V.int)) := upd_same
        generalize upd G3 x (.lst (unit.map V.int)) = G4 at *
        refine ⟨_, rfl, o1, _, rfl, .inl (SqL.of (s4 _ _ (s03 _ _ ho1))), fun y ny => ?_⟩
        have s5 := same_upd (o := .lst (m1.map V.int)) ny
        have hy : (upd G4 y (.lst (m1.map V.int))) y = some (.lst (m1.map V.int)) := upd_same
        generalize upd G4 y (.lst (m1.map V.int)) = G5 at *
        refine ⟨x, y, unit, m1, rfl, SqL.of (s5 _ _ hx), SqL.of hy, unit_len, l1, MU.wd, M1.wd, fun r G6 s6 nr hr6 => ?_⟩
        have s06 := s03.trans (s4.trans (s5.trans s6))
        refine ⟨_, rfl, r, o1, _, m1, rfl, rfl, SqL.of hr6, SqL.of (s06 _ _ ho1), _, rfl, iteNS (unit_comp l1) ?_⟩
        -- composed(one, one) != times(one, one)
        refine ⟨_, rfl, _, rfl, o1, o1, m1, m1, rfl, SqL.of (s06 _ _ ho1), SqL.of (s06 _ _ ho1), l1, l1, M1.wd, M1.wd, fun r G7 s7 nr hr7 => ?_⟩
        have s07 := s06.trans s7
        refine ⟨_, rfl, _, rfl, o1, o1, m1, m1, rfl, SqL.of (s07 _ _ ho1), SqL.of (s07 _ _ ho1), l1, l1, M1.wd, M1.wd, fun r2 G8 s8 nr2 hr8 => ?_⟩
        have s08 := s07.trans s8
        refine ⟨r, r2, _, _, rfl, rfl, SqL.of (s8 _ _ hr7), SqL.of hr8, _, rfl, iteNS rfl ?_⟩
        -- left
        refine ⟨_, rfl, _, rfl, o1, o2, m1, m2, rfl, SqL.of (s08 _ _ ho1), SqL.of (s08 _ _ ho2), l1, l2, M1.wd, M2.wd, fun x G9 s9 nx hx => ?_⟩
        have s09 := s08.trans s9
        have b12 : Bw 2000 (comp m1 m2) := (comp_bw M1.2 M2.2).mono (by decide)
        refine ⟨_, rfl, x, o3, _, m3, rfl, SqL.of hx, SqL.of (s09 _ _ ho3), comp_len _ _, l3, b12, M3.wd, fun le G10 s10 nl hl => ?_⟩
        have s010 := s09.trans s10
        -- right
        refine ⟨_, rfl, _, rfl, _, rfl, o2, o3, m2, m3, rfl, SqL.of (s010 _ _ ho2), SqL.of (s010 _ _ ho3), l2, l3, M2.wd, M3.wd, fun y G11 s11 ny hy => ?_⟩
        have b23 : Bw 2000 (comp m2 m3) := (comp_bw M2.2 M3.2).mono (by decide)
        refine ⟨o1, y, m1, _, rfl, SqL.of (s11 _ _ (s010 _ _ ho1)), SqL.of hy, l1, comp_len _ _, M1.wd, b23, fun ri G12 s12 nri hri => ?_⟩
        refine ⟨_, rfl, _, rfl, le, ri, _, _, rfl, rfl, SqL.of (s12 _ _ (s11 _ _ hl)), SqL.of hri, ?_⟩
        rw [decide_eq_true (comp_assoc m1 m2 m3)]
        exact q _
end
theorem all_mk {l : PySem.W.OpenLaw} {w : World} {K : PySem.W.Frag} {h : Heap} {mg : Str → Option Value} {fa f0 f1 f2 f3 f4 f5 f6 f7 f8 f9 f10 f11 : Addr} (X : K.In h) (G : h.Ns mainGlobals mg) (hfa : mg "law" = some (.ref fa))
    {od0 an0 od1 an1 od2 an2 od3 an3 od4 an4 od5 an5 od6 an6 od7 an7 od8 an8 od9 an9 od10 an10 od11 an11 : Option Addr} {sl0 sl1 sl2 sl3 sl4 sl5 sl6 sl7 sl8 sl9 sl10 sl11 : Array (Option Value)}
    {oc0 kV0 dc0 pm0 cd0 ct0 oc1 kV1 dc1 pm1 cd1 ct1 oc2 kV2 dc2 pm2 cd2 ct2 oc3 kV3 dc3 pm3 cd3 ct3 oc4 kV4 dc4 pm4 cd4 ct4 oc5 kV5 dc5 pm5 cd5 ct5 oc6 kV6 dc6 pm6 cd6 ct6 oc7 kV7 dc7 pm7 cd7 ct7 oc8 kV8 dc8 pm8 cd8 ct8 oc9 kV9 dc9 pm9 cd9 ct9 oc10 kV10 dc10 pm10 cd10 ct10 oc11 kV11 dc11 pm11 cd11 ct11 : Value}
    (a0 : PySem.W.nsIn K mainGlobals "row_of" = some (some (.ref f0)))
    (l0 : K.lookup f0 = some ⟨oc0, od0, .func (PySem.W.fnOf "row_of" "row_of" (defArgs s_row_of) (defBody s_row_of) (defScope s_row_of) .none kV0 dc0 pm0 an0 cd0 ct0), sl0⟩)
    (c0 : PySem.W.codeIn K cd0 "row_of" = true)
    (k0 : PySem.W.keepIn K (.ref f0) = true)
    (a1 : PySem.W.nsIn K mainGlobals "rows_behind" = some (some (.ref f1)))
    (l1 : K.lookup f1 = some ⟨oc1, od1, .func (PySem.W.fnOf "rows_behind" "rows_behind" (defArgs s_rows_behind) (defBody s_rows_behind) (defScope s_rows_behind) .none kV1 dc1 pm1 an1 cd1 ct1), sl1⟩)
    (c1 : PySem.W.codeIn K cd1 "rows_behind" = true)
    (k1 : PySem.W.keepIn K (.ref f1) = true)
    (a2 : PySem.W.nsIn K mainGlobals "composed" = some (some (.ref f2)))
    (l2 : K.lookup f2 = some ⟨oc2, od2, .func (PySem.W.fnOf "composed" "composed" (defArgs s_composed) (defBody s_composed) (defScope s_composed) .none kV2 dc2 pm2 an2 cd2 ct2), sl2⟩)
    (c2 : PySem.W.codeIn K cd2 "composed" = true)
    (k2 : PySem.W.keepIn K (.ref f2) = true)
    (a3 : PySem.W.nsIn K mainGlobals "_law_pool" = some (some (.ref f3)))
    (l3 : K.lookup f3 = some ⟨oc3, od3, .func (PySem.W.fnOf "_law_pool" "_law_pool" (defArgs s__law_pool) (defBody s__law_pool) (defScope s__law_pool) .none kV3 dc3 pm3 an3 cd3 ct3), sl3⟩)
    (c3 : PySem.W.codeIn K cd3 "_law_pool" = true)
    (k3 : PySem.W.keepIn K (.ref f3) = true)
    (a4 : PySem.W.nsIn K mainGlobals "_law_draw" = some (some (.ref f4)))
    (l4 : K.lookup f4 = some ⟨oc4, od4, .func (PySem.W.fnOf "_law_draw" "_law_draw" (defArgs s__law_draw) (defBody s__law_draw) (defScope s__law_draw) .none kV4 dc4 pm4 an4 cd4 ct4), sl4⟩)
    (c4 : PySem.W.codeIn K cd4 "_law_draw" = true)
    (k4 : PySem.W.keepIn K (.ref f4) = true)
    (a5 : PySem.W.nsIn K mainGlobals "_law_number" = some (some (.ref f5)))
    (l5 : K.lookup f5 = some ⟨oc5, od5, .func (PySem.W.fnOf "_law_number" "_law_number" (defArgs s__law_number) (defBody s__law_number) (defScope s__law_number) .none kV5 dc5 pm5 an5 cd5 ct5), sl5⟩)
    (c5 : PySem.W.codeIn K cd5 "_law_number" = true)
    (k5 : PySem.W.keepIn K (.ref f5) = true)
    (a6 : PySem.W.nsIn K mainGlobals "_law_is_matrix" = some (some (.ref f6)))
    (l6 : K.lookup f6 = some ⟨oc6, od6, .func (PySem.W.fnOf "_law_is_matrix" "_law_is_matrix" (defArgs s__law_is_matrix) (defBody s__law_is_matrix) (defScope s__law_is_matrix) .none kV6 dc6 pm6 an6 cd6 ct6), sl6⟩)
    (c6 : PySem.W.codeIn K cd6 "_law_is_matrix" = true)
    (k6 : PySem.W.keepIn K (.ref f6) = true)
    (a7 : PySem.W.nsIn K mainGlobals "_law_times" = some (some (.ref f7)))
    (l7 : K.lookup f7 = some ⟨oc7, od7, .func (PySem.W.fnOf "_law_times" "_law_times" (defArgs s__law_times) (defBody s__law_times) (defScope s__law_times) .none kV7 dc7 pm7 an7 cd7 ct7), sl7⟩)
    (c7 : PySem.W.codeIn K cd7 "_law_times" = true)
    (k7 : PySem.W.keepIn K (.ref f7) = true)
    (a8 : PySem.W.nsIn K mainGlobals "_law_any_matrix" = some (some (.ref f8)))
    (l8 : K.lookup f8 = some ⟨oc8, od8, .func (PySem.W.fnOf "_law_any_matrix" "_law_any_matrix" (defArgs s__law_any_matrix) (defBody s__law_any_matrix) (defScope s__law_any_matrix) .none kV8 dc8 pm8 an8 cd8 ct8), sl8⟩)
    (c8 : PySem.W.codeIn K cd8 "_law_any_matrix" = true)
    (k8 : PySem.W.keepIn K (.ref f8) = true)
    (a9 : PySem.W.nsIn K mainGlobals "_law_is_row" = some (some (.ref f9)))
    (l9 : K.lookup f9 = some ⟨oc9, od9, .func (PySem.W.fnOf "_law_is_row" "_law_is_row" (defArgs s__law_is_row) (defBody s__law_is_row) (defScope s__law_is_row) .none kV9 dc9 pm9 an9 cd9 ct9), sl9⟩)
    (c9 : PySem.W.codeIn K cd9 "_law_is_row" = true)
    (k9 : PySem.W.keepIn K (.ref f9) = true)
    (a10 : PySem.W.nsIn K mainGlobals "_law_good" = some (some (.ref f10)))
    (l10 : K.lookup f10 = some ⟨oc10, od10, .func (PySem.W.fnOf "_law_good" "_law_good" (defArgs s__law_good) (defBody s__law_good) (defScope s__law_good) .none kV10 dc10 pm10 an10 cd10 ct10), sl10⟩)
    (c10 : PySem.W.codeIn K cd10 "_law_good" = true)
    (k10 : PySem.W.keepIn K (.ref f10) = true)
    (a11 : PySem.W.nsIn K mainGlobals "law" = some (some (.ref f11)))
    (l11 : K.lookup f11 = some ⟨oc11, od11, .func (PySem.W.fnOf "law" "law" (defArgs s_law) (defBody s_law) (defScope s_law) .none kV11 dc11 pm11 an11 cd11 ct11), sl11⟩)
    (c11 : PySem.W.codeIn K cd11 "law" = true)
    (k11 : PySem.W.keepIn K (.ref f11) = true)
    (z0 : PySem.W.nsIn K mainGlobals "all" = some none)
    (z1 : PySem.W.nsIn K mainGlobals "bool" = some none)
    (z2 : PySem.W.nsIn K mainGlobals "int" = some none)
    (z3 : PySem.W.nsIn K mainGlobals "isinstance" = some none)
    (z4 : PySem.W.nsIn K mainGlobals "len" = some none)
    (z5 : PySem.W.nsIn K mainGlobals "list" = some none)
    (z6 : PySem.W.nsIn K mainGlobals "range" = some none)
    (z7 : PySem.W.nsIn K mainGlobals "sum" = some none)
    : ∃ fd : FuncData, (∀ (s : Shared) (v : Value), BindsTo s fd ⟨[v], []⟩ [("_law_script", v)]) ∧ ∀ base : Heap, K.In base → base.Ns mainGlobals mg → FnOk l.prog w K mg base CX0 4 fa fd ["_law_script"] (spLaw K) := by
  have e := hfa.symm.trans (PySem.W.mg_of X G a11)
  cases e
  have F0 := fun_mk (st := s_row_of) l0 c0 k0
  have F1 := fun_mk (st := s_rows_behind) l1 c1 k1
  have F2 := fun_mk (st := s_composed) l2 c2 k2
  have F3 := fun_mk (st := s__law_pool) l3 c3 k3
  have F4 := fun_mk (st := s__law_draw) l4 c4 k4
  have F5 := fun_mk (st := s__law_number) l5 c5 k5
  have F6 := fun_mk (st := s__law_is_matrix) l6 c6 k6
  have F7 := fun_mk (st := s__law_times) l7 c7 k7
  have F8 := fun_mk (st := s__law_any_matrix) l8 c8 k8
  have F9 := fun_mk (st := s__law_is_row) l9 c9 k9
  have F10 := fun_mk (st := s__law_good) l10 c10 k10
  have F11 := fun_mk (st := s_law) l11 c11 k11
  have T : ∃ T : Top w K mg, T.a_law = fa ∧ T.d_law = PySem.W.fnOf "law" "law" (defArgs s_law) (defBody s_law) (defScope s_law) .none kV11 dc11 pm11 an11 cd11 ct11 := ⟨{ a_row_of := f0, d_row_of := PySem.W.fnOf "row_of" "row_of" (defArgs s_row_of) (defBody s_row_of) (defScope s_row_of) .none kV0 dc0 pm0 an0 cd0 ct0, F_row_of := F0, g_row_of := PySem.W.mg_of X G a0, a_rows_behind := f1, d_rows_behind := PySem.W.fnOf "rows_behind" "rows_behind" (defArgs s_rows_behind) (defBody s_rows_behind) (defScope s_rows_behind) .none kV1 dc1 pm1 an1 cd1 ct1, F_rows_behind := F1, g_rows_behind := PySem.W.mg_of X G a1, a_composed := f2, d_composed := PySem.W.fnOf "composed" "composed" (defArgs s_composed) (defBody s_composed) (defScope s_composed) .none kV2 dc2 pm2 an2 cd2 ct2, F_composed := F2, g_composed := PySem.W.mg_of X G a2, a__law_pool := f3, d__law_pool := PySem.W.fnOf "_law_pool" "_law_pool" (defArgs s__law_pool) (defBody s__law_pool) (defScope s__law_pool) .none kV3 dc3 pm3 an3 cd3 ct3, F__law_pool := F3, g__law_pool := PySem.W.mg_of X G a3, a__law_draw := f4, d__law_draw := PySem.W.fnOf "_law_draw" "_law_draw" (defArgs s__law_draw) (defBody s__law_draw) (defScope s__law_draw) .none kV4 dc4 pm4 an4 cd4 ct4, F__law_draw := F4, g__law_draw := PySem.W.mg_of X G a4, a__law_number := f5, d__law_number := PySem.W.fnOf "_law_number" "_law_number" (defArgs s__law_number) (defBody s__law_number) (defScope s__law_number) .none kV5 dc5 pm5 an5 cd5 ct5, F__law_number := F5, g__law_number := PySem.W.mg_of X G a5, a__law_is_matrix := f6, d__law_is_matrix := PySem.W.fnOf "_law_is_matrix" "_law_is_matrix" (defArgs s__law_is_matrix) (defBody s__law_is_matrix) (defScope s__law_is_matrix) .none kV6 dc6 pm6 an6 cd6 ct6, F__law_is_matrix := F6, g__law_is_matrix := PySem.W.mg_of X G a6, a__law_times := f7, d__law_times := PySem.W.fnOf "_law_times" "_law_times" (defArgs s__law_times) (defBody s__law_times) (defScope s__law_times) .none kV7 dc7 pm7 an7 cd7 ct7, F__law_times := F7, g__law_times := PySem.W.mg_of X G a7, a__law_any_matrix := f8, d__law_any_matrix := PySem.W.fnOf "_law_any_matrix" "_law_any_matrix" (defArgs s__law_any_matrix) (defBody s__law_any_matrix) (defScope s__law_any_matrix) .none kV8 dc8 pm8 an8 cd8 ct8, F__law_any_matrix := F8, g__law_any_matrix := PySem.W.mg_of X G a8, a__law_is_row := f9, d__law_is_row := PySem.W.fnOf "_law_is_row" "_law_is_row" (defArgs s__law_is_row) (defBody s__law_is_row) (defScope s__law_is_row) .none kV9 dc9 pm9 an9 cd9 ct9, F__law_is_row := F9, g__law_is_row := PySem.W.mg_of X G a9, a__law_good := f10, d__law_good := PySem.W.fnOf "_law_good" "_law_good" (defArgs s__law_good) (defBody s__law_good) (defScope s__law_good) .none kV10 dc10 pm10 an10 cd10 ct10, F__law_good := F10, g__law_good := PySem.W.mg_of X G a10, a_law := fa, d_law := PySem.W.fnOf "law" "law" (defArgs s_law) (defBody s_law) (defScope s_law) .none kV11 dc11 pm11 an11 cd11 ct11, F_law := F11, g_law := PySem.W.mg_of X G a11, z_all := PySem.W.mg_none_of X G z0, z_bool := PySem.W.mg_none_of X G z1, z_int := PySem.W.mg_none_of X G z2, z_isinstance := PySem.W.mg_none_of X G z3, z_len := PySem.W.mg_none_of X G z4, z_list := PySem.W.mg_none_of X G z5, z_range := PySem.W.mg_none_of X G z6, z_sum := PySem.W.mg_none_of X G z7 }, rfl, rfl⟩
  obtain ⟨T, e1, e2⟩ := T
  refine ⟨PySem.W.fnOf "law" "law" (defArgs s_law) (defBody s_law) (defScope s_law) .none kV11 dc11 pm11 an11 cd11 ct11, fun s v => .of_eq rfl, fun base _ _ => ?_⟩
  · rw [← e1, ← e2]; exact ok_law T
end My
open PySem PySem.W PyProof.Rows
set_option maxRecDepth 100000 in
set_option maxHeartbeats 0 in
theorem PySem.Challenge.cw_penhome_k05_composed_holds : PySem.Challenge.rw_penhome_k05_composed.Holds := by
  w_on; o_law; k_head; (case hw => w_witness2)
  k_fill
  refine L2.walk_of (l := PySem.Challenge.rw_penhome_k05_composed) (n := 63) (k := 4) (x := "_law_script") (CX := fun _ => L2.CX0) (sp := fun w => My.spLaw _) rfl (by decide) rfl ⟨rfl, by decide, by decide⟩ (fun w h Y => PySem.W.kIn_of Y) ?F (fun _ _ a ns hl _ hS => ⟨a, ns, rfl, hS, hl, fun _ => rfl⟩) (fun _ _ _ _ _ h => h)
  case F =>
    intro w mg fa h KX G hmg
    refine' My.all_mk KX G hmg ?a0 ?l0 ?c0 ?k0 ?a1 ?l1 ?c1 ?k1 ?a2 ?l2 ?c2 ?k2 ?a3 ?l3 ?c3 ?k3 ?a4 ?l4 ?c4 ?k4 ?a5 ?l5 ?c5 ?k5 ?a6 ?l6 ?c6 ?k6 ?a7 ?l7 ?c7 ?k7 ?a8 ?l8 ?c8 ?k8 ?a9 ?l9 ?c9 ?k9 ?a10 ?l10 ?c10 ?k10 ?a11 ?l11 ?c11 ?k11 ?z0 ?z1 ?z2 ?z3 ?z4 ?z5 ?z6 ?z7
    (case a0 => k_is); (case l0 => k_is); (case c0 => k_is); (case k0 => k_is); (case a1 => k_is); (case l1 => k_is); (case c1 => k_is); (case k1 => k_is); (case a2 => k_is); (case l2 => k_is); (case c2 => k_is); (case k2 => k_is); (case a3 => k_is); (case l3 => k_is); (case c3 => k_is); (case k3 => k_is); (case a4 => k_is); (case l4 => k_is); (case c4 => k_is); (case k4 => k_is); (case a5 => k_is); (case l5 => k_is); (case c5 => k_is); (case k5 => k_is); (case a6 => k_is); (case l6 => k_is); (case c6 => k_is); (case k6 => k_is); (case a7 => k_is); (case l7 => k_is); (case c7 => k_is); (case k7 => k_is); (case a8 => k_is); (case l8 => k_is); (case c8 => k_is); (case k8 => k_is); (case a9 => k_is); (case l9 => k_is); (case c9 => k_is); (case k9 => k_is); (case a10 => k_is); (case l10 => k_is); (case c10 => k_is); (case k10 => k_is); (case a11 => k_is); (case l11 => k_is); (case c11 => k_is); (case k11 => k_is); (case z0 => k_is); (case z1 => k_is); (case z2 => k_is); (case z3 => k_is); (case z4 => k_is); (case z5 => k_is); (case z6 => k_is); (case z7 => k_is)

