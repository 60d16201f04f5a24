import PyProof.Rows.All
import HandS.ForMost
import HandS.Zip
import HandS.TupMul
import HandS.TupAny
import HandS.DictComp
import HandS.Conv
import HandS.IsInst
import PyProof.Rows.SeqMore
import KE.GoesNew
import PyProof.ReprRoads
import HandS.Deep
import HandS.Ends
import HandS.Strs
import KE.KIndexOf
import HandS.Codes
import HandS.Style
import PyProof.Rows.RegFStrParts
import KE.DatumOrd
import HandS.SortRule
import HandS.SortInts
import HandS.TupSets
import PySem.Challenge.RW_freshtold_k10_whole_true_histories_weave
set_option Elab.async false
set_option linter.all false
set_option maxRecDepth 100000
set_option maxHeartbeats 8000000
namespace RX
open PySem PySem.Spec PyProof.Rows L2

/-! ### a tuple times an int: nothing, itself, more -/
theorem tup_mul_one (l : Addr) (items : Array Value) (n : Nat) (dd : Option Addr) (sl : Array (Option Value)) (u : Tok) :
    Meets (Builtin.«tuple.__mul__» ⟨[.ref l, .int 1 u], []⟩) (fun _ R s => s.heap.get? l = some { cls := .type "tuple", dict := dd, data := .seq items n, slots := sl } ∧ R (.ok (.ret (Value.ref l))) s) :=
  .of_wp fun prog w A R s h => by
    obtain ⟨hp, g, d, tk, os⟩ := s
    obtain ⟨hl, h⟩ := h
    have f1 := AutoSeq1.idx_int
    have c1 : (items.isEmpty || (1 : Int) == 1) = true := by simp
    wp_walk using wpAny_loadPart' hl
    repeat (first
      | (refine wpAny_ite_false (decide_eq_false (by decide)) ?_; wp_walk using wpAny_loadPart' hl)
      | (refine wpAny_ite_true (decide_eq_true (by rw [c1])) ?_; wp_walk using wpAny_loadPart' hl))
    exact ⟨_, rfl, h⟩
theorem tup_mul_none (l : Addr) (items : Array Value) (n : Nat) (dd : Option Addr) (sl : Array (Option Value)) (x : Int) (u : Tok) (c0 : (decide (x < -(2 ^ 63)) || decide (x ≥ 2 ^ 63)) = false) (hx : x ≤ 0) (hi : items.isEmpty = false) :
    Meets (Builtin.«tuple.__mul__» ⟨[.ref l, .int x u], []⟩) (fun _ R s => s.heap.get? l = some { cls := .type "tuple", dict := dd, data := .seq items n, slots := sl } ∧
      R (.ok (.ret (Value.ref s.heap.objs.size))) { s with heap := s.heap.push { cls := Value.type "tuple", data := Data.seq #[] }, toks := s.toks }) :=
  .of_wp fun prog w A R s h => by
    obtain ⟨hp, g, d, tk, os⟩ := s
    obtain ⟨hl, h⟩ := h
    have f1 := AutoSeq1.idx_int
    have c1 : (items.isEmpty || x == 1) = false := by
      rw [hi, Bool.false_or]
      exact beq_eq_false_iff_ne.mpr (by omega)
    have c2 : (decide (x ≤ 0) || items.isEmpty) = true := by
      rw [decide_eq_true hx] <;> rfl
    wp_walk using wpAny_loadPart' hl
    repeat (first
      | (refine wpAny_ite_false (decide_eq_false (by rw [c0]; exact Bool.false_ne_true)) ?_; wp_walk using wpAny_loadPart' hl)
      | (refine wpAny_ite_false (decide_eq_false (by rw [c1]; exact Bool.false_ne_true)) ?_; wp_walk using wpAny_loadPart' hl)
      | (refine wpAny_ite_true (decide_eq_true (by rw [c2])) ?_; wp_walk using wpAny_loadPart' hl))
    exact ⟨_, rfl, h⟩
end RX

namespace RX
open PySem PySem.Spec PyProof.Rows L2

/-! ### lists and tuples alike -/
/-- t: a tuple, else a list -/
def SqA (K : PySem.W.Frag) (t : Bool) (H : Hp) (a : Addr) (xs : List V) : Prop := match t with
  | true => SqT K H a xs
  | false => SqL K H a xs
def HeA (t : Bool) (h : Heap) (a : Addr) (its : Array Value) : Prop := match t with
  | true => h.IsTuple a its
  | false => h.IsList a its
def ItA (t : Bool) (h : Heap) (it a : Addr) (i : Nat) : Prop := match t with
  | true => h.IsTupleIter it a i
  | false => h.IsListIter it a i
def beA (t : Bool) (a : Addr) : Obj := match t with
  | true => { cls := .type "tuple_iterator", data := .fields #[.ref a, .int 0 0] }
  | false => { cls := .type "list_iterator", data := .fields #[.ref a, .int 0 0] }
theorem begA (t : Bool) (a : Addr) (its : Array Value) : Begins (.ref a) (beA t a) fun h => HeA t h a its := by
  cases t with
  | true => exact begins_tuple a its
  | false => exact begins_list a its
theorem drA {prog : Program} {w : World} {A : Around} (hh : A.handled = none) (t : Bool) (it a : Addr) (hne : a ≠ it) (its : Array Value) :
    Draws prog w A it [it, a] its.size (fun i v => its[i]? = some v) (fun i h => ItA t h it a i ∧ HeA t h a its) := by
  cases t with
  | true => exact Draws.tuple hh it a hne its
  | false => exact Draws.list hh it a hne its
section
variable {X : Cx} {pins : List (Addr × Obj)} {σ : L2.St} {H : Hp} {s : Shared} {a : Addr} {xs ys : List V} {t : Bool}
theorem sqA_he (I : Inv X pins σ H s) (h : SqA X.K t H a xs) : ∃ its : List Value, Vals xs its ∧ HeA t s.heap a its.toArray ∧ xs.length ≤ sizeLine ∧ a < s.heap.objs.size := by
  cases t with
  | true =>
    obtain ⟨its, r, p, z⟩ := I.tuple h
    obtain ⟨o, ho, _⟩ := id p
    exact ⟨its, r, p, z, Heap.lt_size ho⟩
  | false =>
    obtain ⟨its, r, p, z⟩ := I.list h
    exact ⟨its, r, p.isList, z, p.lt⟩
theorem sqA_inj (I : Inv X pins σ H s) (h : SqA X.K t H a xs) (h' : SqA X.K t H a ys) : xs = ys := by
  cases t with
  | true => exact I.tuple_inj h h'
  | false => exact I.list_inj h h'
theorem itA_obj {h : Heap} {it : Addr} {i : Nat} (st : ItA t h it a i) : ∃ o, h.get? it = some o ∧ ∀ v, o.data ≠ .cell v := by
  cases t with
  | true =>
    obtain ⟨o, e, _, d⟩ := (show h.IsTupleIter it a i from st)
    exact ⟨o, e, fun v q => by rw [d] at q; cases q⟩
  | false =>
    obtain ⟨o, e, _, d⟩ := (show h.IsListIter it a i from st)
    exact ⟨o, e, fun v q => by rw [d] at q; cases q⟩
theorem itA_at {h h' : Heap} {it : Addr} {i : Nat} (st : ItA t h it a i) (k : ∀ o, h.get? it = some o → h'.get? it = some o) : ItA t h' it a i := by
  cases t with
  | true =>
    have q : h.IsTupleIter it a i := st
    exact q.at k
  | false =>
    have q : h.IsListIter it a i := st
    exact q.at k
theorem itA_start {h : Heap} {it : Addr} (e : h.get? it = some (beA t a)) : ItA t h it a 0 := by
  cases t with
  | true => exact ⟨_, e, rfl, rfl⟩
  | false => exact ⟨_, e, rfl, rfl⟩
theorem sqA_ne (I : Inv X pins σ H s) (h : SqA X.K t H a xs) {c : Addr} (f : FpOk X pins H c) : a ≠ c := by
  rintro rfl
  have q := f.1
  have out : ∀ o, X.K.lookup a = some o → False := fun o r => by
    have z1 := I.mod.kin a o r
    rcases f.2.2.2.1 with z2 | z2
    · exact (I.ok.noex a o z1) z2
    · exact absurd (Nat.lt_of_lt_of_le (Heap.lt_size (I.ok.bs a o z1).1) z2) (Nat.lt_irrefl _)
  cases t with
  | true =>
    rcases (show SqT X.K H a xs from h) with (r | ⟨o, r⟩) | ⟨o, _, _, r, _⟩
    · rw [q] at r; cases r
    · rw [q] at r; cases r
    · exact out o r
  | false =>
    rcases (show SqL X.K H a xs from h) with (r | ⟨o, r⟩) | ⟨o, _, _, r, _⟩
    · rw [q] at r; cases r
    · rw [q] at r; cases r
    · exact out o r
theorem sqA_wf (I : Inv X pins σ H s) (hh : X.A.in1.handled = none) (h : SqA X.K t H a xs) {it : Addr} (f : FpOk X pins H it) {its : List Value} (rv : Vals xs its) (i : Nat) (st : ItA t s.heap it a i) (p : HeA t s.heap a its.toArray) :
    Draws X.prog X.w X.A.in1 it [it, a] its.toArray.size (fun i v => its.toArray[i]? = some v) (fun i h => ItA t h it a i ∧ HeA t h a its.toArray) := drA hh t it a (sqA_ne I h f) its.toArray
end

/-! ### zip of two things, lists or tuples in any mix -/
def ItzA (K : PySem.W.Frag) (t u : Bool) (a b : Addr) : It :=
  ⟨fun i H => ∃ (xs ys : List V) (x y : V), SqA K t H a xs ∧ SqA K u H b ys ∧ xs[i]? = some x ∧ ys[i]? = some y,
    fun i H v H' => ∃ T x y, v = .ref T ∧ H T = none ∧ H' = upd H T (.tup [x, y]) ∧ (∀ xs, SqA K t H a xs → xs[i]? = some x) ∧ ∀ ys, SqA K u H b ys → ys[i]? = some y,
    fun i H => ∃ xs ys : List V, SqA K t H a xs ∧ SqA K u H b ys ∧ i = min xs.length ys.length⟩
theorem turn_zipA {P : Program} {w : World} {K : PySem.W.Frag} {elts : List Expr} {kk : Nat} {tpos : Pos} {t u : Bool} {a b z TI TO i1 i2 : Addr} (D : ZipSep2 z TI TO i1 i2 [i1, a] [i2, b]) :
    Turn P w K (.Tuple elts kk tpos) (ItzA K t u a b) [z, TI, TO, i1, i2] z (fun i h => IsZip h z TI TO .none ∧ IsTupOf2 h TI (.ref i1) (.ref i2) ∧ (∃ x y, IsTupOf2 h TO x y) ∧ ItA t h i1 a i ∧ ItA u h i2 b i) where
  mem := by simp
  obj := fun i h st c hc => by
    obtain ⟨hz, hTI, ⟨x, y, hTO⟩, h1, h2⟩ := st
    simp only [List.mem_cons, List.not_mem_nil, or_false] at hc
    rcases hc with q | q | q | q | q <;> rw [q]
    · exact ⟨_, hz, fun v q => nomatch q⟩
    · exact ⟨_, hTI, fun v q => nomatch q⟩
    · exact ⟨_, hTO, fun v q => nomatch q⟩
    · exact itA_obj h1
    · exact itA_obj h2
  keep := fun i h h' st k => by
    obtain ⟨hz, hTI, ⟨x, y, hTO⟩, h1, h2⟩ := st
    exact ⟨k z (by simp) _ hz, k TI (by simp) _ hTI, ⟨x, y, k TO (by simp) _ hTO⟩, itA_at h1 (k i1 (by simp)), itA_at h2 (k i2 (by simp))⟩
  item := by
    intro X hP hw hK hc i pins s σ H E I hf st hg
    subst hP hw hK
    obtain ⟨hz, hTI, hTO, h1, h2⟩ := st
    obtain ⟨xs, ys, x, y, qx, qy, ex, ey⟩ := hg
    obtain ⟨its, rv, p1, _, la⟩ := sqA_he I qx
    obtain ⟨jts, rw2, p2, _, lb⟩ := sqA_he I qy
    have hx : i < its.toArray.size := by
      have q := (List.getElem?_eq_some_iff.mp ex).1
      rw [List.size_toArray, ← rv.length]; exact q
    have hy : i < jts.toArray.size := by
      have q := (List.getElem?_eq_some_iff.mp ey).1
      rw [List.size_toArray, ← rw2.length]; exact q
    have hh : X.A.in1.handled = none := I.ok.hd hc
    have W := GoesN.zip2 (prog := X.prog) (w := X.w) (A := X.A) (elts := elts) (x1 := kk) (pos := tpos) D
      (drA hh t i1 a (sqA_ne I qx (hf i1 (by simp))) its.toArray) (drA hh u i2 b (sqA_ne I qy (hf i2 (by simp))) jts.toArray)
    refine thn (W.goes i s _ _ (by omega) ⟨hz, hTI, hTO, ⟨h1, p1⟩, ⟨h2, p2⟩⟩ fun v h' tk hY st' hk _ => ?_) fun r s1 ⟨v, hr, q⟩ => ⟨v, hr, q⟩
    obtain ⟨T, vx, vy, rfl, hn, gx, gy, hT⟩ := hY
    obtain ⟨o, eo, hcl, n, hd⟩ := hT
    have rx : RelV x vx := by
      obtain ⟨v0, e0, r0⟩ := rv.get ex
      have : vx = v0 := Option.some.inj (gx.symm.trans (by simpa using e0))
      rw [this]; exact r0
    have ry : RelV y vy := by
      obtain ⟨v0, e0, r0⟩ := rw2.get ey
      have : vy = v0 := Option.some.inj (gy.symm.trans (by simpa using e0))
      rw [this]; exact r0
    have new : ObjOk X.prog X.w (upd H T (.tup [x, y])) h' T (.tup [x, y]) := ⟨by show 2 ≤ sizeLine; decide, [vx, vy], .cons rx (.cons ry .nil), ⟨o, eo, hcl, n, hd⟩⟩
    have I1 : Inv X pins σ (upd H T (.tup [x, y])) { s with heap := h', toks := tk } :=
      I.turnedNew (ch := [z, TI, TO, i1, i2]) (fun c o hb q => hk c o (fun m => hb (by
        simp only [List.mem_cons, List.not_mem_nil, or_false] at m ⊢
        rcases m with m | m | m | m
        · exact .inl m
        · exact .inr (.inr (.inl m))
        · exact .inr (.inr (.inr (.inl m)))
        · exact .inr (.inr (.inr (.inr m))))) q) hf hn new
    refine ⟨.ref T, _, I1, rfl, ⟨T, x, y, rfl, I.hok.fresh hn, rfl, fun l hl => by rw [sqA_inj I hl qx]; exact ex, fun l hl => by rw [sqA_inj I hl qy]; exact ey⟩, ⟨st'.1, st'.2.1, st'.2.2.1, st'.2.2.2.1.1, st'.2.2.2.2.1⟩, fun c hcm => ?_⟩
    have hlt : c < s.heap.objs.size := by
      simp only [List.mem_cons, List.not_mem_nil, or_false] at hcm
      obtain ⟨_, _, hO⟩ := hTO
      rcases hcm with q | q | q | q | q <;> rw [q]
      · exact Heap.lt_size hz
      · exact Heap.lt_size hTI
      · exact Heap.lt_size hO
      · obtain ⟨_, e, _⟩ := itA_obj h1; exact Heap.lt_size e
      · obtain ⟨_, e, _⟩ := itA_obj h2; exact Heap.lt_size e
    rw [upd_ne (Nat.ne_of_lt (Nat.lt_of_lt_of_le hlt hn))]
    exact (hf c hcm).1
  done := by
    intro X hP hw hK hc i pins s σ H E I hf st hg
    subst hP hw hK
    obtain ⟨hz, hTI, hTO, h1, h2⟩ := st
    obtain ⟨xs, ys, qx, qy, en⟩ := hg
    obtain ⟨its, rv, p1, _, la⟩ := sqA_he I qx
    obtain ⟨jts, rw2, p2, _, lb⟩ := sqA_he I qy
    have hh : X.A.in1.handled = none := I.ok.hd hc
    have W := GoesN.zip2 (prog := X.prog) (w := X.w) (A := X.A) (elts := elts) (x1 := kk) (pos := tpos) D
      (drA hh t i1 a (sqA_ne I qx (hf i1 (by simp))) its.toArray) (drA hh u i2 b (sqA_ne I qy (hf i2 (by simp))) jts.toArray)
    have en2 : i = min its.toArray.size jts.toArray.size := by
      rw [List.size_toArray, List.size_toArray, ← rv.length, ← rw2.length]; exact en
    subst en2
    exact W.stops s _ _ ⟨hz, hTI, hTO, ⟨h1, p1⟩, ⟨h2, p2⟩⟩ fun h' tk hk _ => I.turnedL (t' := tk) (ch := [z, TI, TO, i1, i2]) (fun c o hb q => hk c o (fun m => hb (by
        simp only [List.mem_cons, List.not_mem_nil, or_false] at m ⊢
        rcases m with m | m | m | m
        · exact .inl m
        · exact .inr (.inr (.inl m))
        · exact .inr (.inr (.inr (.inl m)))
        · exact .inr (.inr (.inr (.inr m))))) q) hf
  self := fun A i s Q E st h => wpAny_pyIter_zip st.1 h

/-- a thing walked by zip -/
def iZipM (K : PySem.W.Frag) (ta : TA) : TI := fun σ H R => ta σ H fun vs H1 => ∃ t u a b xs ys, vs = [.ref a, .ref b] ∧ SqA K t H1 a xs ∧ SqA K u H1 b ys ∧ R (ItzA K t u a b) H1
theorem pi_zipM {X : Cx} {e e2 : Expr} {ta : TA} {p pos tpos : Pos} {elts : List Expr} {kk : Nat} (hg : Gl X "zip") (hm : X.mg "zip" = none) (ha : PA X [e, e2] ta)
    (hs : starEach [e, e2] X.env = (false, eval e X.env) :: starEach [e2] X.env := by rfl) (hpl : (backTo pos (starEach [e2] X.env)).any (·.1) = false := by rfl) :
    PI X (.Tuple elts kk tpos) (.Call (.Name "zip" p) [e, e2] [] pos) (iZipM X.K ta) := by
  refine ⟨fun pins s σ H R I h => ?_⟩
  refine Call_ (ld_blt I hg hm PyProof.Rows.boot_zip (PyProof.Rows.callWith_type1 (thn (ha.run pos pins s σ H _ I h) fun us s1 ⟨vs, H1, I1, r1, q1⟩ => ?_) hs hpl))
  obtain ⟨t, u, a, b, xs, ys, ex, qx, qy, q⟩ := q1
  subst ex
  obtain ⟨u1, u2, rfl, r, r'⟩ := vals2 r1
  cases r
  cases r'
  obtain ⟨its, rv, p1, _, la⟩ := sqA_he I1 qx
  obtain ⟨jts, rw2, p2, _, lb⟩ := sqA_he I1 qy
  refine zip_begins2 (begA t a its.toArray) (begA u b jts.toArray) p1 p2 fun h' hz hTI hTO h1 h2 hsz hk => wpAny_pyIter_zip hz ?_
  have I2 : Inv X pins σ H1 { s1 with heap := h' } := I1.kept (t' := s1.toks) hk
  have ge : ∀ c, c ∈ [s1.heap.objs.size + 4, s1.heap.objs.size + 2, s1.heap.objs.size + 3, s1.heap.objs.size, s1.heap.objs.size + 1] → s1.heap.objs.size ≤ c := fun c hc => by
    simp only [List.mem_cons, List.not_mem_nil, or_false] at hc
    rcases hc with z | z | z | z | z <;> rw [z]
    · exact Nat.le_add_right _ 4
    · exact Nat.le_add_right _ 2
    · exact Nat.le_add_right _ 3
    · exact Nat.le_refl _
    · exact Nat.le_add_right _ 1
  refine ⟨s1.heap.objs.size + 4, [s1.heap.objs.size + 4, s1.heap.objs.size + 2, s1.heap.objs.size + 3, s1.heap.objs.size, s1.heap.objs.size + 1], _, _, H1, rfl, I2,
    turn_zipA (zip_sep2 (fp1 := [a]) (fp2 := [b]) (fun c hc => ?_) (fun c hc => ?_)), ⟨hz, hTI, ⟨_, _, hTO⟩, itA_start h1, itA_start h2⟩, fun c hc => I1.fpOk (ge c hc) (I1.hok.fresh (ge c hc)), q⟩
  · rw [List.mem_singleton.mp hc]; exact la
  · rw [List.mem_singleton.mp hc]; exact lb

/-! ### a list or a tuple walked -/
def ItA' (K : PySem.W.Frag) (t : Bool) (a : Addr) : It := match t with
  | true => Itt K a
  | false => Itl K a
def iSeq (K : PySem.W.Frag) (tl : TE) : TI := fun σ H R => tl σ H fun x H1 => ∃ t a xs, x = .ref a ∧ SqA K t H1 a xs ∧ R (ItA' K t a) H1
theorem pi_seq {X : Cx} {tg l : Expr} {tl : TE} (hl : PE X l tl) : PI X tg l (iSeq X.K tl) := by
  refine ⟨fun pins s σ H R I h => ?_⟩
  refine thn (hl.run pins s σ H _ I h) fun v s1 ⟨x, H1, I1, r1, t, a, xs, e, hq, q⟩ => ?_
  subst e
  cases r1
  cases t with
  | true =>
    obtain ⟨its, rv, p, hz⟩ := I1.tuple (show SqT X.K H1 a xs from hq)
    refine wpAny_pyIter_tuple (show s1.heap.IsTuple a its.toArray from p) ?_
    have fr : ∀ b ∈ [s1.heap.objs.size], FpOk X pins H1 b := fun b hb => by
      rw [List.mem_singleton.mp hb]
      exact I1.fpOk (Nat.le_refl _) (I1.hok.fresh (Nat.le_refl _))
    exact ⟨s1.heap.objs.size, [s1.heap.objs.size], _, Itt X.K a, H1, rfl, I1.kept (t' := s1.toks) fun b o e => Heap.get?_push_of_some _ e, turn_tuple a _, ⟨_, Heap.get?_push_size _ rfl, rfl, rfl⟩, fr, q⟩
  | false =>
    obtain ⟨its, rv, p, hz⟩ := I1.list (show SqL X.K H1 a xs from hq)
    refine wpAny_pyIter_list p.isList ?_
    have fr : ∀ b ∈ [s1.heap.objs.size], FpOk X pins H1 b := fun b hb => by
      rw [List.mem_singleton.mp hb]
      exact I1.fpOk (Nat.le_refl _) (I1.hok.fresh (Nat.le_refl _))
    exact ⟨s1.heap.objs.size, [s1.heap.objs.size], _, Itl X.K a, H1, rfl, I1.kept (t' := s1.toks) fun b o e => Heap.get?_push_of_some _ e, turn_list a _, ⟨_, Heap.get?_push_size _ rfl, rfl, rfl⟩, fr, q⟩
end RX

namespace RX
open PySem PySem.Spec PyProof.Rows L2
section
variable {X : Cx}

/-! ### list + list, whatever holds them -/
def rCatL (K : PySem.W.Frag) : R2 := fun x y H Q => ∃ l b xs zs, x = .ref l ∧ y = .ref b ∧ SqL K H l xs ∧ SqL K H b zs ∧ xs.length + zs.length ≤ sizeLine ∧ ∀ p, H p = none → Q (.ref p) (upd H p (.lst (xs ++ zs)))
theorem op_catL : OpR X (binaryOp .Add) (rCatL X.K) := by
  intro pins s σ H x y v u Q I rx ry h
  obtain ⟨l, b, xs, zs, rfl, rfl, hl, hb, hz, q⟩ := h
  cases rx
  cases ry
  obtain ⟨its, r, p1, _⟩ := I.list hl
  obtain ⟨jts, r2, p2, _⟩ := I.list hb
  obtain ⟨⟨c1, d1, a1, s1⟩, o1, k1, n1, e1⟩ := id p1.isList
  obtain ⟨⟨c2, d2, a2, s2⟩, o2, k2, n2, e2⟩ := id p2.isList
  simp only at k1 e1 k2 e2
  subst k1 e1 k2 e2
  have ea : its.toArray ++ jts.toArray = (its ++ jts).toArray := by simp
  have hlen : its.length + jts.length ≤ sizeLine := by rw [← r.length, ← r2.length]; exact hz
  refine concat_meets ⟨_, o1, rfl⟩ ⟨_, o2, rfl⟩ noFill_list_add seq_list_add PySem.F.slot_list_add PySem.F.entry_list_add (PySem.F.args_list_add_2 _ _)
    (list_addW l b its.toArray jts.toArray n1 n2 d1 d2 s1 s2 (by simpa using hlen)) ⟨o1, o2, ?_⟩
  rw [ea]
  exact ⟨.ref _, _, I.lnew (t' := s.toks) (r.append r2) (by rw [List.length_append]; exact hz), rfl, q _ I.fresh⟩
def rCatS : R2 := fun x y H Q => ∃ i j, x = .str i ∧ y = .str j ∧ i.length + j.length ≤ sizeLine ∧ Q (.str (i ++ j)) H
theorem op_catS : OpR X (binaryOp .Add) rCatS := op_add_str

/-! ### a tuple times an int -/
def rRepA (K : PySem.W.Frag) : R2 := fun x y H Q => ∃ l k xs, x = .ref l ∧ y = .int k ∧ SqT K H l xs ∧ xs ≠ [] ∧ -1000 ≤ k ∧ k ≤ 1000 ∧ xs.length ≤ 1000 ∧ (k = 1 → Q (.ref l) H) ∧ (k ≠ 1 → ∀ p, H p = none → Q (.ref p) (upd H p (.tup (List.replicate k.toNat xs).flatten)))
theorem op_repA : OpR X (binaryOp .Mult) (rRepA X.K) := by
  intro pins s σ H x y v u Q I rx ry h
  obtain ⟨l, k, xs, rfl, rfl, hT, hne, h1, h2, hz, q1, q2⟩ := h
  by_cases big : 2 ≤ k
  · exact op_repT pins s σ H _ _ v u Q I rx ry ⟨l, k, xs, rfl, rfl, hT, hne, big, h2, hz, q2 (by omega)⟩
  cases rx
  obtain ⟨t, rfl⟩ := ry
  obtain ⟨its, r, ⟨⟨cls, dd, data, sl⟩, ho, hc, n, hd⟩, hs⟩ := I.tuple hT
  simp only at hc hd
  subst hc hd
  have hi : its.toArray.isEmpty = false := by
    cases its with
    | nil => cases r; exact absurd rfl hne
    | cons a b => rfl
  by_cases one : k = 1
  · subst one
    exact wpAny_binaryOp_repeat_ref (T := "tuple") (U := "int") (by decide) ⟨_, ho, rfl⟩ (fun s' => typeIs_int s' 1 t) noFill_tuple_mul PySem.F.fills_int_mul PySem.F.slot_int_rmul repeat_tuple PySem.F.slot_int_index.lookup
      (call_meets PySem.F.slot_int_rmul (typeIs_int s 1 t) PySem.F.entry_int_rmul (PySem.F.args_int_rmul_2 _ _) (int_rmul_tuple 1 t l its.toArray n dd sl)
        ⟨ho, rfl, ⟨_, ho, rfl⟩, call_meets PySem.F.slot_tuple_mul ⟨_, ho, rfl⟩ PySem.F.entry_tuple_mul (PySem.F.args_tuple_mul_2 _ _) (tup_mul_one l its.toArray n dd sl t) ⟨ho, ⟨.ref l, H, I, rfl, q1 rfl⟩⟩⟩)
  · have c0 : (decide (k < -(2 ^ 63)) || decide (k ≥ 2 ^ 63)) = false := by
      rw [decide_eq_false (by omega), decide_eq_false (by omega)] <;> rfl
    refine wpAny_binaryOp_repeat_ref (T := "tuple") (U := "int") (by decide) ⟨_, ho, rfl⟩ (fun s' => typeIs_int s' k t) noFill_tuple_mul PySem.F.fills_int_mul PySem.F.slot_int_rmul repeat_tuple PySem.F.slot_int_index.lookup
      (call_meets PySem.F.slot_int_rmul (typeIs_int s k t) PySem.F.entry_int_rmul (PySem.F.args_int_rmul_2 _ _) (int_rmul_tuple k t l its.toArray n dd sl)
        ⟨ho, rfl, ⟨_, ho, rfl⟩, call_meets PySem.F.slot_tuple_mul ⟨_, ho, rfl⟩ PySem.F.entry_tuple_mul (PySem.F.args_tuple_mul_2 _ _) (tup_mul_none l its.toArray n dd sl k t c0 (by omega) hi) ⟨ho, ?_⟩⟩)
    have hk : (List.replicate k.toNat xs).flatten = [] := by rw [show k.toNat = 0 by omega]; rfl
    have q3 := q2 one s.heap.objs.size (I.hok.fresh (Nat.le_refl _))
    rw [hk] at q3
    exact ⟨.ref s.heap.objs.size, _, I.laid (t' := s.toks) (o := .tup []) (fun b ob q => Heap.get?_push_of_some _ q) (Nat.le_refl _) ⟨Nat.zero_le _, [], .nil, ⟨_, Heap.get?_push_size _ rfl, rfl, _, rfl⟩⟩, rfl, q3⟩

/-! ### xs[i], for xs[i] op= e -/
def gIxL (K : PySem.W.Frag) : V → V → Hp → VK → Prop := fun o i H Q => ∃ p xs j v, o = .ref p ∧ i = .int (j : Nat) ∧ SqL K H p xs ∧ xs[j]? = some v ∧ Q v H
theorem get_ixL : PGet X (gIxL X.K) := by
  intro pins s σ H o i ov iv Q I ro ri h
  obtain ⟨p, xs, j, v, rfl, rfl, hq, he, q⟩ := h
  cases ro
  obtain ⟨t, rfl⟩ := ri
  obtain ⟨its, r, pl, hz⟩ := I.list hq
  obtain ⟨w, ew, rw'⟩ := r.get he
  have hj := (List.getElem?_eq_some_iff.mp he).1
  have hn := line63
  exact wpAny_getItem_list pl.isList (by omega) (by omega) (by simpa using ew) ⟨v, H, I, rw', q⟩
end
end RX

namespace RX
open PySem PySem.Spec PyProof.Rows L2

/-! ### repr of data, where no repr is under way -/
def rReprD (K : PySem.W.Frag) : List V → Hp → VK → Prop := fun xs H Q => ∃ v d, xs = [v] ∧ Dp K H v d ∧ d.showable = true ∧ d.hasDict = false ∧ d.depth ≤ 40 ∧ d.shown.length ≤ sizeLine ∧ Q (.str d.shown) H
section
variable {X : Cx}
theorem call_reprD {k : Nat} (hr : Room k X.A) (hg : X.A.guards = some []) : CallR X (.builtin "repr") (rReprD X.K) := by
  intro pins s σ H xs us Q I r h
  obtain ⟨v, d, rfl, hd, sh, nd, dep, sz, q⟩ := h
  obtain ⟨u, rfl, rv⟩ := vals1 r
  have hu := hr.units
  have fin : ∀ (h' : Heap) (u tk : Tok), (∀ b o, s.heap.get? b = some o → h'.get? b = some o) → EP X pins σ Q (.str d.shown u) { s with heap := h', toks := tk } :=
    fun h' u tk hk => ⟨.str d.shown, H, I.kept (t' := tk) hk, ⟨u, rfl⟩, q⟩
  obtain ⟨as, rd⟩ := Dp.reads I d v u hd rv
  cases d with
  | list ds =>
    cases hd
    cases rv
    exact repr_of_reads' rd sh (PyData.noDict_hsm nd) hg (by omega) (fun _ _ e => e) fin sz
  | tuple ds =>
    cases hd
    cases rv
    exact repr_of_reads' rd sh (PyData.noDict_hsm nd) hg (by omega) (fun _ _ e => e) fin sz
  | int i =>
    cases hd
    obtain ⟨t, rfl⟩ := rv
    exact PySem.P.repr_of_int (of_decide_eq_true sh) (fin s.heap _ _ fun _ _ e => e)
  | none =>
    cases hd
    cases rv
    exact PySem.P.repr_of_none (fin s.heap _ _ fun _ _ e => e)
  | bool b =>
    cases hd
    cases rv
    exact PySem.P.repr_of_bool (fin s.heap _ _ fun _ _ e => e)
  | str x =>
    cases hd
    obtain ⟨t, rfl⟩ := rv
    exact PySem.P.repr_of_str (fin s.heap _ _ fun _ _ e => e) sz
  | dict kvs => simp [PyData.hasDict] at nd
end

/-! ### a def's promise where no repr is under way -/
/-- the promise: arguments, heap, wanted end -/
abbrev SpG := List V → Hp → VK → Prop
structure FnG (P : Program) (w : World) (K : PySem.W.Frag) (mg : Str → Option Value) (base : Heap) (k : Nat) (f : Addr) (fd : FuncData) (ps : List Str) (sp : SpG) : Prop where
  many : ∀ vs H Q, sp vs H Q → vs.length = ps.length
  runs : ∀ (A : Around) (outer : List Env) (s : Shared) (H : Hp) (args : Args) (us : List Value) (vs : List V) (Q : VK), Room k A → A.guards = some [] → Env0 P w K mg base A outer s H →
    BindsTo s fd args (ps.zip us) → Vals vs us → sp vs H Q → codeAny (model P w) A (.call (.ref f) args) (CR CX0 outer P w H s Q E0) s
section
variable {P : Program} {w : World} {K : PySem.W.Frag} {mg : Str → Option Value} {base : Heap}
theorem FnG.mono {j k : Nat} {f : Addr} {fd : FuncData} {ps : List Str} {sp : SpG} (F : FnG P w K mg base j f fd ps sp) (h : j ≤ k) : FnG P w K mg base k f fd ps sp :=
  ⟨F.many, fun A outer s H args us vs Q hr => F.runs A outer s H args us vs Q (hr.mono h)⟩
/-- a def by its body -/
theorem FnG.of {x qual : Str} {st : Stmt} {f : Addr} {fd : FuncData} {N ps : List Str} {k : Nat} {sp : SpG} (F : Fun K x qual st f fd) (S : FnScope N ps (defScope st)) (many : ∀ vs H Q, sp vs H Q → vs.length = ps.length)
    (body : ∀ (cdv : Value) (A : Around) (outer : List Env) (s : Shared) (H : Hp), Room k (A.deeper (envOfC qual (defScope st) s.heap.objs.size f cdv)) → A.guards = some [] →
      ∃ t, PSs (cxOf CX0 P w K mg base N qual (defScope st) f cdv A outer s H E0).nox (defBody st) t ∧ ∀ vs H Q, sp vs H Q → t { nx := fun _ H' => Q .non H', rt := Q } (start N vs) H) : FnG P w K mg base (k + 1) f fd ps sp := by
  refine ⟨many, fun A outer s H args us vs Q hr hg e0 hb r hsp => ?_⟩
  obtain ⟨oc, od, kV, doc, pm, an, cdv, ct, osl, rfl, lk, hcd⟩ := F.ex
  have KX : K.In s.heap := e0.mod.kin.keeps fun b o e => (e0.bs b o e).1
  have lim : s.heap.NoLimit := e0.mod.nolimit.keeps fun b o e => (e0.bs b o e).1
  have kinds : ∀ y ∈ ps.zip us, (defScope st).names.lookup y.1 = some .local ∨ ((defScope st).names.lookup y.1 = some .cell ∧ ((cellsFrom (s.heap.objs.size + 1) (defScope st).names []).lookup y.1).isSome = true) := fun y hy =>
    (S.par y.1 (List.of_mem_zip hy).1).imp id fun q => ⟨q, PySem.W.cellsFrom_some _ _ _ (.inl q)⟩
  refine codeAny_call_function hr.depth (KX _ _ lk) rfl S.co S.gen rfl (PySem.W.codeRec_of KX hcd) (hb _ _ _ _ ?_)
  refine wpAny_newFunctionEnv_cells S.kind kinds fun env he s1 x => ?_
  subst he
  refine ⟨lim.keeps x.toInCall.keep, codeAny_func ?_⟩
  have I := inv_start (CX := CX0) (E := E0) (qual := qual) (f := f) (cd := cdv) S hr.hd e0 (many _ _ _ hsp) r x
  obtain ⟨t, ht, q⟩ := body cdv A outer s H (hr.deeper _) hg
  refine wpAny_mono (ht.nox.run [] s1 (start N vs) H _ I (q vs H Q hsp)) (fun fl s' hs => ?_) fun e s' hs => hs
  cases fl with
  | ret u =>
    obtain ⟨v, σ', H', J, rv, q⟩ := hs
    exact ⟨v, H', J.os, J.bare, J.base, J.hok, rv, q⟩
  | next =>
    obtain ⟨σ', H', J, q⟩ := hs
    exact ⟨V.non, H', J.os, J.bare, J.base, J.hok, rfl, q⟩
  | brk => obtain ⟨_, _, _, q⟩ := hs; exact q.elim
  | cont => obtain ⟨_, _, _, q⟩ := hs; exact q.elim
end

section
variable {X : Cx} {k : Nat} {f : Addr} {fd : FuncData} {ps : List Str} {sp : SpG} {x : Str} {p pos : Pos} {e : Expr} {es : List Expr} {t : TA}
def tCallG (sp : SpG) (t : TA) : TE := fun σ H Q => t σ H fun vs H1 => sp vs H1 Q
theorem run_fnG {pins : List (Addr × Obj)} {σ : L2.St} {H : Hp} {s : Shared} {Q : VK} {us : List Value} {vs : List V} (F : FnG X.prog X.w X.K X.mg X.base k f fd ps sp) (hr : Room k X.A) (hg : X.A.guards = some []) (hb : Binds X.K fd ps [])
    (I : Inv X pins σ H s) (r : Vals vs us) (h : sp vs H Q) : wpAny (model X.prog X.w) X.A (call (.ref f) us) (EP X pins σ Q) X.xe s := by
  have hl : (us ++ []).length = ps.length := by rw [List.append_nil, ← r.length]; exact F.many _ _ _ h
  have bt := hb s us I.kIn hl
  rw [List.append_nil] at bt
  refine wpAny_call (codeAny_mono (F.runs X.A X.stack s H ⟨us, []⟩ us vs Q hr hg I.env0 bt r h) fun res s' hq => ?_)
  cases res with
  | error e => exact (show False from hq).elim
  | ok fl =>
    cases fl with
    | ret u => exact I.after hq
    | next => exact False.elim hq
    | brk => exact False.elim hq
    | cont => exact False.elim hq
theorem pe_callG (F : FnG X.prog X.w X.K X.mg X.base k f fd ps sp) (hr : Room k X.A) (hgu : X.A.guards = some []) (hg : Gl X x) (hm : X.mg x = some (.ref f)) (hk : PySem.W.keepIn X.K (.ref f) = true) (hb : Binds X.K fd ps [])
    (ha : PA X (e :: es) t) (hdb : (x == ("__debug__" : Str)) = false := by decide) (he : starEach (e :: es) X.env = (false, eval e X.env) :: starEach es X.env := by rfl) (hpl : (backTo pos (starEach es X.env)).any (·.1) = false := by rfl) :
    PE X (.Call (.Name x p) (e :: es) [] pos) (tCallG sp t) :=
  ⟨fun pins s σ H Q I h => wpAny_Call_Name_kw (ld_glob I hg hm (PySem.W.callWith_K (h₀ := X.base) I.ok.mod.kin hk
    (thn (ha.run pos pins s σ H _ I h) fun us s1 ⟨vs, H1, I1, r, q⟩ => ⟨I1.kIn, run_fnG F hr hgu hb I1 r q⟩) he hpl) hdb)⟩
end
end RX

namespace RX
open PySem PySem.Spec PyProof.Rows L2

/-! ### a law's end by such a promise -/
section
variable {P : Program} {w : World} {K : PySem.W.Frag} {mg mb : Str → Option Value} {k : Nat} {fa a : Addr} {fd : FuncData} {x : Str} {sp : SpG} {s1 : Shared} {vs : List Value} {ns : List Int}
/-- from a heap of which nothing but a is tracked, a locked -/
theorem run_law (KX : K.In s1.heap) (hns : s1.heap.Ns mainGlobals mg) (hb : s1.heap.Ns builtinsNs mb) (hbb : ∀ x : Str, x ≠ "__name__" → mb x = bootBuiltins x) (hlim : s1.heap.NoLimit) (hg : s1.gens = #[])
    (ha : s1.heap.get? a = some { cls := .type "list", data := .seq vs.toArray }) (hr : Room k callerA)
    (F : ∀ base : Heap, K.In base → base.Ns mainGlobals mg → ∃ fd : FuncData, Binds K fd [x] [] ∧ FnG P w K mg base k fa fd [x] sp)
    (H : Hp) (hO : Only H) (hsp : sp [.ref a] H (fun v _ => v = .bl true)) (hok : HOk P w H s1.heap) (hA : ∀ b, H b ≠ none → b = a) (hK : H a ≠ none → K.lookup a = none) :
    codeAny (model P w) callerA (.call (.ref fa) ⟨[.ref a], []⟩) (fun r s' => r = .ok (.ret (.bool true)) ∧ OldK s1.heap s'.heap ∧ s'.os = s1.os ∧ AllBare s'.gens) s1 := by
  -- a dict of the heap is not tracked
  have nodict : ∀ {b : Addr} {o : Obj} {es : Array DictEntry} {ep : Nat}, s1.heap.get? b = some o → o.data = .dict es ep → H b = none := fun {b o es ep} e d => by
    by_cases hbn : H b = none
    · exact hbn
    · rw [hA b hbn, ha] at e
      rw [← Option.some.inj e] at d
      exact nomatch d
  have keepNs : ∀ {b : Addr} {m : Str → Option Value}, s1.heap.Ns b m → (hidT s1.heap H).Ns b m := fun n => by
    obtain ⟨o, es, ep, e, d, r⟩ := n
    exact ⟨o, es, ep, hidT_get e (nodict e d), d, r⟩
  have kin : K.In (hidT s1.heap H) := fun b o e => hidT_get (KX b o e) (by
    by_cases hbn : H b = none
    · exact hbn
    · have e1 := hA b hbn
      rw [e1] at hbn e
      rw [hK hbn] at e; cases e)
  have nl : (hidT s1.heap H).NoLimit := by
    obtain ⟨mc, h1, h2⟩ := hlim
    exact ⟨mc, keepNs h1, h2⟩
  have M : Mod K mg (hidT s1.heap H) := ⟨kin, keepNs hns, ⟨mb, keepNs hb, hbb⟩, nl⟩
  have nof : ∀ b ∈ frs ([] : List Env), H b = none := fun b z => absurd (show b ∈ ([] : List Addr) from z) (by simp)
  have e0 : Env0 P w K mg (hidT s1.heap H) callerA [] s1 H := ⟨rfl, M, fun _ _ e => of_hidT e, Nat.le_of_eq (hidT_size _ _), trivial, nof, hok, .of_eq hg⟩
  obtain ⟨fd, hbind, F⟩ := F _ kin (keepNs hns)
  have hbi : BindsTo s1 fd ⟨[.ref a], []⟩ ([x].zip [.ref a]) := by
    have := hbind s1 [.ref a] KX rfl
    rwa [List.append_nil] at this
  refine codeAny_mono (F.runs callerA [] s1 H ⟨[.ref a], []⟩ [.ref a] [.ref a] _ hr rfl e0 hbi (.cons rfl .nil) hsp) fun r s' h => ?_
  match r, h with
  | .ok (.ret u), ⟨v, H', os, bare, un, hok', rv, q⟩ =>
    subst q
    have eu : u = Value.bool true := rv
    subst eu
    refine ⟨rfl, OldK.of_keep fun b o e => ?_, os, bare⟩
    rcases hO b with z | ⟨ob, xs, z⟩
    · exact un.keep b o e z (fun m => absurd (show b ∈ ([] : List Addr) from m) (by simp)) (by simp)
    · have e1 := (hok b _ z).1
      have e2 := (hok' b _ (un.frzs b ob _ z)).1
      rw [e] at e1
      rw [Option.some.inj e1]; exact e2
theorem law_callG (KX : K.In s1.heap) (hns : s1.heap.Ns mainGlobals mg) (hb : s1.heap.Ns builtinsNs mb) (hbb : ∀ x : Str, x ≠ "__name__" → mb x = bootBuiltins x) (hlim : s1.heap.NoLimit) (hg : s1.gens = #[])
    (ha : s1.heap.get? a = some { cls := .type "list", data := .seq vs.toArray }) (hi : IntsAre vs ns) (hl : ns.length ≤ sizeLine) (hr : Room k callerA)
    (F : ∀ base : Heap, K.In base → base.Ns mainGlobals mg → ∃ fd : FuncData, Binds K fd [x] [] ∧ FnG P w K mg base k fa fd [x] sp)
    (hsp : ∀ H : Hp, Only H → SqL K H a (ns.map V.int) → sp [.ref a] H (fun v _ => v = .bl true)) :
    codeAny (model P w) callerA (.call (.ref fa) ⟨[.ref a], []⟩) (fun r s' => r = .ok (.ret (.bool true)) ∧ OldK s1.heap s'.heap ∧ s'.os = s1.os ∧ AllBare s'.gens) s1 := by
  have rv := vals_ints hi
  have hz : (ns.map V.int).length ≤ sizeLine := by rw [List.length_map]; exact hl
  cases hk : K.lookup a with
  | some o =>
    have eo : o = _ := Option.some.inj ((KX a o hk).symm.trans ha)
    subst eo
    have sz : vs.toArray.size ≤ sizeLine := by rw [List.size_toArray, hi.length]; exact hl
    exact run_law KX hns hb hbb hlim hg ha hr F (fun _ => none) (fun _ => .inl rfl) (hsp _ (fun _ => .inl rfl) (.inr ⟨_, vs.toArray, _, hk, rfl, rfl, rfl, sz, by simpa using rv⟩)) (fun _ _ z => nomatch z) (fun _ z => absurd rfl z) fun z => absurd rfl z
  | none =>
    let ob : Obj := { cls := .type "list", data := .seq vs.toArray }
    let H : Hp := upd (fun _ => none) a (.frz ob (.lst (ns.map V.int)))
    have at_ : H a = some (.frz ob (.lst (ns.map V.int))) := upd_same
    have off : ∀ b, b ≠ a → H b = none := fun b n => upd_ne n
    have only : Only H := fun b => by
      by_cases e : b = a
      · rw [e]; exact .inr ⟨_, _, at_⟩
      · exact .inl (off b e)
    refine run_law KX hns hb hbb hlim hg ha hr F H only (hsp H only (.inl (.inr ⟨ob, at_⟩))) (fun b u z => ?_) (fun b z => ?_) fun _ => hk
    · by_cases e : b = a
      · subst e
        rw [at_] at z; cases z
        exact ⟨ha, hz, vs, _, rv, ha⟩
      · rw [off b e] at z; cases z
    · by_cases e : b = a
      · exact e
      · exact absurd (off b e) z
end
/-- the goal that k_head leaves -/
theorem walk_ofG {l : PySem.W.OpenLaw} {n k : Nat} {q : Program} {loose : List Str} {XP : (Str → Option Value) → Heap → Prop} {YP : World → Heap → Prop} {d : DefRec} {K : Params → PySem.W.Frag} {sp : World → SpG} {x : Str}
    (hn : l.most = some n) (hn2 : n ≤ sizeLine) (hdf : d.params.defaults = []) (hr : Room k callerA) (hY : ∀ (w : World) (h : Heap), YP w h → (K w.params).In h)
    (F : ∀ (w : World) (mg : Str → Option Value) (fa : Addr) (h : Heap), (K w.params).In h → h.Ns mainGlobals mg → mg d.name = some (.ref fa) →
      ∀ base : Heap, (K w.params).In base → base.Ns mainGlobals mg → ∃ fd : FuncData, Binds (K w.params) fd [x] [] ∧ FnG l.prog w (K w.params) mg base k fa fd [x] (sp w))
    (hsp : ∀ (w : World) (H : Hp) (a : Addr) (ns : List Int), ns.length ≤ n → Only H → SqL (K w.params) H a (ns.map V.int) → sp w [.ref a] H (fun v _ => v = .bl true)) :
    PySem.W.WalkO q loose XP YP l.row.toRowW d [] (fun f vs => PySem.call f vs) := by
  refine Att.attach_call hn hdf fun w s₀ s₁ mg mb fa o pm cd doc a vs ns G Y ho hd hcd hmg hobj hints hlen hg => ?_
  exact law_callG (hY w _ Y) G.T.g G.T.b G.T.builtins G.T.nolimit hg hobj hints (Nat.le_trans hlen hn2) hr (F w mg fa _ (hY w _ Y) G.T.g hmg) fun H hO hS => hsp w H a ns hlen hO hS
end RX

namespace RX
open PySem PySem.Spec PyProof.Rows L2

/-! ### enumerate of a list or a tuple -/
theorem enum_new1 {v : Value} {o : Obj} {Hp0 : Heap → Prop} (B : Begins v o Hp0) :
    Meets (Builtin.«enumerate.__new__» ⟨[.type "enumerate", v], []⟩) (fun _ R s => Hp0 s.heap ∧
      R (.ok (.ret (.ref (s.heap.push o).objs.size))) { s with heap := (s.heap.push o).push { cls := .type "enumerate", data := .fields #[.none, .bool false, .ref s.heap.objs.size, rawInt 0, .none, .none] } }) :=
  .of_wp fun prog w A R s h => by
    obtain ⟨hp, g, d, tk, os⟩ := s
    obtain ⟨b1, h⟩ := h
    have hs := sub_enumerate
    have it1 : ∀ {A' : Around} {E : Value → Shared → Prop} {Q : Value → Shared → Prop}, Q (.ref hp.objs.size) ⟨hp.push o, g, d, tk, os⟩ → wpAny (model prog w) A' (pyIter v) Q E ⟨hp, g, d, tk, os⟩ :=
      fun q => B.iter prog w _ _ ⟨hp, g, d, tk, os⟩ _ b1 q
    wp_walk using it1
    refine wpAny_stack_any fun st => wpAny_pure ?_
    split
    · rename_i c _ _ _ _ _
      cases (c == Value.type "enumerate") <;>
        (wp_walk using it1
         exact ⟨_, rfl, h⟩)
    · wp_walk using it1
      exact ⟨_, rfl, h⟩
theorem enum_call1 {prog : Program} {w : World} {A : Around} {E : Value → Shared → Prop} {s : Shared} {v : Value} {o : Obj} {Hp0 : Heap → Prop} {Q : Value → Shared → Prop} (B : Begins v o Hp0) (h1 : Hp0 s.heap)
    (h : ∀ h', IsEnum h' (s.heap.objs.size + 1) s.heap.objs.size 0 .none → h'.get? s.heap.objs.size = some o → (∀ b o, s.heap.get? b = some o → h'.get? b = some o) → Q (.ref (s.heap.objs.size + 1)) { s with heap := h' }) :
    wpAny (model prog w) A (call (.type "enumerate") [v]) Q E s := by
  refine callType_new F.called_enumerate (by decide) (F.typeCall_enumerate_1 _) (F.newCall_enumerate_1 _) (fun obj => F.args_object_init_2 obj _) F.entry_enumerate_new (enum_new1 B) ⟨h1, ?_⟩
  have hz : (s.heap.push o).objs.size = s.heap.objs.size + 1 := Heap.size_push ..
  have he := Heap.get?_push_size (s.heap.push o) (o := { cls := .type "enumerate", data := .fields #[.none, .bool false, .ref s.heap.objs.size, rawInt 0, .none, .none] }) rfl
  rw [hz] at he
  show _ ∧ _
  rw [hz]
  exact ⟨⟨_, he, rfl⟩, h _ he (Heap.get?_push_of_some _ (Heap.get?_push_size _ B.free)) fun b o x => Heap.get?_push_of_some _ (Heap.get?_push_of_some _ x)⟩
def IteA (K : PySem.W.Frag) (t : Bool) (a : Addr) : It :=
  ⟨fun i H => ∃ (xs : List V) (x : V), SqA K t H a xs ∧ xs[i]? = some x, fun i H v H' => ∃ T x, v = .ref T ∧ H T = none ∧ H' = upd H T (.tup [.int (i : Nat), x]) ∧ ∀ xs, SqA K t H a xs → xs[i]? = some x,
    fun i H => ∃ xs : List V, SqA K t H a xs ∧ i = xs.length⟩
theorem turn_enumA {P : Program} {w : World} {K : PySem.W.Frag} {elts : List Expr} {kk : Nat} {tpos : Pos} {t : Bool} {a e it : Addr} (ne : e ≠ it) :
    Turn P w K (.Tuple elts kk tpos) (IteA K t a) [e, it] e (fun i h => (∃ old, IsEnum h e it (0 + (i : Int)) old) ∧ ItA t h it a i) where
  mem := by simp
  obj := fun i h st c hc => by
    obtain ⟨⟨old, he⟩, h1⟩ := st
    simp only [List.mem_cons, List.not_mem_nil, or_false] at hc
    rcases hc with q | q <;> rw [q]
    · exact ⟨_, he, fun v q => nomatch q⟩
    · exact itA_obj h1
  keep := fun i h h' st k => by
    obtain ⟨⟨old, he⟩, h1⟩ := st
    exact ⟨⟨old, k e (by simp) _ he⟩, itA_at h1 (k it (by simp))⟩
  item := by
    intro X hP hw hK hc i pins s σ H E I hf st hg
    subst hP hw hK
    obtain ⟨he, h1⟩ := st
    obtain ⟨xs, x, qx, ex⟩ := hg
    obtain ⟨its, rv, p1, _, la⟩ := sqA_he I qx
    have hx : i < its.toArray.size := by
      have q := (List.getElem?_eq_some_iff.mp ex).1
      rw [List.size_toArray, ← rv.length]; exact q
    have hh : X.A.in1.handled = none := I.ok.hd hc
    have ea : a ≠ e := sqA_ne I qx (hf e (by simp))
    have W := GoesN.enumFrom (prog := X.prog) (w := X.w) (A := X.A) (elts := elts) (x1 := kk) (pos := tpos) 0
      (drA hh t it a (sqA_ne I qx (hf it (by simp))) its.toArray) e ne (by simp [ne, Ne.symm ea]) (by simp)
    refine thn (W.goes i s _ _ hx ⟨he, h1, p1⟩ fun v h' tk hY st' hk _ => ?_) fun r s1 ⟨v, hr, q⟩ => ⟨v, hr, q⟩
    obtain ⟨T, t1, vx, rfl, hn, gx, hT⟩ := hY
    obtain ⟨o, eo, hcl, n, hd⟩ := hT
    have rx : RelV x vx := by
      obtain ⟨v0, e0, r0⟩ := rv.get ex
      have : vx = v0 := Option.some.inj (gx.symm.trans (by simpa using e0))
      rw [this]; exact r0
    have ei : (0 : Int) + (i : Int) = ((i : Nat) : Int) := Int.zero_add _
    rw [ei] at hd
    have new : ObjOk X.prog X.w (upd H T (.tup [.int (i : Nat), x])) h' T (.tup [.int (i : Nat), x]) := ⟨by show 2 ≤ sizeLine; decide, [.int (i : Nat) t1, vx], .cons ⟨_, rfl⟩ (.cons rx .nil), ⟨o, eo, hcl, n, hd⟩⟩
    have I1 : Inv X pins σ (upd H T (.tup [.int (i : Nat), x])) { s with heap := h', toks := tk } := I.turnedNew (ch := [e, it]) (fun c o hb q => hk c o hb q) hf hn new
    refine ⟨.ref T, _, I1, rfl, ⟨T, x, rfl, I.hok.fresh hn, rfl, fun l hl => by rw [sqA_inj I hl qx]; exact ex⟩, ⟨st'.1, st'.2.1⟩, fun c hcm => ?_⟩
    have hlt : c < s.heap.objs.size := by
      simp only [List.mem_cons, List.not_mem_nil, or_false] at hcm
      obtain ⟨_, hE⟩ := he
      rcases hcm with q | q <;> rw [q]
      · exact Heap.lt_size hE
      · obtain ⟨_, e, _⟩ := itA_obj h1; exact Heap.lt_size e
    rw [upd_ne (Nat.ne_of_lt (Nat.lt_of_lt_of_le hlt hn))]
    exact (hf c hcm).1
  done := by
    intro X hP hw hK hc i pins s σ H E I hf st hg
    subst hP hw hK
    obtain ⟨he, h1⟩ := st
    obtain ⟨xs, qx, en⟩ := hg
    obtain ⟨its, rv, p1, _, la⟩ := sqA_he I qx
    have hh : X.A.in1.handled = none := I.ok.hd hc
    have ea : a ≠ e := sqA_ne I qx (hf e (by simp))
    have W := GoesN.enumFrom (prog := X.prog) (w := X.w) (A := X.A) (elts := elts) (x1 := kk) (pos := tpos) 0
      (drA hh t it a (sqA_ne I qx (hf it (by simp))) its.toArray) e ne (by simp [ne, Ne.symm ea]) (by simp)
    have en2 : i = its.toArray.size := by rw [List.size_toArray, ← rv.length]; exact en
    subst en2
    exact W.stops s _ _ ⟨he, h1, p1⟩ fun h' tk hk _ => I.turnedL (t' := tk) (ch := [e, it]) (fun c o hb q => hk c o hb q) hf
  self := fun A i s Q E st h => by
    obtain ⟨⟨old, he⟩, _⟩ := st
    exact wpAny_pyIter_enum he h
def iEnumA (K : PySem.W.Frag) (ta : TA) : TI := fun σ H R => ta σ H fun vs H1 => ∃ t a xs, vs = [.ref a] ∧ SqA K t H1 a xs ∧ R (IteA K t a) H1
theorem pi_enumA {X : Cx} {e : Expr} {ta : TA} {p pos tpos : Pos} {elts : List Expr} {kk : Nat} (hg : Gl X "enumerate") (hm : X.mg "enumerate" = none) (ha : PA X [e] ta) (hs : starEach [e] X.env = [(false, eval e X.env)] := by rfl) :
    PI X (.Tuple elts kk tpos) (.Call (.Name "enumerate" p) [e] [] pos) (iEnumA X.K ta) := by
  refine ⟨fun pins s σ H R I h => ?_⟩
  refine Call_ (ld_blt I hg hm boot_enumerate (PyProof.Rows.callWith_type1 (thn (ha.run pos pins s σ H _ I h) fun us s1 ⟨vs, H1, I1, r1, q1⟩ => ?_) hs rfl))
  obtain ⟨t, a, xs, ex, hq, q⟩ := q1
  subst ex
  obtain ⟨u, rfl, r⟩ := vals1 r1
  cases r
  obtain ⟨its, rv, p1, _, la⟩ := sqA_he I1 hq
  refine enum_call1 (begA t a its.toArray) p1 fun h' he hit hk => wpAny_pyIter_enum he ?_
  have I2 : Inv X pins σ H1 { s1 with heap := h' } := I1.kept (t' := s1.toks) hk
  have ge : ∀ c, c ∈ [s1.heap.objs.size + 1, s1.heap.objs.size] → s1.heap.objs.size ≤ c := fun c hc => by
    simp only [List.mem_cons, List.not_mem_nil, or_false] at hc
    rcases hc with z | z <;> rw [z]
    · exact Nat.le_add_right _ 1
    · exact Nat.le_refl _
  exact ⟨s1.heap.objs.size + 1, [s1.heap.objs.size + 1, s1.heap.objs.size], _, _, H1, rfl, I2, turn_enumA (Nat.succ_ne_self _), ⟨⟨.none, he⟩, itA_start hit⟩, fun c hc => I1.fpOk (ge c hc) (I1.hok.fresh (ge c hc)), q⟩

/-! ### a statement by one of two readings -/
theorem PS.either {X : Cx} {st : Stmt} {t u : TS} (h : PS X st t) (h' : PS X st u) : PS X st (fun D σ H => t D σ H ∨ u D σ H) :=
  ⟨fun pins s σ H D I q => q.elim (h.run pins s σ H D I) (h'.run pins s σ H D I)⟩
theorem PE.either {X : Cx} {e : Expr} {t u : TE} (h : PE X e t) (h' : PE X e u) : PE X e (fun σ H Q => t σ H Q ∨ u σ H Q) :=
  ⟨fun pins s σ H Q I q => q.elim (h.run pins s σ H Q I) (h'.run pins s σ H Q I)⟩
end RX

namespace RX
open PySem PySem.Spec PyProof.Rows L2
/-! ### new tuples of which it is known that they have no dict -/
section
variable {X : Cx} {es : List Expr} {pos : Pos} {t : TA} {pins : List (Addr × Obj)} {σ : L2.St} {H : Hp} {s : Shared}
theorem laidK {its : List Value} {xs : List V} (I : Inv X pins σ H s) (r : Vals xs its) (hz : xs.length ≤ sizeLine) :
    Inv X pins σ (upd H s.heap.objs.size (.frz { cls := .type "tuple", data := .seq its.toArray } (.tup xs))) { s with heap := s.heap.push { cls := .type "tuple", data := .seq its.toArray } } :=
  I.laid (t' := s.toks) (o := .frz { cls := .type "tuple", data := .seq its.toArray } (.tup xs)) (fun b ob q => Heap.get?_push_of_some _ q) (Nat.le_refl _) ⟨Heap.get?_push_size _ rfl, hz, its, r, IsTup.new _ _⟩
def KeepT (H : Hp) (Q : VK) (xs : List V) : Prop := ∀ p o, H p = none → o.dict = none → Q (.ref p) (upd H p (.frz o (.tup xs)))
def tTupK (t : TA) : TE := fun σ H Q => t σ H fun xs H1 => xs.length ≤ sizeLine ∧ KeepT H1 Q xs
theorem pe_tupK {x1} (h : PA X es t) : PE X (.Tuple es x1 pos) (tTupK t) := by
  refine ⟨fun pins s σ H Q I hq => ?_⟩
  refine wpAny_Tuple_spliced (thn (h.run pos pins s σ H _ I hq) fun us s1 ⟨xs, H1, I1, r, z, q⟩ => ⟨by rw [← r.length]; exact z, ?_⟩)
  exact ⟨.ref s1.heap.objs.size, _, laidK I1 r z, rfl, q _ _ (I1.hok.fresh (Nat.le_refl _)) rfl⟩
def rTupOfK (K : PySem.W.Frag) : List V → Hp → VK → Prop := fun xs H Q => ∃ p ys, xs = [.ref p] ∧ ((SqL K H p ys ∧ KeepT H Q ys) ∨ (SqT K H p ys ∧ Q (.ref p) H))
theorem call_tupK : CallR X (.type "tuple") (rTupOfK X.K) := by
  intro pins s σ H xs us Q I r h
  obtain ⟨p, ys, rfl, h⟩ := h
  obtain ⟨u, rfl, rx⟩ := vals1 r
  cases rx
  rcases h with ⟨hq, q⟩ | ⟨hq, q⟩
  · obtain ⟨its, r', pl, hz⟩ := I.list hq
    have hlen := r'.length
    refine call_tuple_list pl.isList (fun h' kp => ?_) (by simp only [List.size_toArray] <;> omega)
    have I1 : Inv X pins σ H { s with heap := h' } := I.kept (t' := s.toks) kp
    exact ⟨.ref h'.objs.size, _, laidK I1 r' hz, rfl, q _ _ (I1.hok.fresh (Nat.le_refl _)) rfl⟩
  · obtain ⟨its, r', pl, hz⟩ := I.tuple hq
    exact call_tuple_same pl ⟨.ref p, H, I, rfl, q⟩
def rCatK (K : PySem.W.Frag) : R2 := fun x y H Q => ∃ a b xs ys, x = .ref a ∧ y = .ref b ∧ SqT K H a xs ∧ SqT K H b ys ∧ xs.length + ys.length ≤ sizeLine ∧
  (xs = [] → Q (.ref b) H) ∧ (xs ≠ [] → ys = [] → Q (.ref a) H) ∧ (xs ≠ [] → ys ≠ [] → KeepT H Q (xs ++ ys))
theorem op_catK : OpR X (binaryOp .Add) (rCatK X.K) := by
  intro pins s σ H x y v u Q I rx ry h
  obtain ⟨a, b, xs, ys, rfl, rfl, ha, hb, hz, q0, q1, q2⟩ := h
  cases rx
  cases ry
  obtain ⟨its, r1, p1, _⟩ := I.tuple ha
  obtain ⟨its2, r2, p2, _⟩ := I.tuple hb
  by_cases hx : xs = []
  · subst hx
    cases r1
    exact cat_tup0 p1 p2 ⟨.ref b, H, I, rfl, q0 rfl⟩
  · refine HT.cat_tup p1 p2 (fun z => hx (r1.nil_iff.mp z)) (fun z => ⟨.ref a, H, I, rfl, q1 hx (r2.nil_iff.mp z)⟩) (fun z => ?_) (by rw [← r1.length, ← r2.length]; exact hz)
    exact ⟨.ref s.heap.objs.size, _, laidK I (r1.append r2) (by rw [List.length_append]; exact hz), rfl, q2 hx (fun w => z (r2.nil_iff.mpr w)) _ _ (I.hok.fresh (Nat.le_refl _)) rfl⟩
def rSlK (K : PySem.W.Frag) : V → Option Int → Option Int → Hp → VK → Prop := fun x lo hi H Q => ∃ a xs, x = .ref a ∧ SqT K H a xs ∧
  (HT.sIx xs.length 0 lo = 0 ∧ HT.sIx xs.length xs.length hi = xs.length → Q (.ref a) H) ∧ (¬ (HT.sIx xs.length 0 lo = 0 ∧ HT.sIx xs.length xs.length hi = xs.length) → KeepT H Q (cutV xs lo hi))
theorem sl_tupK : SlR X (rSlK X.K) := by
  intro pins s σ H x v vl vu lo hi sl Q I rx hs pl pu h
  obtain ⟨a, xs, rfl, hx, q1, q2⟩ := h
  cases rx
  obtain ⟨its, r, ht, hz⟩ := I.tuple hx
  have hlen : its.toArray.size = xs.length := by rw [List.size_toArray]; exact r.length.symm
  refine ⟨"tuple", _, PyProof.Rows.slot_tuple_getitem.lookup, ht.typeIs, ?_⟩
  by_cases hw : HT.sIx xs.length 0 lo = 0 ∧ HT.sIx xs.length xs.length hi = xs.length
  · exact getItem_tuple_whole ht hs pl pu (by rw [hlen]; exact hw) ⟨.ref a, H, I, rfl, q1 hw⟩
  · refine HT.getItem_tuple_cut ht hs pl pu (by rw [hlen]; exact hw) ?_ (by rw [hlen]; exact hz)
    rw [hlen]
    exact ⟨.ref s.heap.objs.size, _, laidK I ((r.drop (HT.sIx xs.length 0 lo)).take (HT.sIx xs.length xs.length hi - HT.sIx xs.length 0 lo)) (Nat.le_trans (cutV_length xs lo hi) hz), rfl, q2 hw _ _ (I.hok.fresh (Nat.le_refl _)) rfl⟩
def rRepK (K : PySem.W.Frag) : R2 := fun x y H Q => ∃ l k xs, x = .ref l ∧ y = .int k ∧ SqT K H l xs ∧ xs ≠ [] ∧ -1000 ≤ k ∧ k ≤ 1000 ∧ xs.length ≤ 1000 ∧ (k = 1 → Q (.ref l) H) ∧ (k ≠ 1 → KeepT H Q (List.replicate k.toNat xs).flatten)
theorem op_repK : OpR X (binaryOp .Mult) (rRepK X.K) := by
  intro pins s σ H x y v u Q I rx ry h
  obtain ⟨l, k, xs, rfl, rfl, hT, hne, h1, h2, hz, q1, q2⟩ := h
  by_cases big : 2 ≤ k
  · cases rx
    obtain ⟨t, rfl⟩ := ry
    obtain ⟨its, r, ⟨⟨cls, dd, data, sl⟩, ho, hc, n, hd⟩, hs⟩ := I.tuple hT
    simp only at hc hd
    subst hc hd
    have hle : its.length = xs.length := r.length.symm
    have hn : its ≠ [] := fun e => hne (by
      rw [e] at hle
      exact List.eq_nil_of_length_eq_zero hle.symm)
    have hi : its.toArray.isEmpty = false := by
      cases its with
      | nil => exact absurd rfl hn
      | cons a b => rfl
    have hsz0 : its.toArray.size = xs.length := by rw [List.size_toArray, hle]
    have hm : ((its.toArray.size : Nat) : Int) * k ≤ 1000000 := by
      rw [hsz0]
      have a1 : ((xs.length : Nat) : Int) * k ≤ 1000 * k := Int.mul_le_mul_of_nonneg_right (by omega) (by omega)
      omega
    have flen : (List.replicate k.toNat its).flatten.length ≤ sizeLine := by
      rw [PyProof.Rows.lm_len_rep_flat, hle, sizeLine_eq]
      have a1 : k.toNat * xs.length ≤ 1000 * 1000 := Nat.mul_le_mul (by omega) hz
      omega
    have c0 : (decide (k < -(2 ^ 63)) || decide (k ≥ 2 ^ 63)) = false := by
      rw [decide_eq_false (by omega), decide_eq_false (by omega)] <;> rfl
    have c1 : (its.toArray.isEmpty || k == 1) = false := by
      rw [hi, Bool.false_or]
      exact beq_eq_false_iff_ne.mpr (by omega)
    have c2 : (decide (k ≤ 0) || its.toArray.isEmpty) = false := by
      rw [hi, Bool.or_false]
      exact decide_eq_false (by omega)
    have c4 : Builtin.Tuple.tupleTooMany (((its.toArray.size : Nat) : Int) * k) = false := by
      unfold Builtin.Tuple.tupleTooMany
      rw [sizeLine_eq]
      exact decide_eq_false (by omega)
    refine wpAny_binaryOp_repeat_ref (T := "tuple") (U := "int") (by decide) ⟨_, ho, rfl⟩ (fun s' => typeIs_int s' k t) noFill_tuple_mul PySem.F.fills_int_mul PySem.F.slot_int_rmul repeat_tuple PySem.F.slot_int_index.lookup
      (call_meets PySem.F.slot_int_rmul (typeIs_int s k t) PySem.F.entry_int_rmul (PySem.F.args_int_rmul_2 _ _) (int_rmul_tuple k t l its.toArray n dd sl)
        ⟨ho, rfl, ⟨_, ho, rfl⟩, call_meets PySem.F.slot_tuple_mul ⟨_, ho, rfl⟩ PySem.F.entry_tuple_mul (PySem.F.args_tuple_mul_2 _ _) (tuple_mulW l its.toArray n dd sl k t c0 c1 c2 (by omega) c4 (by rw [size_rep, List.size_toArray]; exact flen)) ⟨ho, ?_⟩⟩)
    rw [size_rep]
    refine ⟨.ref s.heap.objs.size, _, laidK I (r.rep k.toNat) ?_, rfl, q2 (by omega) _ _ (I.hok.fresh (Nat.le_refl _)) rfl⟩
    rw [PyProof.Rows.lm_len_rep_flat, sizeLine_eq]
    have a1 : k.toNat * xs.length ≤ 1000 * 1000 := Nat.mul_le_mul (by omega) hz
    omega
  cases rx
  obtain ⟨t, rfl⟩ := ry
  obtain ⟨its, r, ⟨⟨cls, dd, data, sl⟩, ho, hc, n, hd⟩, hs⟩ := I.tuple hT
  simp only at hc hd
  subst hc hd
  have hi : its.toArray.isEmpty = false := by
    cases its with
    | nil => cases r; exact absurd rfl hne
    | cons a b => rfl
  by_cases one : k = 1
  · subst one
    exact wpAny_binaryOp_repeat_ref (T := "tuple") (U := "int") (by decide) ⟨_, ho, rfl⟩ (fun s' => typeIs_int s' 1 t) noFill_tuple_mul PySem.F.fills_int_mul PySem.F.slot_int_rmul repeat_tuple PySem.F.slot_int_index.lookup
      (call_meets PySem.F.slot_int_rmul (typeIs_int s 1 t) PySem.F.entry_int_rmul (PySem.F.args_int_rmul_2 _ _) (int_rmul_tuple 1 t l its.toArray n dd sl)
        ⟨ho, rfl, ⟨_, ho, rfl⟩, call_meets PySem.F.slot_tuple_mul ⟨_, ho, rfl⟩ PySem.F.entry_tuple_mul (PySem.F.args_tuple_mul_2 _ _) (tup_mul_one l its.toArray n dd sl t) ⟨ho, ⟨.ref l, H, I, rfl, q1 rfl⟩⟩⟩)
  · have c0 : (decide (k < -(2 ^ 63)) || decide (k ≥ 2 ^ 63)) = false := by
      rw [decide_eq_false (by omega), decide_eq_false (by omega)] <;> rfl
    refine wpAny_binaryOp_repeat_ref (T := "tuple") (U := "int") (by decide) ⟨_, ho, rfl⟩ (fun s' => typeIs_int s' k t) noFill_tuple_mul PySem.F.fills_int_mul PySem.F.slot_int_rmul repeat_tuple PySem.F.slot_int_index.lookup
      (call_meets PySem.F.slot_int_rmul (typeIs_int s k t) PySem.F.entry_int_rmul (PySem.F.args_int_rmul_2 _ _) (int_rmul_tuple k t l its.toArray n dd sl)
        ⟨ho, rfl, ⟨_, ho, rfl⟩, call_meets PySem.F.slot_tuple_mul ⟨_, ho, rfl⟩ PySem.F.entry_tuple_mul (PySem.F.args_tuple_mul_2 _ _) (tup_mul_none l its.toArray n dd sl k t c0 (by omega) hi) ⟨ho, ?_⟩⟩)
    have hk : (List.replicate k.toNat xs).flatten = [] := by rw [show k.toNat = 0 by omega]; rfl
    have q3 := q2 one
    rw [hk] at q3
    exact ⟨.ref s.heap.objs.size, _, laidK (its := []) I .nil (Nat.zero_le _), rfl, q3 _ _ (I.hok.fresh (Nat.le_refl _)) rfl⟩

/-! ### methods of such tuples -/
/-- a tuple that has no dict -/
def TupK (K : PySem.W.Frag) (H : Hp) (a : Addr) (xs : List V) : Prop :=
  (∃ o, H a = some (.frz o (.tup xs)) ∧ o.dict = none) ∨
    ∃ (o : Obj) (its : Array Value) (n : Nat), K.lookup a = some o ∧ o.cls = .type "tuple" ∧ o.dict = none ∧ o.data = .seq its n ∧ its.size ≤ sizeLine ∧ Vals xs its.toList
theorem TupK.sqT {K : PySem.W.Frag} {H : Hp} {a : Addr} {xs : List V} (h : TupK K H a xs) : SqT K H a xs := by
  rcases h with ⟨o, h, _⟩ | ⟨o, its, n, h1, h2, _, h3, h4, h5⟩
  · exact .inl (.inr ⟨o, h⟩)
  · exact .inr ⟨o, its, n, h1, h2, h3, h4, h5⟩
theorem TupK.of {K : PySem.W.Frag} {H : Hp} {a : Addr} {o : Obj} {xs : List V} (h : H a = some (.frz o (.tup xs))) (d : o.dict = none) : TupK K H a xs := .inl ⟨o, h, d⟩
theorem TupK.is (I : Inv X pins σ H s) {a : Addr} {xs : List V} (h : TupK X.K H a xs) : s.TypeIs (.ref a) "tuple" ∧ ∀ b, Value.ref a = .ref b → ∃ ob, s.heap.get? b = some ob ∧ ob.dict = none := by
  rcases h with ⟨o, h, hd⟩ | ⟨o, its, n, h1, h2, hd, _⟩
  · obtain ⟨e, _, _, _, o', e', hc, _⟩ := I.hok a _ h
    rw [e] at e'
    cases e'
    exact ⟨⟨o, e, hc⟩, fun b q => by cases q; exact ⟨o, e, hd⟩⟩
  · exact ⟨⟨o, I.kIn a o h1, h2⟩, fun b q => by cases q; exact ⟨o, I.kIn _ o h1, hd⟩⟩
def tBMK (K : PySem.W.Frag) (r : V → List V → Hp → VK → Prop) (to : TE) (t : TA) : TE := fun σ H Q => to σ H fun x H1 => (∃ a xs, x = .ref a ∧ TupK K H1 a xs) ∧ t σ H1 fun xs H2 => r x xs H2 Q
theorem pe_bmK {o e : Expr} {es : List Expr} {to : TE} {t : TA} {name : Str} {apos cpos : Pos} {id : String} {r : V → List V → Hp → VK → Prop} (slot : Slot "tuple" name id) (hty : typeOf (.builtin id) = pure (.type "method_descriptor")) (hm : MtR X id r) (ho : PE X o to) (ha : PA X (e :: es) t)
    (hbase : attributeBase o name X.env (eval o X.env) = eval o X.env := by rfl)
    (hfew : ((backTo cpos (starEach (e :: es) X.env)).all (fun x => !x.1) && (backToKw cpos (keywordEach [] X.env)).all (fun x => x.1.isSome)
      && decide ((e :: es).length + ([] : List Keyword).length + (if ([] : List Keyword).isEmpty then 0 else 1) < 30)) = true := by rfl)
    (hline : (apos.endLine == cpos.line) = true := by rfl) (hs : starEach (e :: es) X.env = (false, eval e X.env) :: starEach es X.env := by rfl) (hplain : (backTo cpos (starEach es X.env)).any (·.1) = false := by rfl) :
    PE X (.Call (.Attribute o name apos) (e :: es) [] cpos) (tBMK X.K r to t) := by
  refine ⟨fun pins s σ H Q I h => ?_⟩
  refine wpAny_Call_method_late hbase hfew hline rfl (thn (ho.run pins s σ H _ I h) fun v s1 ⟨x, H1, I1, r1, ⟨a, xs, ex, tk⟩, q1⟩ => ?_)
  subst ex
  obtain rfl : v = Value.ref a := r1
  obtain ⟨h1, h2⟩ := tk.is I1
  refine ⟨"tuple", id, PySem.F.plainAttrs_tuple, slot, hty, h1, fun b q => h2 b q, ?_⟩
  have hA := ha.run cpos pins s1 σ H1 _ I1 q1
  rw [hs] at hA ⊢
  refine Calls.callWith_builtin (by show (false || (backTo cpos (starEach es X.env)).any (·.1)) = false; rw [hplain] <;> rfl) (Calls.evalArgs_plain ?_)
  exact thn hA fun us s2 ⟨vs, H2, I2, r2, q2⟩ => hm pins s2 σ H2 (.ref a) vs (.ref a) us Q I2 rfl r2 q2
def rTupIndexI (K : PySem.W.Frag) : V → List V → Hp → VK → Prop := fun x xs H Q => ∃ p, ∃ ns : List Int, ∃ z : Int, x = .ref p ∧ xs = [.int z] ∧ SqT K H p (ns.map V.int) ∧ z ∈ ns ∧ Q (.int (ns.idxOf z : Nat)) H
theorem mt_tupIndexI : MtR X "tuple.index" (rTupIndexI X.K) := by
  intro pins s σ H x xs v us Q I rx rs h
  obtain ⟨p, ns, z, rfl, rfl, hq, hz, q⟩ := h
  cases rx
  obtain ⟨u, rfl, t, rfl⟩ := vals1 rs
  obtain ⟨its, r, pl, hsz⟩ := I.tuple hq
  have hi := r.ints
  refine PySem.SeqAt.tuple_index_ints (vs := its) ?_ hi hz ⟨.int (ns.idxOf z : Nat), H, I.tok _, ⟨_, rfl⟩, q⟩
  obtain ⟨ob, ho, hc, n, hd⟩ := pl
  exact ⟨ob, ho, hc, n, hd⟩
end
end RX

/-! Readings by data: what a def does, said over plain data (PyData) and slots. -/
namespace R
open PySem PySem.Spec PyProof.Rows L2

abbrev Frag := PySem.W.Frag
def Pn : HO → Prop
  | .frz _ _ => False
  | _ => True
/-- all that can be read stays so -/
structure Le (G H : Hp) : Prop where
  rd : ∀ a u, Pn u → Rd G a u → Rd H a u
  has : ∀ a, G a ≠ none → H a ≠ none
  tp : ∀ a o xs, G a = some (.frz o (.tup xs)) → H a = some (.frz o (.tup xs))
theorem Le.refl (G : Hp) : Le G G := ⟨fun _ _ _ h => h, fun _ h => h, fun _ _ _ h => h⟩
theorem Le.trans {F G H : Hp} (x : Le F G) (y : Le G H) : Le F H := ⟨fun a u p h => y.rd a u p (x.rd a u p h), fun a h => y.has a (x.has a h), fun a o xs h => y.tp a o xs (x.tp a o xs h)⟩
theorem no_rd {G : Hp} {a : Addr} (h : G a = none) (u : HO) : ¬ Rd G a u := by
  rintro (e | ⟨o, e⟩) <;> rw [h] at e <;> cases e
theorem rd_some {G : Hp} {a : Addr} {u : HO} (h : Rd G a u) : G a ≠ none := fun e => no_rd e u h
theorem rd_upd {G : Hp} {a p : Addr} {o u : HO} (ne : a ≠ p) : Rd (upd G p o) a u ↔ Rd G a u := by
  unfold Rd
  rw [upd_ne ne]
theorem upd_has {G : Hp} {a p : Addr} {o : HO} (h : G a ≠ none) : upd G p o a ≠ none := by
  by_cases e : a = p
  · rw [e, upd_same]; simp
  · rw [upd_ne e]; exact h
theorem Le.new {G : Hp} {p : Addr} {o : HO} (h : G p = none) : Le G (upd G p o) :=
  ⟨fun a u _ r => (rd_upd (fun e => no_rd (by rw [e]; exact h) u r)).mpr r, fun a h => upd_has h, fun a o xs r => by
    rw [upd_ne (fun e => by rw [e, h] at r; cases r)]; exact r⟩
theorem Le.put {G H : Hp} {p : Addr} {o : HO} (h : Le G H) (hp : H p = some o) : Le (upd G p o) H := ⟨fun a u n r => by
  by_cases ne : a = p
  · subst ne
    rcases r with r | ⟨x, r⟩
    · rw [upd_same] at r; cases r; exact .inl hp
    · rw [upd_same] at r; cases r; exact .inr ⟨x, hp⟩
  · exact h.rd a u n ((rd_upd ne).mp r), fun a q => by
  by_cases ne : a = p
  · rw [ne, hp]; simp
  · rw [upd_ne ne] at q; exact h.has a q, fun a u xs r => by
  by_cases ne : a = p
  · subst ne
    rw [upd_same] at r; cases r; exact hp
  · rw [upd_ne ne] at r; exact h.tp a u xs r⟩
theorem Le.both {G H : Hp} {p : Addr} {o : HO} (h : Le G H) : Le (upd G p o) (upd H p o) := ⟨fun a u n r => by
  by_cases ne : a = p
  · subst ne
    rcases r with r | ⟨x, r⟩
    · rw [upd_same] at r; exact .inl (by rw [upd_same]; exact r)
    · rw [upd_same] at r; exact .inr ⟨x, by rw [upd_same]; exact r⟩
  · exact (rd_upd ne).mpr (h.rd a u n ((rd_upd ne).mp r)), fun a q => by
  by_cases ne : a = p
  · rw [ne, upd_same]; simp
  · rw [upd_ne ne] at q ⊢; exact h.has a q, fun a u xs r => by
  by_cases ne : a = p
  · subst ne
    rw [upd_same] at r ⊢; exact r
  · rw [upd_ne ne] at r ⊢; exact h.tp a u xs r⟩
/-- what is not to be read in the lesser may change in the greater -/
theorem Le.out {G H : Hp} {p : Addr} {o : HO} (h : Le G H) (hp : G p = none) : Le G (upd H p o) :=
  ⟨fun a u n r => (rd_upd (fun e => no_rd (by rw [e]; exact hp) u r)).mpr (h.rd a u n r), fun a q => upd_has (h.has a q), fun a u xs r => by
    rw [upd_ne (fun e => by rw [e, hp] at r; cases r)]; exact h.tp a u xs r⟩
theorem Le.sqL {K : Frag} {G H : Hp} {a : Addr} {xs : List V} (h : Le G H) (r : SqL K G a xs) : SqL K H a xs := by
  rcases r with r | r
  · exact .inl (h.rd _ _ trivial r)
  · exact .inr r
theorem Le.sqT {K : Frag} {G H : Hp} {a : Addr} {xs : List V} (h : Le G H) (r : SqT K G a xs) : SqT K H a xs := by
  rcases r with r | r
  · exact .inl (h.rd _ _ trivial r)
  · exact .inr r

theorem Le.tupK {K : Frag} {G H : Hp} {a : Addr} {xs : List V} (h : Le G H) (r : RX.TupK K G a xs) : RX.TupK K H a xs := by
  rcases r with ⟨o, r, d⟩ | r
  · exact .inl ⟨o, h.tp a o xs r, d⟩
  · exact .inr r

def kD : Key → PyData
  | .inl i => .int i
  | .inr x => .str x

mutual
inductive Dq (K : Frag) (G : Hp) : V → PyData → Prop
  | non : Dq K G .non .none
  | bl (b : Bool) : Dq K G (.bl b) (.bool b)
  | int (i : Int) : Dq K G (.int i) (.int i)
  | str (x : Str) : Dq K G (.str x) (.str x)
  | lst {a : Addr} {xs : List V} {ds : List PyData} : SqL K G a xs → DqAll K G xs ds → Dq K G (.ref a) (.list ds)
  | tup {a : Addr} {xs : List V} {ds : List PyData} : RX.TupK K G a xs → DqAll K G xs ds → Dq K G (.ref a) (.tuple ds)
  | dic {a : Addr} {kvs : List (Key × V)} {ds : List (PyData × PyData)} : Rd G a (.dK kvs) → DqKv K G kvs ds → Dq K G (.ref a) (.dict ds)
inductive DqAll (K : Frag) (G : Hp) : List V → List PyData → Prop
  | nil : DqAll K G [] []
  | cons {v : V} {vs : List V} {d : PyData} {ds : List PyData} : Dq K G v d → DqAll K G vs ds → DqAll K G (v :: vs) (d :: ds)
inductive DqKv (K : Frag) (G : Hp) : List (Key × V) → List (PyData × PyData) → Prop
  | nil : DqKv K G [] []
  | cons {k : Key} {v : V} {vs : List (Key × V)} {d : PyData} {ds : List (PyData × PyData)} : Dq K G v d → DqKv K G vs ds → DqKv K G ((k, v) :: vs) ((kD k, d) :: ds)
end
section
variable {K : Frag} {G H : Hp}
mutual
theorem Dq.mono (e : Le G H) : ∀ {v : V} {d : PyData}, Dq K G v d → Dq K H v d
  | _, _, .non => .non
  | _, _, .bl b => .bl b
  | _, _, .int i => .int i
  | _, _, .str x => .str x
  | _, _, .lst s a => .lst (e.sqL s) (DqAll.mono e a)
  | _, _, .tup s a => .tup (e.tupK s) (DqAll.mono e a)
  | _, _, .dic s a => .dic (e.rd _ _ trivial s) (DqKv.mono e a)
theorem DqAll.mono (e : Le G H) : ∀ {v : List V} {d : List PyData}, DqAll K G v d → DqAll K H v d
  | _, _, .nil => .nil
  | _, _, .cons a b => .cons (Dq.mono e a) (DqAll.mono e b)
theorem DqKv.mono (e : Le G H) : ∀ {v : List (Key × V)} {d : List (PyData × PyData)}, DqKv K G v d → DqKv K H v d
  | _, _, .nil => .nil
  | _, _, .cons a b => .cons (Dq.mono e a) (DqKv.mono e b)
end
theorem DqAll.length : ∀ {vs : List V} {ds : List PyData}, DqAll K G vs ds → vs.length = ds.length
  | _, _, .nil => rfl
  | _, _, .cons _ b => by rw [List.length_cons, List.length_cons, DqAll.length b]
theorem DqAll.get : ∀ {vs : List V} {ds : List PyData} {i : Nat} {d : PyData}, DqAll K G vs ds → ds[i]? = some d → ∃ v, vs[i]? = some v ∧ Dq K G v d
  | _, _, _, _, .nil, h => by simp at h
  | _, _, 0, _, .cons a _, h => by simp at h; subst h; exact ⟨_, rfl, a⟩
  | _, _, i + 1, _, .cons _ b, h => by
    obtain ⟨v, h1, h2⟩ := DqAll.get b (by simpa using h)
    exact ⟨v, by simpa using h1, h2⟩
theorem DqAll.getV : ∀ {vs : List V} {ds : List PyData} {i : Nat} {v : V}, DqAll K G vs ds → vs[i]? = some v → ∃ d, ds[i]? = some d ∧ Dq K G v d
  | _, _, _, _, .nil, h => by simp at h
  | _, _, 0, _, .cons a _, h => by simp at h; subst h; exact ⟨_, rfl, a⟩
  | _, _, i + 1, _, .cons _ b, h => by
    obtain ⟨v, h1, h2⟩ := DqAll.getV b (by simpa using h)
    exact ⟨v, by simpa using h1, h2⟩
theorem DqAll.append : ∀ {vs us : List V} {ds es : List PyData}, DqAll K G vs ds → DqAll K G us es → DqAll K G (vs ++ us) (ds ++ es)
  | _, _, _, _, .nil, h => h
  | _, _, _, _, .cons a b, h => .cons a (DqAll.append b h)
theorem DqAll.take : ∀ {vs : List V} {ds : List PyData} (n : Nat), DqAll K G vs ds → DqAll K G (vs.take n) (ds.take n)
  | _, _, 0, _ => .nil
  | _, _, _ + 1, .nil => .nil
  | _, _, n + 1, .cons a b => .cons a (DqAll.take n b)
theorem DqAll.drop : ∀ {vs : List V} {ds : List PyData} (n : Nat), DqAll K G vs ds → DqAll K G (vs.drop n) (ds.drop n)
  | _, _, 0, h => h
  | _, _, _ + 1, .nil => .nil
  | _, _, n + 1, .cons _ b => DqAll.drop n b
theorem DqAll.set : ∀ {vs : List V} {ds : List PyData} {v : V} {d : PyData} (n : Nat), DqAll K G vs ds → Dq K G v d → DqAll K G (vs.set n v) (ds.set n d)
  | _, _, _, _, _, .nil, _ => .nil
  | _, _, _, _, 0, .cons _ b, h => .cons h b
  | _, _, _, _, n + 1, .cons a b, h => .cons a (DqAll.set n b h)
theorem DqAll.rep : ∀ {vs : List V} {ds : List PyData} (n : Nat), DqAll K G vs ds → DqAll K G (List.replicate n vs).flatten (List.replicate n ds).flatten
  | _, _, 0, _ => .nil
  | _, _, n + 1, h => by
    rw [List.replicate_succ, List.replicate_succ, List.flatten_cons, List.flatten_cons]
    exact h.append (h.rep n)
theorem DqAll.ints : ∀ {ns : List Int}, DqAll K G (ns.map V.int) (ns.map PyData.int)
  | [] => .nil
  | n :: ns => .cons (.int n) (DqAll.ints (ns := ns))
theorem DqAll.ints_inv : ∀ {vs : List V} {ns : List Int}, DqAll K G vs (ns.map PyData.int) → vs = ns.map V.int
  | _, [], .nil => rfl
  | _, n :: ns, .cons (.int _) b => by rw [DqAll.ints_inv (ns := ns) b]; rfl
theorem DqAll.bools_inv : ∀ {vs : List V} {ns : List Bool}, DqAll K G vs (ns.map PyData.bool) → vs = ns.map V.bl
  | _, [], .nil => rfl
  | _, n :: ns, .cons (.bl _) b => by rw [DqAll.bools_inv (ns := ns) b]; rfl
theorem DqKv.length : ∀ {vs : List (Key × V)} {ds : List (PyData × PyData)}, DqKv K G vs ds → vs.length = ds.length
  | _, _, .nil => rfl
  | _, _, .cons _ b => by rw [List.length_cons, List.length_cons, DqKv.length b]
end

/-- the fields of an object -/
inductive DqFs (K : Frag) (G : Hp) : List (Str × V) → List (Str × PyData) → Prop
  | nil : DqFs K G [] []
  | cons {f : Str} {v : V} {vs : List (Str × V)} {d : PyData} {ds : List (Str × PyData)} : Dq K G v d → DqFs K G vs ds → DqFs K G ((f, v) :: vs) ((f, d) :: ds)
theorem DqFs.mono {K : Frag} {G H : Hp} (e : Le G H) : ∀ {v : List (Str × V)} {d : List (Str × PyData)}, DqFs K G v d → DqFs K H v d
  | _, _, .nil => .nil
  | _, _, .cons a b => .cons (Dq.mono e a) (DqFs.mono e b)
/-! ### slots -/
inductive Slot where
  | un
  | d (x : PyData)
  | m (l : Addr) (xs : List PyData)
  | md (l : Addr) (kvs : List (PyData × PyData))
  | ob (l : Addr) (C : Addr) (fs : List (Str × PyData))
def Slot.addr : Slot → Option Addr
  | .m l _ => some l
  | .md l _ => some l
  | .ob l _ _ => some l
  | _ => none
abbrev Sls := List Slot
def Own (sl : Sls) (a : Addr) : Prop := ∃ (i : Nat) (s : Slot), sl[i]? = some s ∧ s.addr = some a
def SlotOk (K : Frag) (G H : Hp) (v : Option V) : Slot → Prop
  | .un => True
  | .d x => ∃ u, v = some u ∧ Dq K G u x
  | .m l xs => v = some (.ref l) ∧ G l = none ∧ ∃ vs, H l = some (.lst vs) ∧ DqAll K G vs xs
  | .md l kvs => v = some (.ref l) ∧ G l = none ∧ ∃ vs, H l = some (.dK vs) ∧ DqKv K G vs kvs
  | .ob l C fs => v = some (.ref l) ∧ G l = none ∧ ∃ vs, (∃ dx, H l = some (.ins C dx vs)) ∧ DqFs K G vs fs
structure Env (K : Frag) (G H : Hp) (σ : L2.St) (sl : Sls) : Prop where
  le : Le G H
  len : σ.length = sl.length
  ok : ∀ (i : Nat) (v : Option V) (s : Slot), σ[i]? = some v → sl[i]? = some s → SlotOk K G H v s
  one : ∀ (i j : Nat) (s t : Slot) (l : Addr), sl[i]? = some s → sl[j]? = some t → s.addr = some l → t.addr = some l → i = j
structure Grow (sl sl' : Sls) (G H G' H' : Hp) : Prop where
  keep : ∀ a o, ¬ Own sl a → H a = some o → H' a = some o
  le : Le G G'
  ap : ∀ a, ¬ Own sl a → H a ≠ none → G a = none → G' a = none
  own : ∀ a, Own sl' a → Own sl a ∨ H a = none
  there : ∀ a, H a ≠ none → H' a ≠ none
section
variable {K : Frag} {G H G' H' G1 H1 G2 H2 : Hp} {σ : L2.St} {sl sl' sl1 sl2 : Sls}
theorem Grow.refl : Grow sl sl G H G H := ⟨fun _ _ _ h => h, Le.refl _, fun _ _ _ h => h, fun _ h => .inl h, fun _ h => h⟩
theorem Grow.back (a : Grow sl sl1 G H G1 H1) {p : Addr} (h : H1 p = none) : H p = none := by
  cases e : H p with
  | none => rfl
  | some o => exact absurd h (a.there p (by rw [e]; simp))
theorem Grow.trans (a : Grow sl sl1 G H G1 H1) (b : Grow sl1 sl2 G1 H1 G2 H2) : Grow sl sl2 G H G2 H2 := by
  have back : ∀ x, ¬ Own sl x → H x ≠ none → ¬ Own sl1 x := fun x h1 h2 h3 => (a.own x h3).elim h1 h2
  refine ⟨fun x o h1 h2 => b.keep x o (back x h1 (by rw [h2]; simp)) (a.keep x o h1 h2), a.le.trans b.le, fun x h1 h2 h3 => ?_, fun x h => ?_, fun x h => b.there x (a.there x h)⟩
  · refine b.ap x (back x h1 h2) ?_ (a.ap x h1 h2 h3)
    cases e : H x with
    | none => exact absurd e h2
    | some o => rw [a.keep x o h1 e]; simp
  · rcases b.own x h with h | h
    · exact a.own x h
    · by_cases z : Own sl x
      · exact .inl z
      · refine .inr ?_
        cases e : H x with
        | none => rfl
        | some o => rw [a.keep x o z e] at h; cases h
theorem SlotOk.mono {v : Option V} {s : Slot} (h : SlotOk K G H v s) (e : Le G G') (k : ∀ a, s.addr = some a → H' a = H a ∧ G' a = none) : SlotOk K G' H' v s := by
  cases s with
  | un => trivial
  | d x => obtain ⟨u, h1, h2⟩ := h; exact ⟨u, h1, h2.mono e⟩
  | m l xs =>
    obtain ⟨h1, h2, vs, h3, h4⟩ := h
    obtain ⟨k1, k2⟩ := k l rfl
    exact ⟨h1, k2, vs, k1.trans h3, h4.mono e⟩
  | md l xs =>
    obtain ⟨h1, h2, vs, h3, h4⟩ := h
    obtain ⟨k1, k2⟩ := k l rfl
    exact ⟨h1, k2, vs, k1.trans h3, h4.mono e⟩
  | ob l C fs =>
    obtain ⟨h1, h2, vs, ⟨dx, h3⟩, h4⟩ := h
    obtain ⟨k1, k2⟩ := k l rfl
    exact ⟨h1, k2, vs, ⟨dx, k1.trans h3⟩, h4.mono e⟩
theorem Env.step (E : Env K G H σ sl) (g : Le G G') (h : Le G' H') (k : ∀ a, Own sl a → H' a = H a ∧ G' a = none) : Env K G' H' σ sl :=
  ⟨h, E.len, fun i v s h1 h2 => (E.ok i v s h1 h2).mono g fun a e => k a ⟨i, s, h2, e⟩, E.one⟩
theorem Env.own (E : Env K G H σ sl) {a : Addr} (h : Own sl a) : H a ≠ none ∧ G a = none := by
  obtain ⟨i, s, h1, h2⟩ := h
  have hi : i < σ.length := by rw [E.len]; exact (List.getElem?_eq_some_iff.mp h1).1
  have q := E.ok i σ[i] s (List.getElem?_eq_getElem hi) h1
  cases s with
  | un => cases h2
  | d x => cases h2
  | m l xs => cases h2; obtain ⟨_, q1, vs, q2, _⟩ := q; exact ⟨by rw [q2]; simp, q1⟩
  | md l xs => cases h2; obtain ⟨_, q1, vs, q2, _⟩ := q; exact ⟨by rw [q2]; simp, q1⟩
  | ob l C fs => cases h2; obtain ⟨_, q1, vs, ⟨dx, q2⟩, _⟩ := q; exact ⟨by rw [q2]; simp, q1⟩
theorem Env.slot (E : Env K G H σ sl) {i : Nat} {s : Slot} (h : sl[i]? = some s) : ∃ v, σ[i]? = some v ∧ SlotOk K G H v s := by
  have hi : i < σ.length := by rw [E.len]; exact (List.getElem?_eq_some_iff.mp h).1
  exact ⟨σ[i], List.getElem?_eq_getElem hi, E.ok i σ[i] s (List.getElem?_eq_getElem hi) h⟩
theorem Own.of_set {i : Nat} {s : Slot} {a : Addr} (h : Own (sl.set i s) a) : Own sl a ∨ s.addr = some a := by
  obtain ⟨j, t, h1, h2⟩ := h
  by_cases e : i = j
  · subst e
    have hi := (List.getElem?_eq_some_iff.mp h1).1
    rw [List.length_set] at hi
    rw [List.getElem?_set_self hi] at h1
    cases h1
    exact .inr h2
  · rw [List.getElem?_set_ne e] at h1
    exact .inl ⟨j, t, h1, h2⟩
/-- a slot is stored -/
theorem Env.set (E : Env K G H σ sl) {i : Nat} {v : V} {s : Slot} (h : SlotOk K G H (some v) s) (n : ∀ a, s.addr = some a → ¬ Own sl a) : Env K G H (σ.set i (some v)) (sl.set i s) := by
  refine ⟨E.le, by rw [List.length_set, List.length_set]; exact E.len, fun j u t h1 h2 => ?_, fun j k t u l h1 h2 h3 h4 => ?_⟩
  · by_cases e : i = j
    · subst e
      have hi := (List.getElem?_eq_some_iff.mp h1).1
      have hi2 := (List.getElem?_eq_some_iff.mp h2).1
      rw [List.length_set] at hi hi2
      rw [List.getElem?_set_self hi] at h1
      rw [List.getElem?_set_self hi2] at h2
      cases h1; cases h2
      exact h
    · rw [List.getElem?_set_ne e] at h1 h2
      exact E.ok j u t h1 h2
  · have no : ∀ {j : Nat} {t : Slot}, i ≠ j → (sl.set i s)[j]? = some t → t.addr = some l → s.addr = some l → False := fun {j t} e q a b => by
      rw [List.getElem?_set_ne e] at q
      exact n l b ⟨j, t, q, a⟩
    have at_ : ∀ {t : Slot}, (sl.set i s)[i]? = some t → t = s := fun {t} q => by
      have hi := (List.getElem?_eq_some_iff.mp q).1
      rw [List.length_set] at hi
      rw [List.getElem?_set_self hi] at q
      exact (Option.some.inj q).symm
    by_cases e1 : i = j
    · subst e1
      by_cases e2 : i = k
      · exact e2
      · rw [at_ h1] at h3
        exact (no e2 h2 h4 h3).elim
    · by_cases e2 : i = k
      · subst e2
        rw [at_ h2] at h4
        exact (no e1 h1 h3 h4).elim
      · rw [List.getElem?_set_ne e1] at h1
        rw [List.getElem?_set_ne e2] at h2
        exact E.one j k t u l h1 h2 h3 h4
/-- a slot is known less, its value as it is -/
theorem Env.slot_to (E : Env K G H σ sl) {i : Nat} {s t : Slot} (hs : sl[i]? = some s) (h : ∀ v, SlotOk K G H v s → SlotOk K G H v t) (n : ∀ a, t.addr = some a → s.addr = some a) : Env K G H σ (sl.set i t) := by
  obtain ⟨v, hv, q⟩ := E.slot hs
  have hi := (List.getElem?_eq_some_iff.mp hs).1
  refine ⟨E.le, by rw [List.length_set]; exact E.len, fun j u r h1 h2 => ?_, fun j k r u l h1 h2 h3 h4 => ?_⟩
  · by_cases e : i = j
    · subst e
      rw [List.getElem?_set_self hi] at h2
      cases h2
      rw [hv] at h1; cases h1
      exact h _ q
    · rw [List.getElem?_set_ne e] at h2
      exact E.ok j u r h1 h2
  · have old : ∀ {j : Nat} {r : Slot}, (sl.set i t)[j]? = some r → r.addr = some l → ∃ r', sl[j]? = some r' ∧ r'.addr = some l := fun {j r} q a => by
      by_cases e : i = j
      · subst e
        rw [List.getElem?_set_self hi] at q
        cases q
        exact ⟨s, hs, n l a⟩
      · rw [List.getElem?_set_ne e] at q
        exact ⟨r, q, a⟩
    obtain ⟨r1, q1, a1⟩ := old h1 h3
    obtain ⟨r2, q2, a2⟩ := old h2 h4
    exact E.one j k r1 r2 l q1 q2 a1 a2
/-- a new object that nobody else has, put to what can be read -/
theorem Env.new (E : Env K G H σ sl) {p : Addr} {o : HO} (h : H p = none) : Env K (upd G p o) (upd H p o) σ sl := by
  have gp : G p = none := by
    cases e : G p with
    | none => rfl
    | some u => exact absurd h (E.le.has p (by rw [e]; simp))
  refine E.step (Le.new gp) E.le.both fun a ha => ?_
  have ne : a ≠ p := fun e => (E.own ha).1 (by rw [e]; exact h)
  exact ⟨upd_ne ne, by rw [upd_ne ne]; exact (E.own ha).2⟩
theorem Env.gnone (E : Env K G H σ sl) {p : Addr} (h : H p = none) : G p = none := by
  cases e : G p with
  | none => rfl
  | some u => exact absurd h (E.le.has p (by rw [e]; simp))
theorem Grow.new (E : Env K G H σ sl) {p : Addr} {o : HO} (h : H p = none) : Grow sl sl G H (upd G p o) (upd H p o) := by
  refine ⟨fun a u _ e => ?_, Le.new (E.gnone h), fun a _ h2 h3 => ?_, fun _ h => .inl h, fun a h2 => ?_⟩
  · rw [upd_ne (ne_of_none e h)]; exact e
  · rw [upd_ne (fun e => h2 (by rw [e]; exact h))]; exact h3
  · rw [upd_ne (fun e => h2 (by rw [e]; exact h))]; exact h2
/-- a new object that is one's own: not to be read yet -/
theorem Env.newO (E : Env K G H σ sl) {p : Addr} {o : HO} (h : H p = none) : Env K G (upd H p o) σ sl := by
  refine E.step (Le.refl _) (E.le.out (E.gnone h)) fun a ha => ?_
  have ne : a ≠ p := fun e => (E.own ha).1 (by rw [e]; exact h)
  exact ⟨upd_ne ne, (E.own ha).2⟩
theorem Grow.newO {p : Addr} {o : HO} (h : H p = none) : Grow sl sl G H G (upd H p o) :=
  ⟨fun a u _ e => by rw [upd_ne (ne_of_none e h)]; exact e, Le.refl _, fun _ _ _ h => h, fun _ h => .inl h, fun a h2 => by rw [upd_ne (fun e => h2 (by rw [e]; exact h))]; exact h2⟩
end
end R

namespace R
open PySem PySem.Spec PyProof.Rows L2 RX

/-! ### readings over slots and data -/
abbrev AE := Sls → (PyData → Sls → Prop) → Prop
abbrev AL := Sls → (List PyData → Sls → Prop) → Prop
abbrev AT := Sls → (Bool → Sls → Prop) → Prop
structure Post where
  nx : Sls → Prop
  rt : PyData → Sls → Prop
  bk : Sls → Prop := fun _ => False
  ct : Sls → Prop := fun _ => False
abbrev AS := Post → Sls → Prop
/-- an expression -/
def LE (K : Frag) (te : TE) (a : AE) : Prop := ∀ (σ : L2.St) (G H : Hp) (sl : Sls) (P : PyData → Sls → Prop), Env K G H σ sl → a sl P →
  ∀ Q : VK, (∀ v d G' H' sl', Env K G' H' σ sl' → Grow sl sl' G H G' H' → Dq K G' v d → P d sl' → Q v H') → te σ H Q
/-- an expression whose value is a new list, nobody else's -/
def LN (K : Frag) (te : TE) (a : AL) : Prop := ∀ (σ : L2.St) (G H : Hp) (sl : Sls) (P : List PyData → Sls → Prop), Env K G H σ sl → a sl P →
  ∀ Q : VK, (∀ l vs xs G' H' sl', Env K G' H' σ sl' → Grow sl sl' G H G' H' → H' l = some (.lst vs) → G' l = none → ¬ Own sl' l → H l = none → DqAll K G' vs xs → P xs sl' → Q (.ref l) H') → te σ H Q
def LT (K : Frag) (tt : TT) (a : AT) : Prop := ∀ (σ : L2.St) (G H : Hp) (sl : Sls) (P : Bool → Sls → Prop), Env K G H σ sl → a sl P →
  ∀ Q : Bool → Hp → Prop, (∀ b G' H' sl', Env K G' H' σ sl' → Grow sl sl' G H G' H' → P b sl' → Q b H') → tt σ H Q
/-- arguments that are data -/
def LD (K : Frag) (ta : TA) (a : AL) : Prop := ∀ (σ : L2.St) (G H : Hp) (sl : Sls) (P : List PyData → Sls → Prop), Env K G H σ sl → a sl P →
  ∀ Q : List V → Hp → Prop, (∀ vs ds G' H' sl', Env K G' H' σ sl' → Grow sl sl' G H G' H' → DqAll K G' vs ds → P ds sl' → Q vs H') → ta σ H Q
structure EndsOk (K : Frag) (sl : Sls) (G H : Hp) (P : Post) (D : Ends) : Prop where
  nx : ∀ σ' G' H' sl', Env K G' H' σ' sl' → Grow sl sl' G H G' H' → P.nx sl' → D.nx σ' H'
  rt : ∀ v d σ' G' H' sl', Env K G' H' σ' sl' → Grow sl sl' G H G' H' → Dq K G' v d → P.rt d sl' → D.rt v H'
  bk : ∀ σ' G' H' sl', Env K G' H' σ' sl' → Grow sl sl' G H G' H' → P.bk sl' → D.bk σ' H'
  ct : ∀ σ' G' H' sl', Env K G' H' σ' sl' → Grow sl sl' G H G' H' → P.ct sl' → D.ct σ' H'
def LS (K : Frag) (t : TS) (a : AS) : Prop := ∀ (σ : L2.St) (G H : Hp) (sl : Sls) (P : Post) (D : Ends), Env K G H σ sl → a P sl → EndsOk K sl G H P D → t D σ H

section
variable {K : Frag} {ta tb te tc : TE} {a b c : AE} {G H : Hp} {σ : L2.St}
theorem EndsOk.after {sl sl' : Sls} {G' H' : Hp} {P : Post} {D : Ends} (E : EndsOk K sl G H P D) (g : Grow sl sl' G H G' H') : EndsOk K sl' G' H' P D :=
  ⟨fun _ _ _ _ e x => E.nx _ _ _ _ e (g.trans x), fun _ _ _ _ _ _ e x => E.rt _ _ _ _ _ _ e (g.trans x), fun _ _ _ _ e x => E.bk _ _ _ _ e (g.trans x), fun _ _ _ _ e x => E.ct _ _ _ _ e (g.trans x)⟩

/-! ### names, constants -/
def aVar (i : Nat) : AE := fun sl Q => ∃ d, sl[i]? = some (.d d) ∧ Q d sl
theorem le_var (i : Nat) : LE K (tVar i) (aVar i) := fun σ G H sl P E ⟨d, h, p⟩ Q q => by
  obtain ⟨v, hv, u, rfl, hd⟩ := E.slot h
  exact ⟨u, hv, q u d G H sl E .refl hd p⟩
/-- an own list read as a thing from now on -/
def aFrz (i : Nat) : AE := fun sl Q => ∃ l xs, sl[i]? = some (.m l xs) ∧ Q (.list xs) (sl.set i (.d (.list xs)))
theorem Env.freezeX {sl : Sls} {i : Nat} {l : Addr} {xs : List PyData} (E : Env K G H σ sl) (h : sl[i]? = some (.m l xs)) :
    ∃ vs, H l = some (.lst vs) ∧ Env K (upd G l (.lst vs)) H σ (sl.set i (.d (.list xs))) ∧ Grow sl (sl.set i (.d (.list xs))) G H (upd G l (.lst vs)) H ∧ Dq K (upd G l (.lst vs)) (.ref l) (.list xs) ∧ DqAll K G vs xs := by
  obtain ⟨v, hv, hvl, gl, vs, hl, hd⟩ := E.slot h
  subst hvl
  have ow : Own sl l := ⟨i, _, h, rfl⟩
  have dq : Dq K (upd G l (.lst vs)) (.ref l) (.list xs) := .lst (SqL.of upd_same) (hd.mono (Le.new gl))
  have hi := (List.getElem?_eq_some_iff.mp h).1
  have keep : ∀ (j : Nat) (s : Slot), (sl.set i (.d (.list xs)))[j]? = some s → (j = i ∧ s = .d (.list xs)) ∨ (j ≠ i ∧ sl[j]? = some s) := fun j s hj => by
    by_cases e : i = j
    · subst e
      rw [List.getElem?_set_self hi] at hj
      exact .inl ⟨rfl, (Option.some.inj hj).symm⟩
    · rw [List.getElem?_set_ne e] at hj
      exact .inr ⟨Ne.symm e, hj⟩
  refine ⟨vs, hl, ⟨E.le.put hl, by rw [List.length_set]; exact E.len, fun j u s h1 h2 => ?_, fun j k s t m h1 h2 h3 h4 => ?_⟩, ⟨fun _ _ _ e => e, Le.new gl, fun a n _ g => ?_, fun a ⟨j, s, h1, h2⟩ => ?_, fun _ h => h⟩, dq, hd⟩
  · rcases keep j s h2 with ⟨rfl, rfl⟩ | ⟨ne, h2⟩
    · rw [hv] at h1; cases h1
      exact ⟨_, rfl, dq⟩
    · refine (E.ok j u s h1 h2).mono (Le.new gl) fun a ha => ⟨rfl, ?_⟩
      have na : a ≠ l := fun e => ne (E.one j i s _ l h2 h (e ▸ ha) rfl)
      rw [upd_ne na]
      exact (E.own ⟨j, s, h2, ha⟩).2
  · rcases keep j s h1 with ⟨_, rfl⟩ | ⟨_, h1⟩
    · cases h3
    · rcases keep k t h2 with ⟨_, rfl⟩ | ⟨_, h2⟩
      · cases h4
      · exact E.one j k s t m h1 h2 h3 h4
  · rw [upd_ne (fun e => n (by rw [e]; exact ow))]; exact g
  · rcases keep j s h1 with ⟨_, rfl⟩ | ⟨_, h1⟩
    · cases h2
    · exact .inl ⟨j, s, h1, h2⟩
theorem Env.freeze {sl : Sls} {i : Nat} {l : Addr} {xs : List PyData} (E : Env K G H σ sl) (h : sl[i]? = some (.m l xs)) :
    ∃ G', Env K G' H σ (sl.set i (.d (.list xs))) ∧ Grow sl (sl.set i (.d (.list xs))) G H G' H ∧ Dq K G' (.ref l) (.list xs) := by
  obtain ⟨vs, _, h1, h2, h3, _⟩ := E.freezeX h
  exact ⟨_, h1, h2, h3⟩
theorem le_frz (i : Nat) : LE K (tVar i) (aFrz i) := fun σ G H sl P E ⟨l, xs, h, p⟩ Q q => by
  obtain ⟨v, hv, hvl, _⟩ := E.slot h
  subst hvl
  obtain ⟨G', E', g, dq⟩ := E.freeze h
  exact ⟨_, hv, q _ _ G' H _ E' g dq p⟩
def aC (d : PyData) : AE := fun sl Q => Q d sl
theorem le_int (i : Int) : LE K (tC (.int i)) (aC (.int i)) := fun σ G H sl P E p Q q => q _ _ G H sl E .refl (.int i) p
theorem le_bl (i : Bool) : LE K (tC (.bl i)) (aC (.bool i)) := fun σ G H sl P E p Q q => q _ _ G H sl E .refl (.bl i) p
theorem le_non : LE K (tC .non) (aC .none) := fun σ G H sl P E p Q q => q _ _ G H sl E .refl .non p
theorem le_str (x : Str) : LE K (tC (.str x)) (aC (.str x)) := fun σ G H sl P E p Q q => q _ _ G H sl E .refl (.str x) p

/-! ### a new list is a thing -/
def aOfN (a : AL) : AE := fun sl Q => a sl fun xs sl' => Q (.list xs) sl'
theorem le_ofN {a : AL} (h : LN K te a) : LE K te (aOfN a) := fun σ G H sl P E p Q q =>
  h σ G H sl _ E p Q fun l vs xs G' H' sl' E' g hl gl no nl hd pp => by
    have ne : ∀ x, Own sl' x → x ≠ l := fun x hx e => no (e ▸ hx)
    refine q (.ref l) (.list xs) (upd G' l (.lst vs)) H' sl' (E'.step (Le.new gl) (E'.le.put hl) fun x hx => ⟨rfl, by rw [upd_ne (ne x hx)]; exact (E'.own hx).2⟩) ⟨g.keep, g.le.trans (Le.new gl), fun x n h1 h2 => ?_, g.own, g.there⟩ (.lst (SqL.of upd_same) (hd.mono (Le.new gl))) pp
    rw [upd_ne (fun e => h1 (by rw [e]; exact nl))]
    exact g.ap x n h1 h2

/-! ### operators -/
abbrev F2 := PyData → PyData → (PyData → Prop) → Prop
def LR (K : Frag) (r : R2) (f : F2) : Prop := ∀ (σ : L2.St) (G H : Hp) (sl : Sls) (x y : V) (d e : PyData) (P : PyData → Prop), Env K G H σ sl → Dq K G x d → Dq K G y e → f d e P →
  ∀ Q : VK, (∀ v z G' H', Env K G' H' σ sl → Grow sl sl G H G' H' → Dq K G' v z → P z → Q v H') → r x y H Q
def aOp (f : F2) (a b : AE) : AE := fun sl Q => a sl fun d sl1 => b sl1 fun e sl2 => f d e fun z => Q z sl2
theorem le_op {r : R2} {f : F2} (hr : LR K r f) (ha : LE K ta a) (hb : LE K tb b) : LE K (tOp r ta tb) (aOp f a b) := fun σ G H sl P E p Q q =>
  ha σ G H sl _ E p _ fun x d G1 H1 sl1 E1 g1 d1 p1 => hb σ G1 H1 sl1 _ E1 p1 _ fun y e G2 H2 sl2 E2 g2 d2 p2 =>
    hr σ G2 H2 sl2 x y d e _ E2 (d1.mono g2.le) d2 p2 Q fun v z G3 H3 E3 g3 d3 p3 => q v z G3 H3 sl2 E3 ((g1.trans g2).trans g3) d3 p3
theorem LR.or {r r' : R2} {f f' : F2} (h : LR K r f) (h' : LR K r' f') : LR K (fun x y H Q => r x y H Q ∨ r' x y H Q) (fun d e P => f d e P ∨ f' d e P) := fun σ G H sl x y d e P E hx hy p Q q =>
  p.elim (fun p => .inl (h σ G H sl x y d e P E hx hy p Q q)) fun p => .inr (h' σ G H sl x y d e P E hx hy p Q q)
/-- ints in -/
def fI (C : Int → Int → Prop) (g : Int → Int → PyData) : F2 := fun d e P => ∃ i j, d = .int i ∧ e = .int j ∧ C i j ∧ P (g i j)
theorem lr_I {C : Int → Int → Prop} {g : Int → Int → V} {g' : Int → Int → PyData} (hg : ∀ (G : Hp) i j, Dq K G (g i j) (g' i j)) : LR K (rI C g) (fI C g') := fun σ G H sl x y d e P E hx hy ⟨i, j, h1, h2, hc, p⟩ Q q => by
  subst h1 h2
  cases hx
  cases hy
  exact ⟨i, j, rfl, rfl, hc, q _ _ G H E .refl (hg G i j) p⟩
theorem lr_I0 {g : Int → Int → V} {g' : Int → Int → PyData} (hg : ∀ (G : Hp) i j, Dq K G (g i j) (g' i j)) : LR K (rI0 g) (fI (fun _ _ => True) g') := fun σ G H sl x y d e P E hx hy ⟨i, j, h1, h2, _, p⟩ Q q => by
  subst h1 h2
  cases hx
  cases hy
  exact ⟨i, j, rfl, rfl, q _ _ G H E .refl (hg G i j) p⟩
theorem lr_catT : LR K (rCatK K) (fun d e P => ∃ xs ys, d = .tuple xs ∧ e = .tuple ys ∧ xs.length + ys.length ≤ sizeLine ∧ P (.tuple (xs ++ ys))) := fun σ G H sl x y d e P E hx hy ⟨ds, es, h1, h2, hz, p⟩ Q q => by
  subst h1 h2
  cases hx with
  | tup sx ax =>
    cases hy with
    | tup sy ay =>
      rename_i a xs b ys
      have lx := ax.length
      have ly := ay.length
      refine ⟨a, b, xs, ys, rfl, rfl, E.le.sqT sx.sqT, E.le.sqT sy.sqT, by omega, fun e => ?_, fun _ e => ?_, fun _ _ p' o' hp ho => ?_⟩
      · subst e
        cases ax
        exact q _ _ G H E .refl (.tup sy ay) p
      · subst e
        cases ay
        rw [List.append_nil] at p
        exact q _ _ G H E .refl (.tup sx ax) p
      · exact q _ _ _ _ (E.new hp) (Grow.new E hp) (.tup (TupK.of upd_same ho) ((ax.append ay).mono (Le.new (E.gnone hp)))) p
theorem lr_catL : LR K (rCatL K) (fun d e P => ∃ xs ys, d = .list xs ∧ e = .list ys ∧ xs.length + ys.length ≤ sizeLine ∧ P (.list (xs ++ ys))) := fun σ G H sl x y d e P E hx hy ⟨ds, es, h1, h2, hz, p⟩ Q q => by
  subst h1 h2
  cases hx with
  | lst sx ax =>
    cases hy with
    | lst sy ay =>
      rename_i a xs b ys
      have lx := ax.length
      have ly := ay.length
      exact ⟨a, b, xs, ys, rfl, rfl, E.le.sqL sx, E.le.sqL sy, by omega, fun p' hp => q _ _ _ _ (E.new hp) (Grow.new E hp) (.lst (SqL.of upd_same) ((ax.append ay).mono (Le.new (E.gnone hp)))) p⟩
theorem lr_catS : LR K rCatS (fun d e P => ∃ x y, d = .str x ∧ e = .str y ∧ x.length + y.length ≤ sizeLine ∧ P (.str (x ++ y))) := fun σ G H sl x y d e P E hx hy ⟨i, j, h1, h2, hz, p⟩ Q q => by
  subst h1 h2
  cases hx
  cases hy
  exact ⟨i, j, rfl, rfl, hz, q _ _ G H E .refl (.str _) p⟩
theorem lr_repA : LR K (rRepK K) (fun d e P => ∃ xs k, d = .tuple xs ∧ e = .int k ∧ xs ≠ [] ∧ -1000 ≤ k ∧ k ≤ 1000 ∧ xs.length ≤ 1000 ∧ P (.tuple (List.replicate k.toNat xs).flatten)) := fun σ G H sl x y d e P E hx hy ⟨ds, k, h1, h2, hne, k1, k2, hz, p⟩ Q q => by
  subst h1 h2
  cases hy
  cases hx with
  | tup sx ax =>
    rename_i a xs
    have lx := ax.length
    have nx : xs ≠ [] := fun e => hne (by
      subst e
      cases ax
      rfl)
    refine ⟨a, k, xs, rfl, rfl, E.le.sqT sx.sqT, nx, k1, k2, by omega, fun e => ?_, fun _ p' o' hp ho => ?_⟩
    · subst e
      have e1 : (List.replicate (1 : Int).toNat ds).flatten = ds := by
        show (List.replicate 1 ds).flatten = ds
        simp
      rw [e1] at p
      exact q _ _ G H E .refl (.tup sx ax) p
    · exact q _ _ _ _ (E.new hp) (Grow.new E hp) (.tup (TupK.of upd_same ho) ((ax.rep k.toNat).mono (Le.new (E.gnone hp)))) p

/-! ### + and * of whatever -/
def rAdd (K : Frag) : R2 := fun x y H Q => rI0 (fun i j => .int (i + j)) x y H Q ∨ rCatK K x y H Q ∨ rCatL K x y H Q ∨ rCatS x y H Q
theorem op_addA {X : Cx} : OpR X (binaryOp .Add) (rAdd X.K) := op_add.or (op_catK.or (op_catL.or op_catS))
def fAdd : F2 := fun d e P => match d, e with
  | .int i, .int j => P (.int (i + j))
  | .tuple xs, .tuple ys => xs.length + ys.length ≤ sizeLine ∧ P (.tuple (xs ++ ys))
  | .list xs, .list ys => xs.length + ys.length ≤ sizeLine ∧ P (.list (xs ++ ys))
  | .str x, .str y => x.length + y.length ≤ sizeLine ∧ P (.str (x ++ y))
  | _, _ => False
theorem LR.imp {r : R2} {f f' : F2} (h : LR K r f) (i : ∀ d e P, f' d e P → f d e P) : LR K r f' := fun σ G H sl x y d e P E hx hy p => h σ G H sl x y d e P E hx hy (i d e P p)
theorem lr_add : LR K (rAdd K) fAdd := ((lr_I0 (g' := fun i j => .int (i + j)) fun G i j => .int (i + j)).or (lr_catT.or (lr_catL.or lr_catS))).imp fun d e P p => by
  unfold fAdd at p
  split at p
  · exact .inl ⟨_, _, rfl, rfl, trivial, p⟩
  · exact .inr (.inl ⟨_, _, rfl, rfl, p.1, p.2⟩)
  · exact .inr (.inr (.inl ⟨_, _, rfl, rfl, p.1, p.2⟩))
  · exact .inr (.inr (.inr ⟨_, _, rfl, rfl, p.1, p.2⟩))
  · exact p.elim
def rMul (K : Frag) : R2 := fun x y H Q => rI CMul (fun i j => .int (i * j)) x y H Q ∨ rRepK K x y H Q
theorem op_mulA {X : Cx} : OpR X (binaryOp .Mult) (rMul X.K) := op_mul.or op_repK
def fMul : F2 := fun d e P => match d, e with
  | .int i, .int j => CMul i j ∧ P (.int (i * j))
  | .tuple xs, .int k => (xs ≠ [] ∧ -1000 ≤ k ∧ k ≤ 1000 ∧ xs.length ≤ 1000) ∧ P (.tuple (List.replicate k.toNat xs).flatten)
  | _, _ => False
theorem lr_mul : LR K (rMul K) fMul := ((lr_I (g' := fun i j => .int (i * j)) fun G i j => .int (i * j)).or lr_repA).imp fun d e P p => by
  unfold fMul at p
  split at p
  · exact .inl ⟨_, _, rfl, rfl, p.1, p.2⟩
  · exact .inr ⟨_, _, rfl, rfl, p.1.1, p.1.2.1, p.1.2.2.1, p.1.2.2.2, p.2⟩
  · exact p.elim
def fInt (C : Int → Int → Prop) (g : Int → Int → PyData) : F2 := fun d e P => match d, e with
  | .int i, .int j => C i j ∧ P (g i j)
  | _, _ => False
def fInt0 (g : Int → Int → PyData) : F2 := fun d e P => match d, e with
  | .int i, .int j => P (g i j)
  | _, _ => False
theorem fInt_fI {C : Int → Int → Prop} {g : Int → Int → PyData} (d e P) (p : fInt C g d e P) : fI C g d e P := by
  unfold fInt at p
  split at p
  · exact ⟨_, _, rfl, rfl, p.1, p.2⟩
  · exact p.elim
theorem fInt0_fI {g : Int → Int → PyData} (d e P) (p : fInt0 g d e P) : fI (fun _ _ => True) g d e P := by
  unfold fInt0 at p
  split at p
  · exact ⟨_, _, rfl, rfl, trivial, p⟩
  · exact p.elim
theorem lr_sub : LR K (rI0 fun i j => .int (i - j)) (fInt0 fun i j => .int (i - j)) := (lr_I0 fun _ _ _ => .int _).imp fInt0_fI
theorem lr_fdiv : LR K (rI CDivN fun i j => .int (i.fdiv j)) (fInt CDivN fun i j => .int (i.fdiv j)) := (lr_I fun _ _ _ => .int _).imp fInt_fI
theorem lr_mod : LR K (rI (fun _ j => j ≠ 0) fun i j => .int (i.fmod j)) (fInt (fun _ j => j ≠ 0) fun i j => .int (i.fmod j)) := (lr_I fun _ _ _ => .int _).imp fInt_fI
theorem lr_pow : LR K (rI CPow fun i j => .int (i ^ j.toNat)) (fInt CPow fun i j => .int (i ^ j.toNat)) := (lr_I fun _ _ _ => .int _).imp fInt_fI
theorem lr_lt : LR K (rI0 fun i j => .bl (decide (i < j))) (fInt0 fun i j => .bool (decide (i < j))) := (lr_I0 fun _ _ _ => .bl _).imp fInt0_fI
theorem lr_le : LR K (rI0 fun i j => .bl (decide (i ≤ j))) (fInt0 fun i j => .bool (decide (i ≤ j))) := (lr_I0 fun _ _ _ => .bl _).imp fInt0_fI
theorem lr_gt : LR K (rI0 fun i j => .bl (decide (j < i))) (fInt0 fun i j => .bool (decide (j < i))) := (lr_I0 fun _ _ _ => .bl _).imp fInt0_fI
theorem lr_ge : LR K (rI0 fun i j => .bl (decide (j ≤ i))) (fInt0 fun i j => .bool (decide (j ≤ i))) := (lr_I0 fun _ _ _ => .bl _).imp fInt0_fI

/-! ### == of data without dicts -/
mutual
theorem Dq.dp (e : Le G H) : ∀ {v : V} {d : PyData}, Dq K G v d → d.hasDict = false → Dp K H v d
  | _, _, .non, _ => .non
  | _, _, .bl b, _ => .bl b
  | _, _, .int i, _ => .int i
  | _, _, .str x, _ => .str x
  | _, _, .lst s a, h => .lst (e.sqL s) (DqAll.dp e a (by simpa [PyData.hasDict] using h))
  | _, _, .tup s a, h => .tup (e.sqT s.sqT) (DqAll.dp e a (by simpa [PyData.hasDict] using h))
  | _, _, .dic s a, h => by simp [PyData.hasDict] at h
theorem DqAll.dp (e : Le G H) : ∀ {v : List V} {d : List PyData}, DqAll K G v d → PyData.hasDictAll d = false → DpAll K H v d
  | _, _, .nil, _ => .nil
  | _, _, .cons a b, h => by
    have h2 := (Bool.or_eq_false_iff.mp (by simpa [PyData.hasDictAll] using h))
    exact .cons (Dq.dp e a h2.1) (DqAll.dp e b h2.2)
end
/-- plain data: what == and repr know -/
def Pl (d : PyData) : Prop := SeqAt.shaped d = true ∧ d.hasDict = false
theorem lr_eq : LR K (rEqD K) (fun d e P => Pl d ∧ Pl e ∧ P (.bool (PyData.eqv d e))) := fun σ G H sl x y d e P E hx hy ⟨h1, h2, p⟩ Q q =>
  ⟨d, e, hx.dp E.le h1.2, hy.dp E.le h2.2, h1.1, h2.1, q _ _ G H E .refl (.bl _) p⟩
theorem lr_ne : LR K (rNeD K) (fun d e P => Pl d ∧ Pl e ∧ P (.bool (!PyData.eqv d e))) := fun σ G H sl x y d e P E hx hy ⟨h1, h2, p⟩ Q q =>
  ⟨d, e, hx.dp E.le h1.2, hy.dp E.le h2.2, h1.1, h2.1, q _ _ G H E .refl (.bl _) p⟩
/-- is None -/
def isNone : PyData → Bool
  | .none => true
  | _ => false
theorem Dq.isN {v : V} {d : PyData} (h : Dq K G v d) : decide (v = V.non) = isNone d := by
  cases h <;> simp [isNone]
def aIsN (a : AE) : AE := fun sl Q => a sl fun d sl1 => Q (.bool (isNone d)) sl1
def aNotN (a : AE) : AE := fun sl Q => a sl fun d sl1 => Q (.bool (!isNone d)) sl1
theorem le_isN (ha : LE K ta a) : LE K (tIsN ta) (aIsN a) := fun σ G H sl P E p Q q =>
  ha σ G H sl _ E p _ fun x d G1 H1 sl1 E1 g1 d1 p1 => by rw [d1.isN]; exact q _ _ G1 H1 sl1 E1 g1 (.bl _) p1
theorem le_notN (ha : LE K ta a) : LE K (tNotN ta) (aNotN a) := fun σ G H sl P E p Q q =>
  ha σ G H sl _ E p _ fun x d G1 H1 sl1 E1 g1 d1 p1 => by rw [d1.isN]; exact q _ _ G1 H1 sl1 E1 g1 (.bl _) p1

/-! ### an item, a slice -/
theorem atI_get' {xs : List PyData} {vs : List V} {i : Int} {d : PyData} (h : DqAll K G vs xs) (e : atI xs i = some d) : ∃ v, atI vs i = some v ∧ Dq K G v d := by
  unfold atI at e ⊢
  rw [h.length]
  cases q : ixN xs.length i with
  | none => rw [q] at e; cases e
  | some j => rw [q] at e; exact h.get e
def fIx : F2 := fun d e P => match d, e with
  | .list xs, .int i => ∃ x, atI xs i = some x ∧ P x
  | .tuple xs, .int i => ∃ x, atI xs i = some x ∧ P x
  | _, _ => False
theorem lr_ix : LR K (rIx K) fIx := fun σ G H sl x y d e P E hx hy p Q q => by
  unfold fIx at p
  split at p
  · obtain ⟨z, hz, p⟩ := p
    cases hy
    cases hx with
    | lst s a =>
      obtain ⟨v, hv, dv⟩ := atI_get' a hz
      exact .inl ⟨_, _, _, v, rfl, rfl, E.le.sqL s, hv, q _ _ G H E .refl dv p⟩
  · obtain ⟨z, hz, p⟩ := p
    cases hy
    cases hx with
    | tup s a =>
      obtain ⟨v, hv, dv⟩ := atI_get' a hz
      exact .inr (.inl ⟨_, _, _, v, rfl, rfl, E.le.sqT s.sqT, hv, q _ _ G H E .refl dv p⟩)
  · exact p.elim
end
end R

namespace R
open PySem PySem.Spec PyProof.Rows L2 RX
section
variable {K : Frag} {ta tb te tc : TE} {a b c : AE} {G H : Hp} {σ : L2.St} {tt tu : TT} {t u : AT} {tas : TA} {as : AL}

/-! ### slices -/
abbrev AO := Sls → (Option Int → Sls → Prop) → Prop
def LO (K : Frag) (to : TO) (a : AO) : Prop := ∀ (σ : L2.St) (G H : Hp) (sl : Sls) (P : Option Int → Sls → Prop), Env K G H σ sl → a sl P →
  ∀ Q : Option Int → Hp → Prop, (∀ o G' H' sl', Env K G' H' σ sl' → Grow sl sl' G H G' H' → P o sl' → Q o H') → to σ H Q
def aPart (a : AE) : AO := fun sl Q => a sl fun d sl1 => match d with
  | .int i => Q (some i) sl1
  | _ => False
def aNoPart : AO := fun sl Q => Q none sl
theorem lo_none : LO K tNoPart aNoPart := fun σ G H sl P E p Q q => q _ G H sl E .refl p
theorem lo_some (ha : LE K ta a) : LO K (tPart ta) (aPart a) := fun σ G H sl P E p Q q =>
  ha σ G H sl _ E p _ fun v d G1 H1 sl1 E1 g1 d1 p1 => by
    cases d1 with
    | int i => exact ⟨i, rfl, q _ G1 H1 sl1 E1 g1 p1⟩
    | _ => exact p1.elim
def rSl (K : Frag) : V → Option Int → Option Int → Hp → VK → Prop := fun x lo hi H Q => rSlL K x lo hi H Q ∨ rSlK K x lo hi H Q ∨ C8.rSlX x lo hi H Q
theorem sl_any {X : Cx} : SlR X (rSl X.K) := sl_list.or (sl_tupK.or C8.sl_txt)
def cutD (xs : List PyData) (lo hi : Option Int) : List PyData := (xs.drop (HT.sIx xs.length 0 lo)).take (HT.sIx xs.length xs.length hi - HT.sIx xs.length 0 lo)
def fSl (d : PyData) (lo hi : Option Int) (P : PyData → Prop) : Prop := match d with
  | .list xs => P (.list (cutD xs lo hi))
  | .tuple xs => P (.tuple (cutD xs lo hi))
  | .str x => x.length ≤ sizeLine ∧ P (.str (Txt.slice x lo hi))
  | _ => False
def aSl (a : AE) (l h : AO) : AE := fun sl Q => a sl fun d sl1 => l sl1 fun lo sl2 => h sl2 fun hi sl3 => fSl d lo hi fun z => Q z sl3
theorem DqAll.cut {vs : List V} {xs : List PyData} (h : DqAll K G vs xs) (lo hi : Option Int) : DqAll K G (cutV vs lo hi) (cutD xs lo hi) := by
  unfold cutV cutD
  rw [h.length]
  exact (h.drop _).take _
theorem cutD_whole {xs : List PyData} {lo hi : Option Int} (h : HT.sIx xs.length 0 lo = 0 ∧ HT.sIx xs.length xs.length hi = xs.length) : cutD xs lo hi = xs := by
  unfold cutD
  rw [h.1, h.2, List.drop_zero, Nat.sub_zero, List.take_length]
theorem le_sl {tl th : TO} {l h : AO} (ha : LE K ta a) (hl : LO K tl l) (hh : LO K th h) : LE K (tSl (rSl K) ta tl th) (aSl a l h) := fun σ G H sl P E p Q q =>
  ha σ G H sl _ E p _ fun x d G1 H1 sl1 E1 g1 d1 p1 => hl σ G1 H1 sl1 _ E1 p1 _ fun lo G2 H2 sl2 E2 g2 p2 => hh σ G2 H2 sl2 _ E2 p2 _ fun hi G3 H3 sl3 E3 g3 p3 => by
    have g := (g1.trans g2).trans g3
    have d3 := d1.mono (g2.le.trans g3.le)
    unfold fSl at p3
    cases d3 with
    | lst s al =>
      exact .inl ⟨_, _, rfl, E3.le.sqL s, fun p' hp => q _ _ _ _ _ (E3.new hp) (g.trans (Grow.new E3 hp)) (.lst (SqL.of upd_same) ((al.cut lo hi).mono (Le.new (E3.gnone hp)))) p3⟩
    | tup s al =>
      refine .inr (.inl ⟨_, _, rfl, E3.le.sqT s.sqT, fun e => ?_, fun _ p' o' hp ho => q _ _ _ _ _ (E3.new hp) (g.trans (Grow.new E3 hp)) (.tup (TupK.of upd_same ho) ((al.cut lo hi).mono (Le.new (E3.gnone hp)))) p3⟩)
      rw [al.length] at e
      have p3 : P (.tuple (cutD _ lo hi)) sl3 := p3
      rw [cutD_whole e] at p3
      exact q _ _ _ _ _ E3 g (.tup s al) p3
    | str x => exact .inr (.inr ⟨x, rfl, p3.1, q _ _ _ _ _ E3 g (.str _) p3.2⟩)
    | _ => exact p3.elim

/-! ### tests, and, or, not, if -/
def aTest (a : AE) : AT := fun sl Q => a sl fun d sl1 => match d with
  | .bool k => Q k sl1
  | _ => False
theorem lt_test (ha : LE K ta a) : LT K (tTest ta) (aTest a) := fun σ G H sl P E p Q q =>
  ha σ G H sl _ E p _ fun v d G1 H1 sl1 E1 g1 d1 p1 => by
    cases d1 with
    | bl k => exact ⟨k, rfl, q _ G1 H1 sl1 E1 g1 p1⟩
    | _ => exact p1.elim
theorem lt_B (ha : LE K ta a) : LT K (tB ta) (aTest a) := lt_test ha
/-- a thing's truth -/
def truD : PyData → Bool
  | .none => false
  | .bool b => b
  | .int i => i != 0
  | .str x => (x.length : Int) != 0
  | .list xs => !xs.isEmpty
  | .tuple xs => !xs.isEmpty
  | .dict kvs => !kvs.isEmpty
def okTru : PyData → Prop
  | .str x => x.length ≤ sizeLine
  | .dict _ => False
  | _ => True
def tTru (K : Frag) (ta : TE) : TT := fun σ H Q => ta σ H fun x H' => ∃ k, TruV K x H' k ∧ Q k H'
def aTru (a : AE) : AT := fun sl Q => a sl fun d sl1 => okTru d ∧ Q (truD d) sl1
theorem DqAll.isEmpty {vs : List V} {xs : List PyData} (h : DqAll K G vs xs) : vs.isEmpty = xs.isEmpty := by
  cases h <;> rfl
theorem lt_tru (ha : LE K ta a) : LT K (tTru K ta) (aTru a) := fun σ G H sl P E p Q q =>
  ha σ G H sl _ E p _ fun v d G1 H1 sl1 E1 g1 d1 ⟨ok, p1⟩ => by
    refine ⟨truD d, ?_, q _ G1 H1 sl1 E1 g1 p1⟩
    cases d1 with
    | non => rfl
    | bl k => rfl
    | int i => rfl
    | str x => exact ⟨ok, rfl⟩
    | lst s al => exact .inl ⟨_, E1.le.sqL s, by rw [al.isEmpty]; rfl⟩
    | tup s al => exact .inr (.inl ⟨_, E1.le.sqT s.sqT, by rw [al.isEmpty]; rfl⟩)
    | dic s al => exact (show False from ok).elim
def aAnd (t u : AT) : AT := fun sl Q => t sl fun k sl1 => (k = true → u sl1 Q) ∧ (k = false → Q false sl1)
def aOr (t u : AT) : AT := fun sl Q => t sl fun k sl1 => (k = true → Q true sl1) ∧ (k = false → u sl1 Q)
def aNot (t : AT) : AT := fun sl Q => t sl fun k sl1 => Q (!k) sl1
theorem lt_and (ht : LT K tt t) (hu : LT K tu u) : LT K (tAnd tt tu) (aAnd t u) := fun σ G H sl P E p Q q =>
  ht σ G H sl _ E p _ fun k G1 H1 sl1 E1 g1 p1 => by
    cases k with
    | true => exact hu σ G1 H1 sl1 _ E1 (p1.1 rfl) Q fun b G2 H2 sl2 E2 g2 p2 => q b G2 H2 sl2 E2 (g1.trans g2) p2
    | false => exact q false G1 H1 sl1 E1 g1 (p1.2 rfl)
theorem lt_or (ht : LT K tt t) (hu : LT K tu u) : LT K (tOr tt tu) (aOr t u) := fun σ G H sl P E p Q q =>
  ht σ G H sl _ E p _ fun k G1 H1 sl1 E1 g1 p1 => by
    cases k with
    | false => exact hu σ G1 H1 sl1 _ E1 (p1.2 rfl) Q fun b G2 H2 sl2 E2 g2 p2 => q b G2 H2 sl2 E2 (g1.trans g2) p2
    | true => exact q true G1 H1 sl1 E1 g1 (p1.1 rfl)
theorem lt_not (ht : LT K tt t) : LT K (tNot tt) (aNot t) := fun σ G H sl P E p Q q =>
  ht σ G H sl _ E p _ fun k G1 H1 sl1 E1 g1 p1 => q _ G1 H1 sl1 E1 g1 p1
/-- .. as values, bools -/
def aAndV (a b : AE) : AE := fun sl Q => a sl fun d sl1 => match d with
  | .bool k => (k = true → b sl1 Q) ∧ (k = false → Q (.bool false) sl1)
  | _ => False
def aOrV (a b : AE) : AE := fun sl Q => a sl fun d sl1 => match d with
  | .bool k => (k = true → Q (.bool true) sl1) ∧ (k = false → b sl1 Q)
  | _ => False
def aNotV (a : AE) : AE := fun sl Q => a sl fun d sl1 => match d with
  | .bool k => Q (.bool (!k)) sl1
  | _ => False
theorem le_andV (ha : LE K ta a) (hb : LE K tb b) : LE K (tAndV ta tb) (aAndV a b) := fun σ G H sl P E p Q q =>
  ha σ G H sl _ E p _ fun v d G1 H1 sl1 E1 g1 d1 p1 => by
    cases d1 with
    | bl k =>
      refine ⟨k, rfl, ?_⟩
      cases k with
      | true => exact hb σ G1 H1 sl1 _ E1 (p1.1 rfl) Q fun v d G2 H2 sl2 E2 g2 d2 p2 => q v d G2 H2 sl2 E2 (g1.trans g2) d2 p2
      | false => exact q _ _ G1 H1 sl1 E1 g1 (.bl false) (p1.2 rfl)
    | _ => exact p1.elim
theorem le_orV (ha : LE K ta a) (hb : LE K tb b) : LE K (tOrV ta tb) (aOrV a b) := fun σ G H sl P E p Q q =>
  ha σ G H sl _ E p _ fun v d G1 H1 sl1 E1 g1 d1 p1 => by
    cases d1 with
    | bl k =>
      refine ⟨k, rfl, ?_⟩
      cases k with
      | false => exact hb σ G1 H1 sl1 _ E1 (p1.2 rfl) Q fun v d G2 H2 sl2 E2 g2 d2 p2 => q v d G2 H2 sl2 E2 (g1.trans g2) d2 p2
      | true => exact q _ _ G1 H1 sl1 E1 g1 (.bl true) (p1.1 rfl)
    | _ => exact p1.elim
theorem le_notV (ha : LE K ta a) : LE K (tNotV ta) (aNotV a) := fun σ G H sl P E p Q q =>
  ha σ G H sl _ E p _ fun v d G1 H1 sl1 E1 g1 d1 p1 => by
    cases d1 with
    | bl k => exact ⟨k, rfl, q _ _ G1 H1 sl1 E1 g1 (.bl _) p1⟩
    | _ => exact p1.elim
def aIf (t : AT) (a b : AE) : AE := fun sl Q => t sl fun k sl1 => (k = true → a sl1 Q) ∧ (k = false → b sl1 Q)
theorem le_if (ht : LT K tt t) (ha : LE K ta a) (hb : LE K tb b) : LE K (tIf tt ta tb) (aIf t a b) := fun σ G H sl P E p Q q =>
  ht σ G H sl _ E p _ fun k G1 H1 sl1 E1 g1 p1 => by
    cases k with
    | true => exact ha σ G1 H1 sl1 _ E1 (p1.1 rfl) Q fun v d G2 H2 sl2 E2 g2 d2 p2 => q v d G2 H2 sl2 E2 (g1.trans g2) d2 p2
    | false => exact hb σ G1 H1 sl1 _ E1 (p1.2 rfl) Q fun v d G2 H2 sl2 E2 g2 d2 p2 => q v d G2 H2 sl2 E2 (g1.trans g2) d2 p2
/-- a < b < c -/
def aChain (f g : F2) (a b c : AE) : AE := fun sl Q => a sl fun x sl1 => b sl1 fun y sl2 => f x y fun z => match z with
  | .bool k => (k = true → c sl2 fun w sl3 => g y w fun z' => Q z' sl3) ∧ (k = false → Q (.bool false) sl2)
  | _ => False
theorem le_chain {r r' : R2} {f g : F2} (hr : LR K r f) (hr' : LR K r' g) (ha : LE K ta a) (hb : LE K tb b) (hc : LE K tc c) : LE K (tChain r r' ta tb tc) (aChain f g a b c) := by
  intro σ G H sl P E p Q q
  refine ha σ G H sl _ E p _ fun x d G1 H1 sl1 E1 g1 d1 p1 => ?_
  refine hb σ G1 H1 sl1 _ E1 p1 _ fun y e G2 H2 sl2 E2 g2 d2 p2 => ?_
  refine hr σ G2 H2 sl2 x y d e _ E2 (d1.mono g2.le) d2 p2 _ fun v z G3 H3 E3 g3 d3 p3 => ?_
  cases d3 with
  | bl k =>
    refine ⟨k, rfl, ?_⟩
    cases k with
    | false => exact q _ _ G3 H3 sl2 E3 ((g1.trans g2).trans g3) (.bl false) (p3.2 rfl)
    | true =>
      refine hc σ G3 H3 sl2 _ E3 (p3.1 rfl) _ fun w' x' G4 H4 sl4 E4 g4 d4 p4 => ?_
      exact hr' σ G4 H4 sl4 y w' e x' _ E4 (d2.mono (g3.le.trans g4.le)) d4 p4 Q fun v z G5 H5 E5 g5 d5 p5 => q v z G5 H5 sl4 E5 ((((g1.trans g2).trans g3).trans g4).trans g5) d5 p5
  | _ => exact p3.elim

/-! ### lists of arguments, displays -/
def aNil : AL := fun sl Q => Q [] sl
def aCons (a : AE) (as : AL) : AL := fun sl Q => a sl fun d sl1 => as sl1 fun ds sl2 => Q (d :: ds) sl2
theorem ld_nil : LD K tNil aNil := fun σ G H sl P E p Q q => q _ _ G H sl E .refl .nil p
theorem ld_cons (ha : LE K ta a) (has : LD K tas as) : LD K (tCons ta tas) (aCons a as) := fun σ G H sl P E p Q q =>
  ha σ G H sl _ E p _ fun v d G1 H1 sl1 E1 g1 d1 p1 => has σ G1 H1 sl1 _ E1 p1 _ fun vs ds G2 H2 sl2 E2 g2 d2 p2 => q _ _ G2 H2 sl2 E2 (g1.trans g2) (.cons (d1.mono g2.le) d2) p2
def aTup (as : AL) : AE := fun sl Q => as sl fun ds sl1 => ds.length ≤ sizeLine ∧ Q (.tuple ds) sl1
theorem le_tup (has : LD K tas as) : LE K (tTupK tas) (aTup as) := fun σ G H sl P E p Q q =>
  has σ G H sl _ E p _ fun vs ds G1 H1 sl1 E1 g1 d1 ⟨hz, p1⟩ => ⟨by rw [d1.length]; exact hz, fun p' o' hp ho => q _ _ _ _ _ (E1.new hp) (g1.trans (Grow.new E1 hp)) (.tup (TupK.of upd_same ho) (d1.mono (Le.new (E1.gnone hp)))) p1⟩
def aLst (as : AL) : AL := fun sl Q => as sl fun ds sl1 => ds.length ≤ sizeLine ∧ Q ds sl1
theorem ln_lst (has : LD K tas as) : LN K (tLst tas) (aLst as) := fun σ G H sl P E p Q q =>
  has σ G H sl _ E p _ fun vs ds G1 H1 sl1 E1 g1 d1 ⟨hz, p1⟩ => ⟨by rw [d1.length]; exact hz, fun p' hp =>
    q p' vs ds G1 _ sl1 (E1.newO hp) (g1.trans (Grow.newO hp)) upd_same (E1.gnone hp) (fun o => (E1.own o).1 hp) (g1.back hp) d1 p1⟩
end
end R

namespace R
open PySem PySem.Spec PyProof.Rows L2 RX

/-! ### what is walked -/
/-- a datum, or (w) a pair that a walk has made -/
def DqW (K : Frag) (G : Hp) (w : Bool) (v : V) (d : PyData) : Prop := Dq K G v d ∨ (w = true ∧ ∃ a xs ds, v = .ref a ∧ d = .tuple ds ∧ SqT K G a xs ∧ DqAll K G xs ds)
theorem DqW.get {K : Frag} {G : Hp} {v : V} {d : PyData} (h : DqW K G false v d) : Dq K G v d := h.elim id fun h => nomatch h.1
structure Wk (K : Frag) (w : Bool) (J : It) (sl₀ : Sls) (G H : Hp) (ds : List PyData) : Prop where
  go : ∀ i G' H' sl', Grow sl₀ sl' G H G' H' → Le G' H' → i < ds.length → J.go i H'
  stop : ∀ G' H' sl', Grow sl₀ sl' G H G' H' → Le G' H' → J.stop ds.length H'
  yld : ∀ i G' H' x H'' σ sl d, Grow sl₀ sl G H G' H' → Env K G' H' σ sl → ds[i]? = some d → J.yld i H' x H'' → ∃ G'', Env K G'' H'' σ sl ∧ Grow sl sl G' H' G'' H'' ∧ DqW K G'' w x d
abbrev AI := AL
def LI (K : Frag) (w : Bool) (wi : TI) (a : AI) : Prop := ∀ (σ : L2.St) (G H : Hp) (sl : Sls) (P : List PyData → Sls → Prop), Env K G H σ sl → a sl P →
  ∀ R : It → Hp → Prop, (∀ J ds G' H' sl', Env K G' H' σ sl' → Grow sl sl' G H G' H' → Wk K w J sl' G' H' ds → P ds sl' → R J H') → wi σ H R
section
variable {K : Frag} {ta tb te tc : TE} {a b c : AE} {G H : Hp} {σ : L2.St} {tt tu : TT} {t u : AT} {tas : TA} {as : AL}
theorem Le.sqA {x : Addr} {tp : Bool} {xs : List V} (h : Le G H) (r : SqA K tp G x xs) : SqA K tp H x xs := by
  cases tp with
  | true => exact h.sqT r
  | false => exact h.sqL r
/-- a sequence: a list or a tuple -/
def seqD : PyData → Option (List PyData)
  | .list xs => some xs
  | .tuple xs => some xs
  | _ => none
theorem Dq.seq {v : V} {d : PyData} {ds : List PyData} (h : Dq K G v d) (e : seqD d = some ds) : ∃ tp x xs, v = .ref x ∧ SqA K tp G x xs ∧ DqAll K G xs ds := by
  cases h with
  | lst s al => cases e; exact ⟨false, _, _, rfl, s, al⟩
  | tup s al => cases e; exact ⟨true, _, _, rfl, s.sqT, al⟩
  | _ => cases e
theorem wk_seq {sl₀ : Sls} {tp : Bool} {x : Addr} {xs : List V} {ds : List PyData} (s : SqA K tp G x xs) (al : DqAll K G xs ds) : Wk K false (ItA' K tp x) sl₀ G H ds := by
  have hl := al.length
  have one : ∀ (i : Nat) (G' H' : Hp) (y : V) (σ : L2.St) (sl : Sls) (d : PyData), Le G G' → Env K G' H' σ sl → ds[i]? = some d → (∀ ys, SqA K tp H' x ys → ys[i]? = some y) → ∃ G'', Env K G'' H' σ sl ∧ Grow sl sl G' H' G'' H' ∧ DqW K G'' false y d := fun i G' H' y σ sl d g E e f => by
    obtain ⟨v, hv, dv⟩ := al.get e
    have := (f xs ((g.trans E.le).sqA s)).symm.trans hv
    cases this
    exact ⟨G', E, .refl, .inl (dv.mono g)⟩
  cases tp with
  | true =>
    refine ⟨fun i G' H' sl' g g' hi => ⟨xs, xs[i], (g.le.trans g').sqT s, List.getElem?_eq_getElem (by omega)⟩, fun G' H' sl' g g' => ⟨xs, (g.le.trans g').sqT s, by omega⟩, fun i G' H' y H'' σ sl d g E e hy => ?_⟩
    obtain ⟨rfl, f⟩ := hy
    exact one i G' _ y σ sl d g.le E e f
  | false =>
    refine ⟨fun i G' H' sl' g g' hi => ⟨xs, xs[i], (g.le.trans g').sqL s, List.getElem?_eq_getElem (by omega)⟩, fun G' H' sl' g g' => ⟨xs, (g.le.trans g').sqL s, by omega⟩, fun i G' H' y H'' σ sl d g E e hy => ?_⟩
    obtain ⟨rfl, f⟩ := hy
    exact one i G' _ y σ sl d g.le E e f
def aSeqI (a : AE) : AI := fun sl Q => a sl fun d sl1 => ∃ ds, seqD d = some ds ∧ Q ds sl1
theorem li_seq (ha : LE K ta a) : LI K false (iSeq K ta) (aSeqI a) := fun σ G H sl P E p R r =>
  ha σ G H sl _ E p _ fun v d G1 H1 sl1 E1 g1 d1 ⟨ds, e, p1⟩ => by
    obtain ⟨tp, x, xs, rfl, s, al⟩ := d1.seq e
    exact ⟨tp, x, xs, rfl, E1.le.sqA s, r _ ds G1 H1 sl1 E1 g1 (wk_seq s al) p1⟩
/-- zip of two -/
theorem wk_zip {sl₀ : Sls} {tp up : Bool} {x y : Addr} {xs ys : List V} {ds es : List PyData} (s : SqA K tp G x xs) (al : DqAll K G xs ds) (s' : SqA K up G y ys) (al' : DqAll K G ys es) :
    Wk K true (ItzA K tp up x y) sl₀ G H (List.zipWith (fun d e => .tuple [d, e]) ds es) := by
  have hl := al.length
  have hl' := al'.length
  refine ⟨fun i G' H' sl' g g' hi => ?_, fun G' H' sl' g g' => ⟨xs, ys, (g.le.trans g').sqA s, (g.le.trans g').sqA s', by rw [List.length_zipWith, hl, hl']⟩, fun i G' H' v H'' σ sl d g E e hy => ?_⟩
  · rw [List.length_zipWith] at hi
    exact ⟨xs, ys, xs[i], ys[i], (g.le.trans g').sqA s, (g.le.trans g').sqA s', List.getElem?_eq_getElem (by omega), List.getElem?_eq_getElem (by omega)⟩
  · have g := g.le
    obtain ⟨T, vx, vy, rfl, hT, rfl, f, f'⟩ := hy
    rw [List.getElem?_zipWith] at e
    cases hd : ds[i]? with
    | none => rw [hd] at e; cases e
    | some d1 =>
      cases he : es[i]? with
      | none => rw [hd, he] at e; cases e
      | some e1 =>
        rw [hd, he] at e
        cases e
        obtain ⟨v1, hv1, q1⟩ := al.get hd
        obtain ⟨v2, hv2, q2⟩ := al'.get he
        have e1 := (f xs ((g.trans E.le).sqA s)).symm.trans hv1
        have e2 := (f' ys ((g.trans E.le).sqA s')).symm.trans hv2
        cases e1; cases e2
        exact ⟨_, E.new hT, Grow.new E hT, .inr ⟨rfl, _, _, _, rfl, rfl, SqT.of upd_same, .cons ((q1.mono g).mono (Le.new (E.gnone hT))) (.cons ((q2.mono g).mono (Le.new (E.gnone hT))) .nil)⟩⟩
def aZip (a b : AE) : AI := fun sl Q => a sl fun d sl1 => b sl1 fun e sl2 => ∃ ds es, seqD d = some ds ∧ seqD e = some es ∧ Q (List.zipWith (fun d e => .tuple [d, e]) ds es) sl2
theorem li_zip (ha : LE K ta a) (hb : LE K tb b) : LI K true (iZipM K (tCons ta (tCons tb tNil))) (aZip a b) := fun σ G H sl P E p R r =>
  ha σ G H sl _ E p _ fun v d G1 H1 sl1 E1 g1 d1 p1 => hb σ G1 H1 sl1 _ E1 p1 _ fun w e G2 H2 sl2 E2 g2 d2 ⟨ds, es, e1, e2, p2⟩ => by
    obtain ⟨tp, x, xs, rfl, s, al⟩ := (d1.mono g2.le).seq e1
    obtain ⟨up, y, ys, rfl, s', al'⟩ := d2.seq e2
    exact ⟨tp, up, x, y, xs, ys, rfl, E2.le.sqA s, E2.le.sqA s', r _ _ G2 H2 sl2 E2 (g1.trans g2) (wk_zip s al s' al') p2⟩
/-- ranges -/
def rgD (lo : Int) (n : Nat) : List PyData := (List.range n).map fun (i : Nat) => .int (lo + i)
theorem rgD_get {lo : Int} {n i : Nat} {d : PyData} (e : (rgD lo n)[i]? = some d) : i < n ∧ d = .int (lo + i) := by
  unfold rgD at e
  rw [List.getElem?_map] at e
  by_cases h : i < n
  · rw [List.getElem?_range h] at e
    exact ⟨h, (Option.some.inj e).symm⟩
  · rw [List.getElem?_eq_none (by rw [List.length_range]; omega)] at e; cases e
theorem wk_rg {sl₀ : Sls} (lo : Int) (n : Nat) : Wk K false (Itr lo n) sl₀ G H (rgD lo n) := by
  have hl : (rgD lo n).length = n := by unfold rgD; rw [List.length_map, List.length_range]
  refine ⟨fun i _ _ _ _ _ hi => by rw [hl] at hi; exact hi, fun _ _ _ _ _ => by rw [hl]; exact Nat.le_refl _, fun i G' H' v H'' σ sl d g E e hy => ?_⟩
  obtain ⟨rfl, rfl⟩ := hy
  obtain ⟨_, rfl⟩ := rgD_get e
  exact ⟨G', E, .refl, .inl (.int _)⟩
def aRng1 (a : AE) : AI := fun sl Q => a sl fun d sl1 => match d with
  | .int j => (-(2 ^ 62) ≤ j ∧ j < 2 ^ 62) ∧ Q (rgD 0 j.toNat) sl1
  | _ => False
theorem li_rng1 (ha : LE K ta a) : LI K false (iRng1 (tCons ta tNil)) (aRng1 a) := fun σ G H sl P E p R r =>
  ha σ G H sl _ E p _ fun v d G1 H1 sl1 E1 g1 d1 p1 => by
    cases d1 with
    | int j => exact ⟨j, rfl, p1.1.1, p1.1.2, r _ _ G1 H1 sl1 E1 g1 (wk_rg 0 _) p1.2⟩
    | _ => exact p1.elim
def aRng2 (a b : AE) : AI := fun sl Q => a sl fun d sl1 => b sl1 fun e sl2 => match d, e with
  | .int i, .int j => (-(2 ^ 62) ≤ i ∧ i < 2 ^ 62 ∧ -(2 ^ 62) ≤ j ∧ j < 2 ^ 62) ∧ Q (rgD i (j - i).toNat) sl2
  | _, _ => False
theorem li_rng2 (ha : LE K ta a) (hb : LE K tb b) : LI K false (iRng2 (tCons ta (tCons tb tNil))) (aRng2 a b) := fun σ G H sl P E p R r =>
  ha σ G H sl _ E p _ fun v d G1 H1 sl1 E1 g1 d1 p1 => hb σ G1 H1 sl1 _ E1 p1 _ fun w e G2 H2 sl2 E2 g2 d2 p2 => by
    cases d1 with
    | int i =>
      cases d2 with
      | int j => exact ⟨i, j, rfl, p2.1, r _ _ G2 H2 sl2 E2 (g1.trans g2) (wk_rg i _) p2.2⟩
      | _ => exact p2.elim
    | _ => exact p2.elim

/-! ### targets -/
abbrev AG := PyData → Sls → (Sls → Prop) → Prop
def LG (K : Frag) (w : Bool) (ix : List Nat) (g : TG) (a : AG) : Prop := ∀ (σ : L2.St) (G H : Hp) (sl : Sls) (v : V) (d : PyData) (P : Sls → Prop), Env K G H σ sl → DqW K G w v d → a d sl P →
  ∀ Q : L2.St → Hp → Prop, (∀ σ' sl', Env K G H σ' sl' → Grow sl sl' G H G H → (∀ vs, (∀ j ∈ ix, j ∈ vs) → wipe σ' vs = wipe σ vs) → P sl' → Q σ' H) → g v σ H Q
abbrev AGs := List PyData → Sls → (Sls → Prop) → Prop
def LGs (K : Frag) (ix : List Nat) (g : TGs) (a : AGs) : Prop := ∀ (σ : L2.St) (G H : Hp) (sl : Sls) (vs : List V) (ds : List PyData) (P : Sls → Prop), Env K G H σ sl → DqAll K G vs ds → a ds sl P →
  ∀ Q : L2.St → Hp → Prop, (∀ σ' sl', Env K G H σ' sl' → Grow sl sl' G H G H → (∀ vs, (∀ j ∈ ix, j ∈ vs) → wipe σ' vs = wipe σ vs) → P sl' → Q σ' H) → g vs σ H Q
theorem wipe_set {x : Option V} {i : Nat} : ∀ {vs : List Nat}, i ∈ vs → wipe (σ.set i x) vs = wipe σ vs
  | v :: vs, h => by
    show (wipe (σ.set i x) vs).set v none = (wipe σ vs).set v none
    by_cases e : i ∈ vs
    · rw [wipe_set e]
    · have ev : i = v := (List.mem_cons.mp h).resolve_right e
      subst ev
      have : ∀ (vs : List Nat), (wipe (σ.set i x) vs).set i none = (wipe σ vs).set i none := fun vs => by
        induction vs with
        | nil => show (σ.set i x).set i none = σ.set i none; rw [List.set_set]
        | cons w ws ih =>
          show ((wipe (σ.set i x) ws).set w none).set i none = ((wipe σ ws).set w none).set i none
          by_cases ew : w = i
          · subst ew
            rw [List.set_set, List.set_set, ih]
          · rw [List.set_comm _ _ ew, ih, List.set_comm _ _ ew]
      exact this vs
theorem Grow.less {sl sl' : Sls} (h : ∀ x, Own sl' x → Own sl x) : Grow sl sl' G H G H := ⟨fun _ _ _ e => e, Le.refl _, fun _ _ _ g => g, fun x hx => .inl (h x hx), fun _ h => h⟩
theorem own_set_d {sl : Sls} {i : Nat} {d : PyData} {x : Addr} (h : Own (sl.set i (.d d)) x) : Own sl x := h.of_set.elim id fun e => nomatch e
def aName (i : Nat) : AG := fun d sl Q => Q (sl.set i (.d d))
theorem lg_name (i : Nat) : LG K false [i] (gName i) (aName i) := fun σ G H sl v d P E hd p Q q =>
  q _ _ (E.set (s := .d d) ⟨v, rfl, hd.get⟩ fun _ z => nomatch z) (.less fun _ h => own_set_d h) (fun vs h => wipe_set (h i (by simp))) p
def aGNil : AGs := fun ds sl Q => match ds with
  | [] => Q sl
  | _ => False
def aGCons (g : AG) (gs : AGs) : AGs := fun ds sl Q => match ds with
  | d :: ds => g d sl fun sl1 => gs ds sl1 Q
  | _ => False
theorem lgs_nil : LGs K [] gNil aGNil := fun σ G H sl vs ds P E hd p Q q => by
  cases hd with
  | nil => exact ⟨rfl, q σ sl E .refl (fun _ _ => rfl) p⟩
  | cons _ _ => exact p.elim
theorem lgs_cons {ix ixs : List Nat} {g : TG} {gs : TGs} {a : AG} {as : AGs} (h : LG K false ix g a) (hs : LGs K ixs gs as) : LGs K (ix ++ ixs) (gCons g gs) (aGCons a as) := fun σ G H sl vs ds P E hd p Q q => by
  cases hd with
  | nil => exact p.elim
  | cons d1 d2 =>
    refine ⟨_, _, rfl, h σ G H sl _ _ _ E (.inl d1) p _ fun σ' sl' E' g' w' p' => hs σ' G H sl' _ _ _ E' d2 p' Q fun σ2 sl2 E2 g2 w2 p2 => q σ2 sl2 E2 (g'.trans g2) (fun vs hv => ?_) p2⟩
    rw [w2 vs fun j hj => hv j (List.mem_append_right _ hj), w' vs fun j hj => hv j (List.mem_append_left _ hj)]
def aGTup (n : Nat) (gs : AGs) : AG := fun d sl Q => match d with
  | .tuple ds => ds.length = n ∧ gs ds sl Q
  | _ => False
theorem lg_tup {w : Bool} {ix : List Nat} {n : Nat} {gs : TGs} {as : AGs} (hs : LGs K ix gs as) : LG K w ix (gTup K n gs) (aGTup n as) := fun σ G H sl v d P E hd p Q q => by
  rcases hd with hd | ⟨_, a, xs, ds, rfl, rfl, s, al⟩
  · cases hd with
    | tup s al => exact ⟨_, _, rfl, E.le.sqT s.sqT, by rw [al.length]; exact p.1, hs σ G H sl _ _ P E al p.2 Q q⟩
    | _ => exact p.elim
  · exact ⟨_, _, rfl, E.le.sqT s, by rw [al.length]; exact p.1, hs σ G H sl _ _ P E al p.2 Q q⟩

/-! ### list comprehensions -/
def unS (sl : Sls) : List Nat → Sls
  | [] => sl
  | v :: vs => (unS sl vs).set v .un
theorem Env.set_un {sl : Sls} (E : Env K G H σ sl) (i : Nat) (x : Option V) : Env K G H (σ.set i x) (sl.set i .un) := by
  refine ⟨E.le, by rw [List.length_set, List.length_set]; exact E.len, fun j u t h1 h2 => ?_, fun j k t u l h1 h2 h3 h4 => ?_⟩
  · by_cases e : i = j
    · subst e
      have hi2 := (List.getElem?_eq_some_iff.mp h2).1
      rw [List.length_set] at hi2
      rw [List.getElem?_set_self hi2] at h2
      cases h2
      trivial
    · rw [List.getElem?_set_ne e] at h1 h2
      exact E.ok j u t h1 h2
  · have old : ∀ {j : Nat} {r : Slot}, (sl.set i .un)[j]? = some r → r.addr = some l → sl[j]? = some r := fun {j r} q a => by
      by_cases e : i = j
      · subst e
        have hi := (List.getElem?_eq_some_iff.mp q).1
        rw [List.length_set] at hi
        rw [List.getElem?_set_self hi] at q
        cases q; cases a
      · rw [List.getElem?_set_ne e] at q; exact q
    exact E.one j k t u l (old h1 h3) (old h2 h4) h3 h4
theorem Env.wiped {sl : Sls} (E : Env K G H σ sl) : ∀ vs : List Nat, Env K G H (wipe σ vs) (unS sl vs)
  | [] => E
  | v :: vs => (Env.wiped E vs).set_un v none
theorem Env.back {sl : Sls} {vs : List Nat} (E : Env K G H (wipe σ vs) sl) : Env K G H σ sl :=
  ⟨E.le, by rw [← E.len, wipe_length], fun i v s h1 h2 => by
    have hi : i < (wipe σ vs).length := by rw [wipe_length]; exact (List.getElem?_eq_some_iff.mp h1).1
    have q := E.ok i _ s (List.getElem?_eq_getElem hi) h2
    have old : ∀ u, (wipe σ vs)[i] = some u → v = some u := fun u e => by
      have e2 : (wipe σ vs)[i]? = some (some u) := by rw [List.getElem?_eq_getElem hi, e]
      have e3 := (wipe_some e2).1
      rw [h1] at e3
      exact Option.some.inj e3
    cases s with
    | un => trivial
    | d x => obtain ⟨u, e, d⟩ := q; exact ⟨u, old u e, d⟩
    | m l xs => obtain ⟨e, r⟩ := q; exact ⟨old _ e, r⟩
    | md l xs => obtain ⟨e, r⟩ := q; exact ⟨old _ e, r⟩
    | ob l C fs => obtain ⟨e, r⟩ := q; exact ⟨old _ e, r⟩, E.one⟩
theorem own_unS {sl : Sls} {x : Addr} : ∀ {vs : List Nat}, Own (unS sl vs) x → Own sl x
  | [], h => h
  | v :: vs, h => own_unS (vs := vs) ((Own.of_set h).elim id fun e => nomatch e)
theorem wipe_wipe : ∀ vs : List Nat, wipe (wipe σ vs) vs = wipe σ vs := fun vs => by
  have key : ∀ (us : List Nat), (∀ j ∈ us, j ∈ vs) → wipe (wipe σ us) vs = wipe σ vs := fun us => by
    induction us with
    | nil => intro _; rfl
    | cons u us ih =>
      intro h
      show wipe ((wipe σ us).set u none) vs = _
      rw [wipe_set (h u List.mem_cons_self)]
      exact ih fun j hj => h j (List.mem_cons_of_mem _ hj)
  exact key vs fun _ h => h
def lcR (g : AG) (t : AT) (e : AE) (vs : List Nat) (Q : List PyData → Sls → Prop) : List PyData → Sls → List PyData → Prop
  | [], sl, acc => Q acc (unS sl vs)
  | d :: ds, sl, acc => g d (unS sl vs) fun sl2 => t sl2 fun b sl3 => (b = true → e sl3 fun y sl4 => acc.length < sizeLine ∧ lcR g t e vs Q ds (unS sl4 vs) (acc ++ [y])) ∧ (b = false → lcR g t e vs Q ds (unS sl3 vs) acc)
def aLc (it : AI) (g : AG) (t : AT) (e : AE) (vs : List Nat) : AL := fun sl Q => it sl fun ds sl1 => lcR g t e vs Q ds sl1 []
/-- one's own list D beside the slots -/
structure Mine (K : Frag) (G H : Hp) (sl : Sls) (D : Addr) (acc : List PyData) : Prop where
  at_ : ∃ vs, H D = some (.lst vs) ∧ DqAll K G vs acc
  gn : G D = none
  no : ¬ Own sl D
theorem Mine.grow {sl sl' : Sls} {G' H' : Hp} {D : Addr} {acc : List PyData} (m : Mine K G H sl D acc) (g : Grow sl sl' G H G' H') : Mine K G' H' sl' D acc := by
  obtain ⟨vs, h1, h2⟩ := m.at_
  have nn : H D ≠ none := by rw [h1]; simp
  exact ⟨⟨vs, g.keep D _ m.no h1, h2.mono g.le⟩, g.ap D m.no nn m.gn, fun o => (g.own D o).elim m.no nn⟩
theorem Mine.less {sl sl' : Sls} {D : Addr} {acc : List PyData} (m : Mine K G H sl D acc) (h : ∀ x, Own sl' x → Own sl x) : Mine K G H sl' D acc := ⟨m.at_, m.gn, fun o => m.no (h D o)⟩
theorem Env.mine {sl : Sls} {D : Addr} {o : HO} (E : Env K G H σ sl) (gn : G D = none) (no : ¬ Own sl D) : Env K G (upd H D o) σ sl :=
  E.step (Le.refl _) (E.le.out gn) fun x hx => ⟨upd_ne (fun e => no (by rw [← e]; exact hx)), (E.own hx).2⟩
theorem Grow.mine {sl sl' : Sls} {G' H' : Hp} {D : Addr} {o : HO} (g : Grow sl sl' G H G' H') (h : H D = none) : Grow sl sl' G H G' (upd H' D o) :=
  ⟨fun x u n e => by rw [upd_ne (ne_of_none e h)]; exact g.keep x u n e, g.le, g.ap, g.own, fun x hx => by
    by_cases z : x = D
    · rw [z, upd_same]; simp
    · rw [upd_ne z]; exact g.there x hx⟩
theorem ln_lc {w : Bool} {wi : TI} {it : AI} {ix : List Nat} {g : TG} {ag : AG} {vs : List Nat} (hi : LI K w wi it) (hg : LG K w ix g ag) (ht : LT K tt t) (he : LE K te a) (hv : ∀ j ∈ ix, j ∈ vs := by decide) :
    LN K (tLc wi g tt te vs) (aLc it ag t a vs) := by
  intro σ G H sl P E p Q q
  refine hi σ G H sl _ E p _ fun J ds G1 H1 sl1 E1 g1 wk p1 => ?_
  intro D hD
  have gD := E1.gnone hD
  -- the state ahead of turn i
  let S : Nat → Hp → Prop := fun i Hi => ∃ Gi sli acc, i ≤ ds.length ∧ Env K Gi Hi σ sli ∧ Mine K Gi Hi sli D acc ∧ Grow sl1 sli G1 H1 Gi Hi ∧ lcR ag t a vs P (ds.drop i) sli acc
  refine ⟨fun i m Hi => m = ds.length - i ∧ S i Hi, ⟨_, rfl, G1, sl1, [], Nat.zero_le _, E1.newO hD, ⟨⟨[], upd_same, .nil⟩, gD, fun o => (E1.own o).1 hD⟩, Grow.newO hD, p1⟩, ?_⟩
  rintro i m Hi ⟨rfl, Gi, sli, acc, hle, Ei, mi, ki, pi⟩
  by_cases hlt : i < ds.length
  · obtain ⟨d, hd⟩ : ∃ d, ds[i]? = some d := ⟨_, List.getElem?_eq_getElem hlt⟩
    have hdrop : ds.drop i = d :: ds.drop (i + 1) := by
      rw [List.drop_eq_getElem_cons hlt]
      rw [List.getElem?_eq_getElem hlt] at hd
      rw [Option.some.inj hd]
    rw [hdrop] at pi
    refine .inr ⟨wk.go i Gi Hi sli ki Ei.le hlt, S (i + 1), fun H' s' => ⟨ds.length - (i + 1), by omega, rfl, s'⟩, fun x H2 hy => ?_⟩
    obtain ⟨G2, E2, g2, d2⟩ := wk.yld i Gi Hi x H2 σ sli d ki Ei hd hy
    have m2 := mi.grow g2
    -- within the block
    refine hg (wipe σ vs) G2 H2 (unS sli vs) x d _ (E2.wiped vs) d2 pi _ fun σ3 sl3 E3 g3 w3 p3 => ⟨(w3 vs hv).trans (wipe_wipe vs), ?_⟩
    have ew : wipe σ3 vs = wipe σ vs := (w3 vs hv).trans (wipe_wipe vs)
    refine ht σ3 G2 H2 sl3 _ E3 p3 _ fun k G4 H4 sl4 E4 g4 p4 => ?_
    have g24 : Grow sli sl4 G2 H2 G4 H4 := ((Grow.less fun x h => own_unS h).trans g3).trans g4
    cases k with
    | false =>
      refine ite_ff ?_
      have E5 : Env K G4 H4 σ (unS sl4 vs) := by
        have z := E4.wiped vs
        rw [ew] at z
        exact z.back
      have g5 : Grow sli (unS sl4 vs) G2 H2 G4 H4 := g24.trans (.less fun x h => own_unS h)
      exact ⟨G4, unS sl4 vs, acc, hlt, E5, m2.grow g5, (ki.trans g2).trans g5, p4.2 rfl⟩
    | true =>
      refine ite_tt ?_
      refine he σ3 G4 H4 sl4 _ E4 (p4.1 rfl) _ fun y dy G5 H5 sl5 E5 g5 d5 ⟨hz, p5⟩ => ?_
      have g25 : Grow sli (unS sl5 vs) G2 H2 G5 H5 := (g24.trans g5).trans (.less fun x h => own_unS h)
      have m5 := m2.grow g25
      obtain ⟨avs, hav, dav⟩ := m5.at_
      have E6 : Env K G5 H5 σ (unS sl5 vs) := by
        have z := E5.wiped vs
        rw [ew] at z
        exact z.back
      exact ⟨avs, hav, by rw [dav.length]; exact hz, G5, unS sl5 vs, acc ++ [dy], hlt, E6.mine m5.gn m5.no, ⟨⟨_, upd_same, dav.append (.cons d5 .nil)⟩, m5.gn, m5.no⟩, ((ki.trans g2).trans g25).mine hD, p5⟩
  · have e : i = ds.length := by omega
    subst e
    rw [List.drop_length] at pi
    refine .inl ⟨wk.stop Gi Hi sli ki Ei.le, ?_⟩
    obtain ⟨avs, hav, dav⟩ := mi.at_
    exact q D avs acc Gi Hi (unS sli vs) (Ei.wiped vs).back ((g1.trans ki).trans (.less fun x h => own_unS h)) hav mi.gn (fun o => mi.no (own_unS o)) (g1.back hD) dav pi
end
end R

namespace R
open PySem PySem.Spec PyProof.Rows L2 RX

/-! ### dicts with keys that are ints or texts -/
def keyIs' : PyData → Key → Bool
  | .int i, .inl j => decide (i = j)
  | .str x, .inr y => decide (x = y)
  | _, _ => false
def lookD : List (PyData × PyData) → Key → Option PyData
  | [], _ => none
  | (a, b) :: r, k => if keyIs' a k = true then some b else lookD r k
def putD : List (PyData × PyData) → Key → PyData → List (PyData × PyData) := fun kvs k d =>
  if (lookD kvs k).isSome then kvs.map fun p => if keyIs' p.1 k = true then (p.1, d) else p else kvs ++ [(kD k, d)]
def keyOf : PyData → Option Key
  | .int i => some (.inl i)
  | .str x => some (.inr x)
  | _ => none
theorem keyIs_kD (j k : Key) : keyIs' (kD j) k = decide (j = k) := by
  cases j with
  | inl i => cases k with
    | inl i' => by_cases e : i = i' <;> simp [keyIs', kD, e]
    | inr y => simp [keyIs', kD]
  | inr x => cases k with
    | inl i' => simp [keyIs', kD]
    | inr y => by_cases e : x = y <;> simp [keyIs', kD, e]
section
variable {K : Frag} {ta tb te tc : TE} {a b c : AE} {G H : Hp} {σ : L2.St} {tt tu : TT} {t u : AT} {tas : TA} {as : AL}
theorem valV_cons {j k : Key} {v : V} {r : List (Key × V)} : valV ((j, v) :: r) k = if j = k then some v else valV r k := by
  by_cases e : j = k
  · rw [if_pos e]; exact valV_pos e
  · rw [if_neg e]; exact valV_neg e
theorem DqKv.val (k : Key) : ∀ {vs : List (Key × V)} {ds : List (PyData × PyData)}, DqKv K G vs ds → (∀ d, lookD ds k = some d → ∃ v, valV vs k = some v ∧ Dq K G v d) ∧ (lookD ds k = none → valV vs k = none)
  | _, _, .nil => ⟨(fun d e => by cases (show (none : Option PyData) = some d from e)), fun _ => rfl⟩
  | _, _, .cons (k := j) (v := v) (d := d) h r => by
    have ih := DqKv.val k r
    unfold lookD
    rw [keyIs_kD, valV_cons]
    by_cases e : j = k
    · rw [if_pos e, if_pos (decide_eq_true e)]
      exact ⟨fun d' e' => ⟨v, rfl, by cases e'; exact h⟩, fun e' => nomatch e'⟩
    · rw [if_neg e, if_neg (by simp [e])]
      exact ih
theorem DqKv.valSome (k : Key) {vs : List (Key × V)} {ds : List (PyData × PyData)} (h : DqKv K G vs ds) : (valV vs k).isSome = (lookD ds k).isSome := by
  cases e : lookD ds k with
  | none => rw [(h.val k).2 e]; rfl
  | some d => obtain ⟨v, hv, _⟩ := (h.val k).1 d e; rw [hv]; rfl
theorem DqKv.mapPut (k : Key) {v : V} {d : PyData} (q : Dq K G v d) : ∀ {vs : List (Key × V)} {ds : List (PyData × PyData)}, DqKv K G vs ds → DqKv K G (vs.map fun kv => if kv.1 = k then (kv.1, v) else kv) (ds.map fun p => if keyIs' p.1 k = true then (p.1, d) else p)
  | _, _, .nil => .nil
  | _, _, .cons (k := j) (v := v') (d := d') h r => by
    rw [List.map_cons, List.map_cons]
    have ih := DqKv.mapPut k q r
    show DqKv K G ((if j = k then (j, v) else (j, v')) :: _) ((if keyIs' (kD j) k = true then (kD j, d) else (kD j, d')) :: _)
    rw [keyIs_kD]
    by_cases e : j = k
    · rw [if_pos e, if_pos (decide_eq_true e)]; exact .cons q ih
    · rw [if_neg e, if_neg (by simp [e])]; exact .cons h ih
theorem DqKv.append : ∀ {vs us : List (Key × V)} {ds es : List (PyData × PyData)}, DqKv K G vs ds → DqKv K G us es → DqKv K G (vs ++ us) (ds ++ es)
  | _, _, _, _, .nil, h => h
  | _, _, _, _, .cons a b, h => .cons a (DqKv.append b h)
theorem DqKv.put (k : Key) {v : V} {d : PyData} {vs : List (Key × V)} {ds : List (PyData × PyData)} (h : DqKv K G vs ds) (q : Dq K G v d) : DqKv K G (putK vs k v) (putD ds k d) := by
  unfold putD
  cases e : lookD ds k with
  | none =>
    rw [putK_new v ((h.val k).2 e)]
    exact h.append (.cons q .nil)
  | some d' =>
    obtain ⟨v', hv, _⟩ := (h.val k).1 d' e
    have hh : (vs.any fun kv => decide (kv.1 = k)) = true := by rw [valV_any, hv]; rfl
    have ep : putK vs k v = vs.map fun kv => if kv.1 = k then (kv.1, v) else kv := if_pos hh
    rw [ep]
    exact h.mapPut k q
theorem Dq.key {v : V} {d : PyData} {k : Key} (h : Dq K G v d) (e : keyOf d = some k) : v = kV k := by
  cases h with
  | int i => cases e; rfl
  | str x => cases e; rfl
  | _ => cases e
def fDGet : F2 := fun d e P => match d with
  | .dict kvs => ∃ k x, keyOf e = some k ∧ lookD kvs k = some x ∧ P x
  | _ => False
def aDGet (a b : AE) : AE := fun sl Q => a sl fun d sl1 => b sl1 fun e sl2 => fDGet d e fun z => Q z sl2
theorem le_dget (ha : LE K ta a) (hb : LE K tb b) : LE K (tDGet ta tb) (aDGet a b) := fun σ G H sl P E p Q q =>
  ha σ G H sl _ E p _ fun x d G1 H1 sl1 E1 g1 d1 p1 => hb σ G1 H1 sl1 _ E1 p1 _ fun y e G2 H2 sl2 E2 g2 d2 p2 => by
    have d1 := d1.mono g2.le
    cases d1 with
    | dic s al =>
      obtain ⟨k, z, hk, hz, p2⟩ := p2
      obtain ⟨v, hv, dv⟩ := (al.val k).1 z hz
      exact ⟨_, v, rfl, .inl ⟨_, k, E2.le.rd _ _ trivial s, d2.key hk, hv.symm⟩, q v z G2 H2 sl2 E2 (g1.trans g2) dv p2⟩
    | _ => exact p2.elim
def fDIn (neg : Bool) (e d : PyData) (P : PyData → Prop) : Prop := match d with
  | .dict kvs => ∃ k, keyOf e = some k ∧ P (.bool (if neg then !(lookD kvs k).isSome else (lookD kvs k).isSome))
  | _ => False
def aDIn (neg : Bool) (a b : AE) : AE := fun sl Q => a sl fun e sl1 => b sl1 fun d sl2 => fDIn neg e d fun z => Q z sl2
theorem le_din (ha : LE K ta a) (hb : LE K tb b) : LE K (tDIn ta tb) (aDIn false a b) := fun σ G H sl P E p Q q =>
  ha σ G H sl _ E p _ fun x d G1 H1 sl1 E1 g1 d1 p1 => hb σ G1 H1 sl1 _ E1 p1 _ fun y e G2 H2 sl2 E2 g2 d2 p2 => by
    cases d2 with
    | dic s al =>
      obtain ⟨k, hk, p2⟩ := p2
      refine ⟨_, _, rfl, .inl ⟨_, k, E2.le.rd _ _ trivial s, d1.key hk, rfl⟩, ?_⟩
      rw [al.valSome k]
      exact q _ _ G2 H2 sl2 E2 (g1.trans g2) (.bl _) p2
    | _ => exact p2.elim
theorem le_dnotin (ha : LE K ta a) (hb : LE K tb b) : LE K (tDNotIn ta tb) (aDIn true a b) := fun σ G H sl P E p Q q =>
  ha σ G H sl _ E p _ fun x d G1 H1 sl1 E1 g1 d1 p1 => hb σ G1 H1 sl1 _ E1 p1 _ fun y e G2 H2 sl2 E2 g2 d2 p2 => by
    cases d2 with
    | dic s al =>
      obtain ⟨k, hk, p2⟩ := p2
      refine ⟨_, _, rfl, .inl ⟨_, k, E2.le.rd _ _ trivial s, d1.key hk, rfl⟩, ?_⟩
      rw [al.valSome k]
      exact q _ _ G2 H2 sl2 E2 (g1.trans g2) (.bl _) p2
    | _ => exact p2.elim
/-! ### calls of built-ins on data -/
abbrev FC := List PyData → (PyData → Prop) → Prop
def LC (K : Frag) (r : List V → Hp → VK → Prop) (f : FC) : Prop := ∀ (σ : L2.St) (G H : Hp) (sl : Sls) (vs : List V) (ds : List PyData) (P : PyData → Prop), Env K G H σ sl → DqAll K G vs ds → f ds P →
  ∀ Q : VK, (∀ v z G' H', Env K G' H' σ sl → Grow sl sl G H G' H' → Dq K G' v z → P z → Q v H') → r vs H Q
def aCB (f : FC) (as : AL) : AE := fun sl Q => as sl fun ds sl1 => f ds fun z => Q z sl1
theorem le_CB {r : List V → Hp → VK → Prop} {f : FC} (hr : LC K r f) (has : LD K tas as) : LE K (tCB r tas) (aCB f as) := fun σ G H sl P E p Q q =>
  has σ G H sl _ E p _ fun vs ds G1 H1 sl1 E1 g1 d1 p1 => hr σ G1 H1 sl1 vs ds _ E1 d1 p1 Q fun v z G2 H2 E2 g2 d2 p2 => q v z G2 H2 sl1 E2 (g1.trans g2) d2 p2
theorem dq1 {vs : List V} {d : PyData} (h : DqAll K G vs [d]) : ∃ v, vs = [v] ∧ Dq K G v d := by
  cases h with
  | cons a b => cases b; exact ⟨_, rfl, a⟩
theorem dq2 {vs : List V} {d e : PyData} (h : DqAll K G vs [d, e]) : ∃ v w, vs = [v, w] ∧ Dq K G v d ∧ Dq K G w e := by
  cases h with
  | cons a b =>
    cases b with
    | cons b c => cases c; exact ⟨_, _, rfl, a, b⟩
def fLen : FC := fun ds P => match ds with
  | [.list xs] => P (.int xs.length)
  | [.tuple xs] => P (.int xs.length)
  | [.str x] => x.length ≤ sizeLine ∧ P (.int x.length)
  | _ => False
def rLenD (K : Frag) : List V → Hp → VK → Prop := fun xs H Q => ∃ x n, xs = [x] ∧ LenV K x H n ∧ Q (.int n) H
theorem lc_len : LC K (rLenD K) fLen := fun σ G H sl vs ds P E hd p Q q => by
  unfold fLen at p
  split at p
  · obtain ⟨v, rfl, dv⟩ := dq1 hd
    cases dv with
    | lst s al => exact ⟨_, _, rfl, .inl ⟨_, E.le.sqL s, rfl⟩, q _ _ G H E .refl (by rw [al.length]; exact .int _) p⟩
  · obtain ⟨v, rfl, dv⟩ := dq1 hd
    cases dv with
    | tup s al => exact ⟨_, _, rfl, .inr ⟨_, E.le.sqT s.sqT, rfl⟩, q _ _ G H E .refl (by rw [al.length]; exact .int _) p⟩
  · obtain ⟨v, rfl, dv⟩ := dq1 hd
    cases dv
    exact ⟨_, _, rfl, ⟨p.1, rfl⟩, q _ _ G H E .refl (.int _) p.2⟩
  · exact p.elim
def fTuple : FC := fun ds P => match ds with
  | [.list xs] => P (.tuple xs)
  | [.tuple xs] => P (.tuple xs)
  | _ => False
abbrev rTupOf (K : Frag) : List V → Hp → VK → Prop := rTupOfK K
theorem lc_tuple : LC K (rTupOf K) fTuple := fun σ G H sl vs ds P E hd p Q q => by
  unfold fTuple at p
  split at p
  · obtain ⟨v, rfl, dv⟩ := dq1 hd
    cases dv with
    | lst s al => exact ⟨_, _, rfl, .inl ⟨E.le.sqL s, fun l o hl ho => q _ _ _ _ (E.new hl) (Grow.new E hl) (.tup (TupK.of upd_same ho) (al.mono (Le.new (E.gnone hl)))) p⟩⟩
  · obtain ⟨v, rfl, dv⟩ := dq1 hd
    cases dv with
    | tup s al => exact ⟨_, _, rfl, .inr ⟨E.le.sqT s.sqT, q _ _ G H E .refl (.tup s al) p⟩⟩
  · exact p.elim
/-- list(xs): a new one -/
def rLstOf (K : Frag) : List V → Hp → VK → Prop := fun xs H Q => ∃ p ys, xs = [.ref p] ∧ (SqL K H p ys ∨ SqT K H p ys) ∧ ∀ l, H l = none → Q (.ref l) (upd H l (.lst ys))
def aListOf (a : AE) : AL := fun sl Q => a sl fun d sl1 => ∃ ds, seqD d = some ds ∧ Q ds sl1
theorem ln_list (ha : LE K ta a) : LN K (tCB (rLstOf K) (tCons ta tNil)) (aListOf a) := fun σ G H sl P E p Q q =>
  ha σ G H sl _ E p _ fun v d G1 H1 sl1 E1 g1 d1 ⟨ds, e, p1⟩ => by
    obtain ⟨tp, x, xs, rfl, s, al⟩ := d1.seq e
    have fin : ∀ l, H1 l = none → Q (.ref l) (upd H1 l (.lst xs)) := fun l hl =>
      q l xs ds G1 _ sl1 (E1.newO hl) (g1.trans (Grow.newO hl)) upd_same (E1.gnone hl) (fun o => (E1.own o).1 hl) (g1.back hl) al p1
    cases tp with
    | true => exact ⟨x, xs, rfl, .inr (E1.le.sqT s), fin⟩
    | false => exact ⟨x, xs, rfl, .inl (E1.le.sqL s), fin⟩
/-- [0] * n: a new one -/
def aRep (a : AL) (b : AE) : AL := fun sl Q => a sl fun xs sl1 => b sl1 fun e sl2 => match e with
  | .int k => (-(2 ^ 63) ≤ k ∧ k < 2 ^ 63 ∧ xs.length * k.toNat ≤ sizeLine) ∧ Q (List.replicate k.toNat xs).flatten sl2
  | _ => False
theorem ln_rep {an : AL} (ha : LN K ta an) (hb : LE K tb b) : LN K (tOp rRep ta tb) (aRep an b) := by
  intro σ G H sl P E p Q q
  refine ha σ G H sl _ E p _ fun l vs xs G1 H1 sl1 E1 g1 hl gl no nl hd p1 => ?_
  refine hb σ G1 H1 sl1 _ E1 p1 _ fun y e G2 H2 sl2 E2 g2 d2 p2 => ?_
  cases d2 with
  | int k =>
    have hl2 : H2 l = some (.lst vs) := g2.keep l _ no hl
    refine ⟨l, k, vs, rfl, rfl, hl2, p2.1.1, p2.1.2.1, by rw [hd.length]; exact p2.1.2.2, fun p' hp => ?_⟩
    have g := g1.trans g2
    exact q p' _ _ G2 _ sl2 (E2.newO hp) (g.trans (Grow.newO hp)) upd_same (E2.gnone hp) (fun o => (E2.own o).1 hp) (g.back hp) ((hd.mono g2.le).rep k.toNat) p2.2
  | _ => exact p2.elim
def fSum : FC := fun ds P => ∃ ns : List Int, ds = [.list (ns.map PyData.int)] ∧ P (.int ns.sum)
theorem lc_sum : LC K (rSum K) fSum := fun σ G H sl vs ds P E hd ⟨ns, e, p⟩ Q q => by
  subst e
  obtain ⟨v, rfl, dv⟩ := dq1 hd
  cases dv with
  | lst s al =>
    rw [al.ints_inv] at s
    exact ⟨_, ns, rfl, E.le.sqL s, q _ _ G H E .refl (.int _) p⟩
def fAny : FC := fun ds P => ∃ bs : List Bool, ds = [.list (bs.map PyData.bool)] ∧ P (.bool (bs.any id))
def fAll : FC := fun ds P => ∃ bs : List Bool, ds = [.list (bs.map PyData.bool)] ∧ P (.bool (bs.all id))
theorem lc_any : LC K (rAny K) fAny := fun σ G H sl vs ds P E hd ⟨ns, e, p⟩ Q q => by
  subst e
  obtain ⟨v, rfl, dv⟩ := dq1 hd
  cases dv with
  | lst s al =>
    rw [al.bools_inv] at s
    exact ⟨_, ns, rfl, E.le.sqL s, q _ _ G H E .refl (.bl _) p⟩
theorem lc_all : LC K (rAll K) fAll := fun σ G H sl vs ds P E hd ⟨ns, e, p⟩ Q q => by
  subst e
  obtain ⟨v, rfl, dv⟩ := dq1 hd
  cases dv with
  | lst s al =>
    rw [al.bools_inv] at s
    exact ⟨_, ns, rfl, E.le.sqL s, q _ _ G H E .refl (.bl _) p⟩
def rIntOf : List V → Hp → VK → Prop := fun xs H Q => (∃ i, xs = [.int i] ∧ Q (.int i) H) ∨ ∃ b, xs = [.bl b] ∧ Q (.int (if b then 1 else 0)) H
def fIntOf : FC := fun ds P => match ds with
  | [.int i] => P (.int i)
  | [.bool b] => P (.int (if b then 1 else 0))
  | _ => False
theorem lc_int : LC K rIntOf fIntOf := fun σ G H sl vs ds P E hd p Q q => by
  unfold fIntOf at p
  split at p
  · obtain ⟨v, rfl, dv⟩ := dq1 hd
    cases dv
    exact .inl ⟨_, rfl, q _ _ G H E .refl (.int _) p⟩
  · rename_i b
    obtain ⟨v, rfl, dv⟩ := dq1 hd
    cases dv
    exact .inr ⟨b, rfl, q _ _ G H E .refl (.int _) p⟩
  · exact p.elim
def rAbs : List V → Hp → VK → Prop := fun xs H Q => ∃ i, xs = [.int i] ∧ Q (.int (if i < 0 then -i else i)) H
def fAbs : FC := fun ds P => match ds with
  | [.int i] => P (.int (if i < 0 then -i else i))
  | _ => False
theorem lc_abs : LC K rAbs fAbs := fun σ G H sl vs ds P E hd p Q q => by
  unfold fAbs at p
  split at p
  · obtain ⟨v, rfl, dv⟩ := dq1 hd
    cases dv
    exact ⟨_, rfl, q _ _ G H E .refl (.int _) p⟩
  · exact p.elim
def fRepr : FC := fun ds P => match ds with
  | [d] => (d.showable = true ∧ d.hasDict = false ∧ d.depth ≤ 40 ∧ d.shown.length ≤ sizeLine) ∧ P (.str d.shown)
  | _ => False
theorem lc_repr : LC K (rReprD K) fRepr := fun σ G H sl vs ds P E hd p Q q => by
  unfold fRepr at p
  split at p
  · obtain ⟨v, rfl, dv⟩ := dq1 hd
    exact ⟨v, _, rfl, dv.dp E.le p.1.2.1, p.1.1, p.1.2.1, p.1.2.2.1, p.1.2.2.2, q _ _ G H E .refl (.str _) p.2⟩
  · exact p.elim
/-- isinstance(x, T) -/
def tyD : PyData → String
  | .none => "NoneType"
  | .bool _ => "bool"
  | .int _ => "int"
  | .str _ => "str"
  | .list _ => "list"
  | .tuple _ => "tuple"
  | .dict _ => "dict"
theorem Dq.tyX {v : V} {d : PyData} (e : Le G H) (h : Dq K G v d) (nd : d.hasDict = false) : TyX K H v (.type (tyD d)) := by
  cases h with
  | non => exact .base .non
  | bl b => exact .base (.bl b)
  | int i => exact .base (.int i)
  | str x => exact .base (.str x)
  | lst s al =>
    rcases e.sqL s with (r | ⟨o, r⟩) | ⟨o, its, n, h1, h2, _⟩
    · exact .base (.lst r)
    · exact .base (.frz r)
    · exact .kList h1 h2
  | tup s al =>
    rcases e.sqT s.sqT with (r | ⟨o, r⟩) | ⟨o, its, n, h1, h2, _⟩
    · exact .base (.tup r)
    · exact .fTuple r
    · exact .kTuple h1 h2
  | dic s al => simp [PyData.hasDict] at nd
end
end R

namespace R
open PySem PySem.Spec PyProof.Rows L2 RX

/-! ### calls of defs -/
inductive Arg where
  | d (x : PyData)
  | o (i : Nat)
def slotOf (sl : Sls) : Arg → Slot
  | .d x => .d x
  | .o i => (sl[i]?).getD .un
def noO (i : Nat) : List Arg → Prop
  | [] => True
  | .d _ :: as => noO i as
  | .o j :: as => i ≠ j ∧ noO i as
/-- no own list is handed in twice -/
def OneO : List Arg → Prop
  | [] => True
  | .d _ :: as => OneO as
  | .o i :: as => noO i as ∧ OneO as
theorem noO_get {i : Nat} : ∀ {as : List Arg} {k : Nat}, noO i as → as[k]? = some (.o i) → False
  | [], _, _, h => by simp at h
  | .d _ :: as, 0, _, h => by simp at h
  | .d _ :: as, k + 1, n, h => noO_get (as := as) (k := k) n (by simpa using h)
  | .o j :: as, 0, n, h => by
    simp at h
    exact n.1 h.symm
  | .o j :: as, k + 1, n, h => noO_get (as := as) (k := k) n.2 (by simpa using h)
theorem OneO.get : ∀ {as : List Arg} {k l i : Nat}, OneO as → as[k]? = some (.o i) → as[l]? = some (.o i) → k = l
  | [], _, _, _, _, h, _ => by simp at h
  | .d _ :: as, 0, _, _, _, h, _ => by simp at h
  | .d _ :: as, k + 1, 0, _, _, _, h => by simp at h
  | .d _ :: as, k + 1, l + 1, i, n, h1, h2 => by rw [OneO.get (as := as) (k := k) (l := l) n (by simpa using h1) (by simpa using h2)]
  | .o j :: as, 0, 0, _, _, _, _ => rfl
  | .o j :: as, 0, l + 1, i, n, h1, h2 => by
    simp at h1
    subst h1
    exact (noO_get (k := l) n.1 (by simpa using h2)).elim
  | .o j :: as, k + 1, 0, i, n, h1, h2 => by
    simp at h2
    subst h2
    exact (noO_get (k := k) n.1 (by simpa using h1)).elim
  | .o j :: as, k + 1, l + 1, i, n, h1, h2 => by rw [OneO.get (as := as) (k := k) (l := l) n.2 (by simpa using h1) (by simpa using h2)]
def putBack : Sls → List Arg → Sls → Sls
  | sl, .o i :: as, s :: ss => putBack (sl.set i s) as ss
  | sl, .d _ :: as, _ :: ss => putBack sl as ss
  | sl, _, _ => sl
theorem putBack_len : ∀ {sl : Sls} {as : List Arg} {ss : Sls}, (putBack sl as ss).length = sl.length
  | sl, .o i :: as, s :: ss => by
    show (putBack (sl.set i s) as ss).length = _
    rw [putBack_len, List.length_set]
  | sl, .d _ :: as, _ :: ss => putBack_len (as := as)
  | sl, [], _ => by simp [putBack]
  | sl, .o _ :: _, [] => by simp [putBack]
  | sl, .d _ :: _, [] => by simp [putBack]
theorem putBack_get : ∀ {sl : Sls} {as : List Arg} {ss : Sls} {j : Nat} {x : Slot}, as.length = ss.length → (putBack sl as ss)[j]? = some x →
    (sl[j]? = some x ∧ ∀ k : Nat, as[k]? ≠ some (Arg.o j)) ∨ ∃ k : Nat, as[k]? = some (Arg.o j) ∧ ss[k]? = some x
  | sl, [], ss, j, x, _, h => by
    simp only [putBack] at h
    exact .inl ⟨h, fun k => by simp⟩
  | sl, .o i :: as, [], j, x, hl, _ => by simp at hl
  | sl, .d _ :: as, [], j, x, hl, _ => by simp at hl
  | sl, .d y :: as, s :: ss, j, x, hl, h => by
    have h : (putBack sl as ss)[j]? = some x := h
    rcases putBack_get (by simpa using hl) h with ⟨a, b⟩ | ⟨k, a, b⟩
    · refine .inl ⟨a, fun k => ?_⟩
      cases k with
      | zero => simp
      | succ k => simpa using b k
    · exact .inr ⟨k + 1, by simpa using a, by simpa using b⟩
  | sl, .o i :: as, s :: ss, j, x, hl, h => by
    have h : (putBack (sl.set i s) as ss)[j]? = some x := h
    rcases putBack_get (by simpa using hl) h with ⟨a, b⟩ | ⟨k, a, b⟩
    · by_cases e : i = j
      · subst e
        have hi := (List.getElem?_eq_some_iff.mp a).1
        rw [List.length_set] at hi
        rw [List.getElem?_set_self hi] at a
        exact .inr ⟨0, by simp, by simpa using a⟩
      · rw [List.getElem?_set_ne e] at a
        refine .inl ⟨a, fun k => ?_⟩
        cases k with
        | zero => simpa using fun z => e (by cases z; rfl)
        | succ k => simpa using b k
    · exact .inr ⟨k + 1, by simpa using a, by simpa using b⟩
section
variable {K : Frag} {ta tb te tc : TE} {a b c : AE} {G H : Hp} {σ : L2.St} {tt tu : TT} {t u : AT} {tas : TA} {as : AL}
def ArgOk (K : Frag) (G : Hp) (σ : L2.St) (sl : Sls) (v : V) : Arg → Prop
  | .d x => Dq K G v x
  | .o i => σ[i]? = some (some v) ∧ ∃ s l, sl[i]? = some s ∧ s.addr = some l
def ArgsOk (K : Frag) (G : Hp) (σ : L2.St) (sl : Sls) : List V → List Arg → Prop
  | [], [] => True
  | v :: vs, a :: as => ArgOk K G σ sl v a ∧ ArgsOk K G σ sl vs as
  | _, _ => False
abbrev AA := Sls → (List Arg → Sls → Prop) → Prop
def LA (K : Frag) (ta : TA) (a : AA) : Prop := ∀ (σ : L2.St) (G H : Hp) (sl : Sls) (P : List Arg → Sls → Prop), Env K G H σ sl → a sl P →
  ∀ Q : List V → Hp → Prop, (∀ vs as G' H' sl', Env K G' H' σ sl' → Grow sl sl' G H G' H' → ArgsOk K G' σ sl' vs as → P as sl' → Q vs H') → ta σ H Q
def aaNil : AA := fun sl Q => Q [] sl
def aaD (a : AE) (as : AA) : AA := fun sl Q => a sl fun d sl1 => as sl1 fun ds sl2 => Q (.d d :: ds) sl2
def aaO (i : Nat) (as : AA) : AA := fun sl Q => (∃ s l, sl[i]? = some s ∧ s.addr = some l) ∧ as sl fun ds sl2 => (∃ s l, sl2[i]? = some s ∧ s.addr = some l) ∧ Q (.o i :: ds) sl2
theorem la_nil : LA K tNil aaNil := fun σ G H sl P E p Q q => q _ [] G H sl E .refl trivial p
theorem la_d {tas : TA} {as : AA} (ha : LE K ta a) (has : LA K tas as) : LA K (tCons ta tas) (aaD a as) := fun σ G H sl P E p Q q =>
  ha σ G H sl _ E p _ fun v d G1 H1 sl1 E1 g1 d1 p1 => has σ G1 H1 sl1 _ E1 p1 _ fun vs ds G2 H2 sl2 E2 g2 d2 p2 => q _ (.d d :: ds) G2 H2 sl2 E2 (g1.trans g2) ⟨d1.mono g2.le, d2⟩ p2
theorem Env.at_own {sl : Sls} {i : Nat} {s : Slot} {l : Addr} (E : Env K G H σ sl) (h : sl[i]? = some s) (e : s.addr = some l) : σ[i]? = some (some (.ref l)) := by
  obtain ⟨v, hv, q⟩ := E.slot h
  cases s with
  | un => cases e
  | d x => cases e
  | m l' xs => cases e; rw [hv, q.1]
  | md l' xs => cases e; rw [hv, q.1]
  | ob l' C fs => cases e; rw [hv, q.1]
theorem la_o {tas : TA} {as : AA} (i : Nat) (has : LA K tas as) : LA K (tCons (tVar i) tas) (aaO i as) := fun σ G H sl P E ⟨⟨s, l, h1, h2⟩, p⟩ Q q =>
  ⟨.ref l, E.at_own h1 h2, has σ G H sl _ E p _ fun vs ds G2 H2 sl2 E2 g2 d2 p2 => q _ (.o i :: ds) G2 H2 sl2 E2 g2 ⟨⟨E.at_own h1 h2, p2.1⟩, d2⟩ p2.2⟩
/-- what a def does, from its arguments' slots to its value and theirs -/
abbrev AF := Sls → (PyData → Sls → Prop) → Prop
def SpD (K : Frag) (fa : AF) : SpG := fun vs H Q => ∃ G as P, Env K G H (vs.map some) as ∧ fa as P ∧ ∀ v d G' H' as', Env K G' H' (vs.map some) as' → Grow as as' G H G' H' → Dq K G' v d → P d as' → Q v H'
def aCall (fa : AF) (args : AA) : AE := fun sl Q => args sl fun as sl1 => OneO as ∧ fa (as.map (slotOf sl1)) fun d as' => Q d (putBack sl1 as as')
theorem ArgsOk.len : ∀ {vs : List V} {as : List Arg} {sl : Sls}, ArgsOk K G σ sl vs as → vs.length = as.length
  | [], [], _, _ => rfl
  | v :: vs, a :: as, _, h => by rw [List.length_cons, List.length_cons, ArgsOk.len h.2]
theorem ArgsOk.get : ∀ {vs : List V} {as : List Arg} {sl : Sls} {k : Nat} {a : Arg}, ArgsOk K G σ sl vs as → as[k]? = some a → ∃ v, vs[k]? = some v ∧ ArgOk K G σ sl v a
  | [], [], _, _, _, _, h => by simp at h
  | v :: vs, a :: as, _, 0, _, h, e => by simp at e; subst e; exact ⟨v, rfl, h.1⟩
  | v :: vs, a :: as, _, k + 1, _, h, e => by
    obtain ⟨w, h1, h2⟩ := ArgsOk.get h.2 (k := k) (by simpa using e)
    exact ⟨w, by simpa using h1, h2⟩
theorem le_call {tas : TA} {aas : AA} {fa : AF} (has : LA K tas aas) : LE K (tCallG (SpD K fa) tas) (aCall fa aas) := by
  intro σ G H sl P E p Q q
  refine has σ G H sl _ E p _ fun vs ars G1 H1 sl1 E1 g1 ok ⟨one, pf⟩ => ?_
  have hl := ok.len
  -- the callee's slots
  have slot : ∀ {k : Nat} {s : Slot}, (ars.map (slotOf sl1))[k]? = some s → ∃ ar v, ars[k]? = some ar ∧ vs[k]? = some v ∧ ArgOk K G1 σ sl1 v ar ∧ s = slotOf sl1 ar := fun {k s} h => by
    rw [List.getElem?_map] at h
    cases e : ars[k]? with
    | none => rw [e] at h; cases h
    | some ar =>
      rw [e] at h
      obtain ⟨v, hv, av⟩ := ok.get e
      exact ⟨ar, v, rfl, hv, av, (Option.some.inj h).symm⟩
  have ofO : ∀ {k : Nat} {s : Slot} {l : Addr}, (ars.map (slotOf sl1))[k]? = some s → s.addr = some l → ∃ i, ars[k]? = some (.o i) ∧ sl1[i]? = some s ∧ vs[k]? = some (.ref l) ∧ σ[i]? = some (some (.ref l)) := fun {k s l} h e => by
    obtain ⟨ar, v, h1, h2, h3, rfl⟩ := slot h
    cases ar with
    | d x => cases e
    | o i =>
      obtain ⟨hs, s', l', h4, h5⟩ := h3
      have es : slotOf sl1 (.o i) = s' := by show (sl1[i]?).getD .un = s'; rw [h4]; rfl
      rw [es] at e ⊢
      have := E1.at_own h4 e
      rw [hs] at this
      cases this
      exact ⟨i, h1, h4, h2, hs⟩
  have E0 : Env K G1 H1 (vs.map some) (ars.map (slotOf sl1)) := by
    refine ⟨E1.le, by rw [List.length_map, List.length_map, hl], fun k u s h1 h2 => ?_, fun j k s r l h1 h2 h3 h4 => ?_⟩
    · obtain ⟨ar, v, e1, e2, e3, rfl⟩ := slot h2
      rw [List.getElem?_map, e2] at h1
      cases h1
      cases ar with
      | d x => exact ⟨v, rfl, e3⟩
      | o i =>
        obtain ⟨hs, s', l', h4, h5⟩ := e3
        have es : slotOf sl1 (.o i) = s' := by show (sl1[i]?).getD .un = s'; rw [h4]; rfl
        rw [es]
        exact E1.ok i _ s' hs h4
    · obtain ⟨i, a1, a2, _⟩ := ofO h1 h3
      obtain ⟨i', b1, b2, _⟩ := ofO h2 h4
      have := E1.one i i' s r l a2 b2 h3 h4
      subst this
      exact one.get a1 b1
  refine ⟨G1, ars.map (slotOf sl1), _, E0, pf, fun v d G2 H2 as' E2 g2 d2 p2 => ?_⟩
  have hl2 : ars.length = as'.length := by
    have := E2.len
    rw [List.length_map] at this
    omega
  -- an own address of a slot behind the call is the one that it was
  have same : ∀ {k : Nat} {s : Slot} {l : Addr}, as'[k]? = some s → s.addr = some l → vs[k]? = some (.ref l) := fun {k s l} h e => by
    have := E2.at_own h e
    rw [List.getElem?_map] at this
    cases e3 : vs[k]? with
    | none => rw [e3] at this; cases this
    | some w => rw [e3] at this; cases this; rfl
  have addr : ∀ {j : Nat} {x : Slot} {l : Addr}, (putBack sl1 ars as')[j]? = some x → x.addr = some l → ∃ s, sl1[j]? = some s ∧ s.addr = some l := fun {j x l} h e => by
    rcases putBack_get hl2 h with ⟨h1, _⟩ | ⟨k, h1, h2⟩
    · exact ⟨x, h1, e⟩
    · have hv := same h2 e
      obtain ⟨w, hw, hs, s', l', h4, h5⟩ := ok.get h1
      rw [hv] at hw
      cases hw
      have := E1.at_own h4 h5
      rw [hs] at this
      cases this
      exact ⟨s', h4, h5⟩
  have ownback : ∀ x, Own (putBack sl1 ars as') x → Own sl1 x := fun x ⟨j, s, h1, h2⟩ => by
    obtain ⟨s', h3, h4⟩ := addr h1 h2
    exact ⟨j, s', h3, h4⟩
  have own0 : ∀ x, Own (ars.map (slotOf sl1)) x → Own sl1 x := fun x ⟨k, s, h1, h2⟩ => by
    obtain ⟨i, _, h3, _⟩ := ofO h1 h2
    exact ⟨i, s, h3, h2⟩
  have E3 : Env K G2 H2 σ (putBack sl1 ars as') := by
    refine ⟨E2.le, by rw [putBack_len]; exact E1.len, fun j u s h1 h2 => ?_, fun j k s r l h1 h2 h3 h4 => ?_⟩
    · rcases putBack_get hl2 h2 with ⟨h3, h4⟩ | ⟨k, h3, h4⟩
      · refine (E1.ok j u s h1 h3).mono g2.le fun l hl => ?_
        have no : ¬ Own (ars.map (slotOf sl1)) l := fun ⟨k, s', e1, e2⟩ => by
          obtain ⟨i, f1, f2, _⟩ := ofO e1 e2
          have := E1.one i j s' s l f2 h3 e2 hl
          subst this
          exact h4 k f1
        obtain ⟨nn, gn⟩ := E1.own ⟨j, s, h3, hl⟩
        cases eh : H1 l with
        | none => exact absurd eh nn
        | some o => exact ⟨g2.keep l o no eh, g2.ap l no nn gn⟩
      · obtain ⟨w, hw, hs, _⟩ := ok.get h3
        rw [h1] at hs
        cases hs
        exact E2.ok k _ s (by rw [List.getElem?_map, hw]; rfl) h4
    · obtain ⟨s1, a1, a2⟩ := addr h1 h3
      obtain ⟨s2, b1, b2⟩ := addr h2 h4
      exact E1.one j k s1 s2 l a1 b1 a2 b2
  refine q v d G2 H2 _ E3 (g1.trans ⟨fun x o n e => g2.keep x o (fun h => n (own0 x h)) e, g2.le, fun x n e1 e2 => g2.ap x (fun h => n (own0 x h)) e1 e2, fun x h => .inl (ownback x h), g2.there⟩) d2 p2
end
end R

namespace R
open PySem PySem.Spec PyProof.Rows L2 RX
section
variable {K : Frag} {ta tb te tc : TE} {a b c : AE} {G H : Hp} {σ : L2.St} {tt tu : TT} {t u : AT} {tas : TA} {as : AL} {ts us : TS} {s r : AS}

/-! ### statements -/
def aNext : AS := fun P sl => P.nx sl
theorem ls_next : LS K tNext aNext := fun σ G H sl P D E p k => k.nx _ _ _ _ E .refl p
def aSeq (s r : AS) : AS := fun P sl => s { P with nx := fun sl' => r P sl' } sl
theorem ls_seq (hs : LS K ts s) (hr : LS K us r) : LS K (tSeq ts us) (aSeq s r) := fun σ G H sl P D E p k =>
  hs σ G H sl _ _ E p ⟨fun σ' G' H' sl' E' g p' => hr σ' G' H' sl' P D E' p' (k.after g), k.rt, k.bk, k.ct⟩
def aSet (i : Nat) (a : AE) : AS := fun P sl => a sl fun d sl' => P.nx (sl'.set i (.d d))
theorem ls_set (i : Nat) (ha : LE K ta a) : LS K (tAsg ta (gName i)) (aSet i a) := fun σ G H sl P D E p k =>
  ha σ G H sl _ E p _ fun v d G1 H1 sl1 E1 g1 d1 p1 => k.nx _ _ _ _ (E1.set (s := .d d) ⟨v, rfl, d1⟩ fun _ z => nomatch z) (g1.trans (.less fun _ h => own_set_d h)) p1
/-- x = a new list that is then one's own -/
def aSetN (i : Nat) (a : AL) : AS := fun P sl => a sl fun xs sl' => ∀ l, P.nx (sl'.set i (.m l xs))
theorem ls_setN {an : AL} (i : Nat) (ha : LN K ta an) : LS K (tAsg ta (gName i)) (aSetN i an) := fun σ G H sl P D E p k =>
  ha σ G H sl _ E p _ fun l vs xs G1 H1 sl1 E1 g1 hl gl no nl hd p1 => k.nx _ _ _ _ (E1.set (s := .m l xs) ⟨rfl, gl, vs, hl, hd⟩ fun x e => by cases e; exact no)
    ⟨g1.keep, g1.le, g1.ap, fun x h => (Own.of_set h).elim (g1.own x) fun e => .inr (by cases e; exact nl), g1.there⟩ (p1 l)
def aGSet (g : AG) (a : AE) : AS := fun P sl => a sl fun d sl' => g d sl' P.nx
theorem ls_asg {ix : List Nat} {g : TG} {ag : AG} (ha : LE K ta a) (hg : LG K false ix g ag) : LS K (tAsg ta g) (aGSet ag a) := fun σ G H sl P D E p k =>
  ha σ G H sl _ E p _ fun v d G1 H1 sl1 E1 g1 d1 p1 => hg σ G1 H1 sl1 v d _ E1 (.inl d1) p1 _ fun σ' sl' E' g' _ p' => k.nx _ _ _ _ E' (g1.trans g') p'
def aRet (a : AE) : AS := fun P sl => a sl P.rt
theorem ls_ret (ha : LE K ta a) : LS K (tRet ta) (aRet a) := fun σ G H sl P D E p k =>
  ha σ G H sl _ E p _ fun v d G1 H1 sl1 E1 g1 d1 p1 => k.rt v d σ G1 H1 sl1 E1 g1 d1 p1
def aRetN : AS := fun P sl => P.rt .none sl
theorem ls_retN : LS K tRetN aRetN := fun σ G H sl P D E p k => k.rt _ _ σ G H sl E .refl .non p
def aIfS (t : AT) (s r : AS) : AS := fun P sl => t sl fun k sl' => (k = true → s P sl') ∧ (k = false → r P sl')
theorem ls_if (ht : LT K tt t) (hs : LS K ts s) (hr : LS K us r) : LS K (tIfS tt ts us) (aIfS t s r) := fun σ G H sl P D E p k =>
  ht σ G H sl _ E p _ fun b G1 H1 sl1 E1 g1 p1 => by
    cases b with
    | true => exact hs σ G1 H1 sl1 P D E1 (p1.1 rfl) (k.after g1)
    | false => exact hr σ G1 H1 sl1 P D E1 (p1.2 rfl) (k.after g1)
def aDrop (a : AE) : AS := fun P sl => a sl fun _ sl' => P.nx sl'
theorem ls_drop (ha : LE K ta a) : LS K (tDrop ta) (aDrop a) := fun σ G H sl P D E p k =>
  ha σ G H sl _ E p _ fun v d G1 H1 sl1 E1 g1 d1 p1 => k.nx σ G1 H1 sl1 E1 g1 p1
def aBreak : AS := fun P sl => P.bk sl
theorem ls_break : LS K tBreak aBreak := fun σ G H sl P D E p k => k.bk _ _ _ _ E .refl p
def aCont : AS := fun P sl => P.ct sl
theorem ls_cont : LS K tCont aCont := fun σ G H sl P D E p k => k.ct _ _ _ _ E .refl p
/-- a, b = e, f -/
def aPar (i j : Nat) (as : AL) : AS := fun P sl => as sl fun ds sl' => ∃ d e, ds = [d, e] ∧ P.nx ((sl'.set i (.d d)).set j (.d e))
theorem ls_par (i j : Nat) (has : LD K tas as) : LS K (tPar i j tas) (aPar i j as) := fun σ G H sl P D E p k =>
  has σ G H sl _ E p _ fun vs ds G1 H1 sl1 E1 g1 d1 ⟨d, e, eq, p1⟩ => by
    subst eq
    obtain ⟨v, w, rfl, dv, dw⟩ := dq2 d1
    exact ⟨v, w, rfl, k.nx _ _ _ _ ((E1.set (s := .d d) ⟨v, rfl, dv⟩ fun _ z => nomatch z).set (s := .d e) ⟨w, rfl, dw⟩ fun _ z => nomatch z) (g1.trans (.less fun _ h => own_set_d (own_set_d h))) p1⟩
/-- i op= e, ints -/
def aAugI (i : Nat) (f : Int → Int → Int) (a : AE) : AS := fun P sl => ∃ x, sl[i]? = some (.d (.int x)) ∧ a sl fun d sl' => match d with
  | .int y => P.nx (sl'.set i (.d (.int (f x y))))
  | _ => False
theorem ls_augI (i : Nat) (f : Int → Int → Int) (ha : LE K ta a) : LS K (tAug i ta (ipI f)) (aAugI i f a) := fun σ G H sl P D E ⟨x, hx, p⟩ k => by
  obtain ⟨v, hv, u, rfl, hu⟩ := E.slot hx
  cases hu
  refine ⟨_, hv, ha σ G H sl _ E p _ fun w d G1 H1 sl1 E1 g1 d1 p1 => ?_⟩
  cases d1 with
  | int y => exact ⟨x, y, rfl, rfl, k.nx _ _ _ _ (E1.set (s := .d _) ⟨_, rfl, .int _⟩ fun _ z => nomatch z) (g1.trans (.less fun _ h => own_set_d h)) p1⟩
  | _ => exact p1.elim

/-! ### loops -/
def forR (g : AG) (s : AS) (P : Post) : List PyData → Sls → Prop
  | [], sl => P.nx sl
  | d :: ds, sl => g d sl fun sl2 => s { nx := forR g s P ds, rt := P.rt, bk := P.nx, ct := forR g s P ds } sl2
def aFor (it : AI) (g : AG) (s : AS) : AS := fun P sl => it sl fun ds sl1 => forR g s P ds sl1
theorem for_core {w : Bool} {ix : List Nat} {g : TG} {ag : AG} {J : It} {ds : List PyData} {sl1 : Sls} {G1 H1 : Hp} {P : Post} {D : Ends} (hg : LG K w ix g ag) (hs : LS K ts s) (E1 : Env K G1 H1 σ sl1) (wk : Wk K w J sl1 G1 H1 ds) (p1 : forR ag s P ds sl1) (k : EndsOk K sl1 G1 H1 P D) :
    ∃ W : Nat → Nat → L2.St → Hp → Prop, (∃ m, W 0 m σ H1) ∧ ∀ i m σ H, W i m σ H →
      (J.stop i H ∧ D.nx σ H) ∨ (J.go i H ∧ ∃ N : L2.St → Hp → Prop, (∀ σ' H', N σ' H' → ∃ m', m' < m ∧ W (i + 1) m' σ' H') ∧ ∀ x H', J.yld i H x H' → g x σ H' fun σ2 H2 => ts { D with nx := N, ct := N, bk := D.nx } σ2 H2) := by
  let S : Nat → L2.St → Hp → Prop := fun i σi Hi => ∃ Gi sli, i ≤ ds.length ∧ Env K Gi Hi σi sli ∧ Grow sl1 sli G1 H1 Gi Hi ∧ forR ag s P (ds.drop i) sli
  refine ⟨fun i m σi Hi => m = ds.length - i ∧ S i σi Hi, ⟨_, rfl, G1, sl1, Nat.zero_le _, E1, .refl, p1⟩, ?_⟩
  rintro i m σi Hi ⟨rfl, Gi, sli, hle, Ei, gi, pi⟩
  by_cases hlt : i < ds.length
  · obtain ⟨d, hd⟩ : ∃ d, ds[i]? = some d := ⟨_, List.getElem?_eq_getElem hlt⟩
    have hdrop : ds.drop i = d :: ds.drop (i + 1) := by
      rw [List.drop_eq_getElem_cons hlt]
      rw [List.getElem?_eq_getElem hlt] at hd
      rw [Option.some.inj hd]
    rw [hdrop] at pi
    refine .inr ⟨wk.go i Gi Hi sli gi Ei.le hlt, S (i + 1), fun σ' H' s' => ⟨ds.length - (i + 1), by omega, rfl, s'⟩, fun x H2 hy => ?_⟩
    obtain ⟨G2, E2, g2, d2⟩ := wk.yld i Gi Hi x H2 σi sli d gi Ei hd hy
    refine hg σi G2 H2 sli x d _ E2 d2 pi _ fun σ3 sl3 E3 g3 _ p3 => ?_
    have g13 := (gi.trans g2).trans g3
    have nxt : ∀ σ' G' H' sl', Env K G' H' σ' sl' → Grow sl3 sl' G2 H2 G' H' → forR ag s P (ds.drop (i + 1)) sl' → S (i + 1) σ' H' := fun σ' G' H' sl' E' g' p' =>
      ⟨G', sl', hlt, E', g13.trans g', p'⟩
    exact hs σ3 G2 H2 sl3 _ _ E3 p3 ⟨nxt, fun v d σ' G' H' sl' E' g' d' p' => k.rt v d σ' G' H' sl' E' (g13.trans g') d' p', fun σ' G' H' sl' E' g' p' => k.nx σ' G' H' sl' E' (g13.trans g') p', nxt⟩
  · have e : i = ds.length := by omega
    subst e
    rw [List.drop_length] at pi
    exact .inl ⟨wk.stop Gi Hi sli gi Ei.le, k.nx σi Gi Hi sli Ei gi pi⟩
theorem ls_for {w : Bool} {wi : TI} {it : AI} {ix : List Nat} {g : TG} {ag : AG} (hi : LI K w wi it) (hg : LG K w ix g ag) (hs : LS K ts s) : LS K (tFor wi g ts) (aFor it ag s) := by
  intro σ G H sl P D E p k
  exact hi σ G H sl _ E p _ fun J ds G1 H1 sl1 E1 g1 wk p1 => for_core hg hs E1 wk p1 (k.after g1)
/-- over an own list that stays as it is -/
def forO (i : Nat) (l : Addr) (xs : List PyData) (g : AG) (s : AS) (P : Post) : List PyData → Sls → Prop
  | [], sl => sl[i]? = some (.m l xs) ∧ P.nx sl
  | d :: ds, sl => sl[i]? = some (.m l xs) ∧ g d sl fun sl2 => s { nx := forO i l xs g s P ds, rt := P.rt, bk := P.nx, ct := forO i l xs g s P ds } sl2
def aForO (i : Nat) (g : AG) (s : AS) : AS := fun P sl => ∃ l xs, sl[i]? = some (.m l xs) ∧ forO i l xs g s P xs sl
theorem ls_forO {ix : List Nat} {g : TG} {ag : AG} (i₀ : Nat) (hg : LG K false ix g ag) (hs : LS K ts s) : LS K (tFor (iSeq K (tVar i₀)) g ts) (aForO i₀ ag s) := by
  intro σ G H sl P D E ⟨l, xs, hsl, p⟩ k
  obtain ⟨v, hv, rfl, gl, vs, hl, hd⟩ := E.slot hsl
  refine ⟨_, hv, false, l, vs, rfl, SqL.of hl, ?_⟩
  have hlen := hd.length
  let S : Nat → L2.St → Hp → Prop := fun i σi Hi => ∃ Gi sli, i ≤ xs.length ∧ Env K Gi Hi σi sli ∧ Grow sl sli G H Gi Hi ∧ forO i₀ l xs ag s P (xs.drop i) sli
  have at_ : ∀ {i : Nat} {σi : L2.St} {Hi Gi : Hp} {sli : Sls}, i ≤ xs.length → Env K Gi Hi σi sli → forO i₀ l xs ag s P (xs.drop i) sli → ∃ us, Hi l = some (.lst us) ∧ DqAll K Gi us xs := fun {i σi Hi Gi sli} h1 h2 h3 => by
    have q : sli[i₀]? = some (.m l xs) := by
      cases e : xs.drop i with
      | nil => rw [e] at h3; exact h3.1
      | cons d ds => rw [e] at h3; exact h3.1
    obtain ⟨_, _, _, _, us, r1, r2⟩ := h2.slot q
    exact ⟨us, r1, r2⟩
  refine ⟨fun i m σi Hi => m = xs.length - i ∧ S i σi Hi, ⟨_, rfl, G, sl, Nat.zero_le _, E, .refl, p⟩, ?_⟩
  rintro i m σi Hi ⟨rfl, Gi, sli, hle, Ei, ggi, pi⟩
  obtain ⟨us, h1, h2⟩ := at_ hle Ei pi
  have hul := h2.length
  by_cases hlt : i < xs.length
  · obtain ⟨d, hdd⟩ : ∃ d, xs[i]? = some d := ⟨_, List.getElem?_eq_getElem hlt⟩
    have hdrop : xs.drop i = d :: xs.drop (i + 1) := by
      rw [List.drop_eq_getElem_cons hlt]
      rw [List.getElem?_eq_getElem hlt] at hdd
      rw [Option.some.inj hdd]
    rw [hdrop] at pi
    obtain ⟨v, hv2, dv⟩ := h2.get hdd
    refine .inr ⟨⟨us, v, SqL.of h1, hv2⟩, S (i + 1), fun σ' H' s' => ⟨xs.length - (i + 1), by omega, rfl, s'⟩, fun x H2 hy => ?_⟩
    obtain ⟨rfl, f⟩ := hy
    have ex : x = v := Option.some.inj ((f us (SqL.of h1)).symm.trans hv2)
    subst ex
    refine hg σi Gi H2 sli x d _ Ei (.inl dv) pi.2 _ fun σ3 sl3 E3 g3 _ p3 => ?_
    have g03 := ggi.trans g3
    have nxt : ∀ σ' G' H' sl', Env K G' H' σ' sl' → Grow sl3 sl' Gi H2 G' H' → forO i₀ l xs ag s P (xs.drop (i + 1)) sl' → S (i + 1) σ' H' := fun σ' G' H' sl' E' g' p' =>
      ⟨G', sl', hlt, E', g03.trans g', p'⟩
    exact hs σ3 Gi H2 sl3 _ _ E3 p3 ⟨nxt, fun v d σ' G' H' sl' E' g' d' p' => k.rt v d σ' G' H' sl' E' (g03.trans g') d' p', fun σ' G' H' sl' E' g' p' => k.nx σ' G' H' sl' E' (g03.trans g') p', nxt⟩
  · have e : i = xs.length := by omega
    subst e
    rw [List.drop_length] at pi
    exact .inl ⟨⟨us, SqL.of h1, by omega⟩, k.nx σi Gi Hi sli Ei ggi pi.2⟩
def aWhile (t : AT) (s : AS) : AS := fun P sl => ∃ W : Nat → Sls → Prop, (∃ m, W m sl) ∧ ∀ m sl, W m sl → t sl fun k sl1 => (k = true → s { nx := fun x => ∃ m', m' < m ∧ W m' x, rt := P.rt, bk := P.nx, ct := fun x => ∃ m', m' < m ∧ W m' x } sl1) ∧ (k = false → P.nx sl1)
theorem ls_while (ht : LT K tt t) (hs : LS K ts s) : LS K (tWhile tt ts) (aWhile t s) := by
  intro σ G H sl P D E ⟨W, ⟨m0, w0⟩, turn⟩ k
  refine ⟨fun m σi Hi => ∃ Gi sli, Env K Gi Hi σi sli ∧ Grow sl sli G H Gi Hi ∧ W m sli, ⟨m0, G, sl, E, .refl, w0⟩, ?_⟩
  rintro m σi Hi ⟨Gi, sli, Ei, gi, wi⟩
  refine ht σi Gi Hi sli _ Ei (turn m sli wi) _ fun b G1 H1 sl1 E1 g1 p1 => ?_
  cases b with
  | false =>
    refine ite_ff ?_
    exact k.nx _ _ _ _ E1 (gi.trans g1) (p1.2 rfl)
  | true =>
    refine ite_tt ⟨fun σ' H' => ∃ m', m' < m ∧ ∃ Gi sli, Env K Gi H' σ' sli ∧ Grow sl sli G H Gi H' ∧ W m' sli, fun σ' H' h => h, ?_⟩
    have g01 := gi.trans g1
    have nxt : ∀ σ' G' H' sl', Env K G' H' σ' sl' → Grow sl1 sl' G1 H1 G' H' → (∃ m', m' < m ∧ W m' sl') → ∃ m', m' < m ∧ ∃ Gi sli, Env K Gi H' σ' sli ∧ Grow sl sli G H Gi H' ∧ W m' sli := fun σ' G' H' sl' E' g' ⟨m', hm, w'⟩ => ⟨m', hm, G', sl', E', g01.trans g', w'⟩
    exact hs σi G1 H1 sl1 _ _ E1 (p1.1 rfl) ⟨nxt, fun v d σ' G' H' sl' E' g' d' p' => k.rt v d σ' G' H' sl' E' (g01.trans g') d' p', fun σ' G' H' sl' E' g' p' => k.nx σ' G' H' sl' E' (g01.trans g') p', nxt⟩

/-! ### one's own lists changed -/
theorem Grow.own_put {sl : Sls} {i : Nat} {l : Addr} {s' : Slot} {o : HO} (E : Env K G H σ sl) (h : Own sl l) (e : s'.addr = some l) : Grow sl (sl.set i s') G H G (upd H l o) := by
  refine ⟨fun x u n e => ?_, Le.refl _, fun _ _ _ g => g, fun x hx => (Own.of_set hx).elim .inl fun z => .inl ?_, fun x hx => ?_⟩
  · rw [upd_ne (fun z => n (by rw [z]; exact h))]; exact e
  · rw [e] at z; cases z; exact h
  · by_cases z : x = l
    · rw [z, upd_same]; simp
    · rw [upd_ne z]; exact hx
theorem Env.own_put {sl : Sls} {i : Nat} {l : Addr} {s s' : Slot} {o : HO} (E : Env K G H σ sl) (hs : sl[i]? = some s) (e : s.addr = some l) (e' : s'.addr = some l) (ok : SlotOk K G (upd H l o) (some (.ref l)) s') :
    Env K G (upd H l o) σ (sl.set i s') := by
  have hσ := E.at_own hs e
  have hi := (List.getElem?_eq_some_iff.mp hs).1
  obtain ⟨_, gl⟩ := E.own ⟨i, s, hs, e⟩
  refine ⟨E.le.out gl, by rw [List.length_set]; exact E.len, fun j u t h1 h2 => ?_, fun j k t u m h1 h2 h3 h4 => ?_⟩
  · by_cases z : i = j
    · subst z
      rw [List.getElem?_set_self hi] at h2
      cases h2
      rw [hσ] at h1; cases h1
      exact ok
    · rw [List.getElem?_set_ne z] at h2
      refine (E.ok j u t h1 h2).mono (Le.refl _) fun a ha => ⟨upd_ne (fun q => z (E.one i j s t l hs h2 e (q ▸ ha))), (E.own ⟨j, t, h2, ha⟩).2⟩
  · have old : ∀ {j : Nat} {r : Slot}, (sl.set i s')[j]? = some r → r.addr = some m → ∃ r', sl[j]? = some r' ∧ r'.addr = some m := fun {j r} q a => by
      by_cases z : i = j
      · subst z
        rw [List.getElem?_set_self hi] at q
        cases q
        exact ⟨s, hs, by rw [e, ← a, e']⟩
      · rw [List.getElem?_set_ne z] at q
        exact ⟨r, q, a⟩
    obtain ⟨r1, q1, a1⟩ := old h1 h3
    obtain ⟨r2, q2, a2⟩ := old h2 h4
    exact E.one j k r1 r2 m q1 q2 a1 a2
/-- x.append(e) -/
def aApp (i : Nat) (a : AE) : AS := fun P sl => (∃ l xs, sl[i]? = some (.m l xs)) ∧ a sl fun d sl' => ∃ l xs, sl'[i]? = some (.m l xs) ∧ xs.length < sizeLine ∧ P.nx (sl'.set i (.m l (xs ++ [d])))
theorem ls_app (i : Nat) (ha : LE K ta a) : LS K (tDrop (tBM K "list" rAppend (tVar i) (tCons ta tNil))) (aApp i a) := fun σ G H sl P D E ⟨⟨l0, xs0, h0⟩, p⟩ k => by
  obtain ⟨v, hv, rfl, gl, vs, hl, hd⟩ := E.slot h0
  refine ⟨_, hv, .inl ⟨rfl, _, .inl (.inl hl)⟩, ?_⟩
  refine ha σ G H sl _ E p _ fun y d G1 H1 sl1 E1 g1 d1 ⟨l, xs, h1, hz, p1⟩ => ?_
  obtain ⟨v1, hv1, rfl, gl1, vs1, hl1, hd1⟩ := E1.slot h1
  rw [hv] at hv1
  cases hv1
  refine ⟨l0, vs1, y, rfl, rfl, hl1, by rw [hd1.length]; exact hz, ?_⟩
  exact k.nx σ G1 _ _ (E1.own_put (s' := .m l0 (xs ++ [d])) h1 rfl rfl ⟨rfl, gl1, _, upd_same, hd1.append (.cons d1 .nil)⟩) (g1.trans (Grow.own_put E1 ⟨i, _, h1, rfl⟩ rfl)) p1
/-- x[j] = e -/
def aPutL (i : Nat) (b a : AE) : AS := fun P sl => a sl fun d sl1 => (∃ l xs, sl1[i]? = some (.m l xs)) ∧ b sl1 fun e sl2 => match e with
  | .int k => ∃ l xs j, sl2[i]? = some (.m l xs) ∧ ixN xs.length k = some j ∧ P.nx (sl2.set i (.m l (xs.set j d)))
  | _ => False
theorem ls_putL (i : Nat) (hb : LE K tb b) (ha : LE K ta a) : LS K (tAsg ta (gSub (tVar i) tb rSetL)) (aPutL i b a) := fun σ G H sl P D E p k =>
  ha σ G H sl _ E p _ fun y d G1 H1 sl1 E1 g1 d1 ⟨⟨l0, xs0, h0⟩, p1⟩ => by
    obtain ⟨v, hv, rfl, gl, vs, hl, hd⟩ := E1.slot h0
    refine ⟨_, hv, hb σ G1 H1 sl1 _ E1 p1 _ fun w e G2 H2 sl2 E2 g2 d2 p2 => ?_⟩
    cases d2 with
    | int kk =>
      obtain ⟨l, xs, j, h1, hj, p3⟩ := p2
      obtain ⟨v1, hv1, rfl, gl1, vs1, hl1, hd1⟩ := E2.slot h1
      rw [hv] at hv1
      cases hv1
      refine ⟨l0, vs1, kk, j, rfl, rfl, hl1, by rw [hd1.length]; exact hj, ?_⟩
      exact k.nx σ G2 _ _ (E2.own_put (s' := .m l0 (xs.set j d)) h1 rfl rfl ⟨rfl, gl1, _, upd_same, hd1.set j (d1.mono g2.le)⟩) ((g1.trans g2).trans (Grow.own_put E2 ⟨i, _, h1, rfl⟩ rfl)) p3
    | _ => exact p2.elim
/-- x[j] += e, ints -/
def aAugL (i : Nat) (j : Nat) (f : Int → Int → Int) (a : AE) : AS := fun P sl => ∃ l xs x, sl[i]? = some (.m l xs) ∧ xs[j]? = some (.int x) ∧ a sl fun e sl2 => match e with
  | .int y => ∃ l ys, sl2[i]? = some (.m l ys) ∧ j < ys.length ∧ P.nx (sl2.set i (.m l (ys.set j (.int (f x y)))))
  | _ => False
theorem ls_augL (i j : Nat) (f : Int → Int → Int) (ha : LE K ta a) : LS K (tAugS (tVar i) (tC (.int (j : Nat))) ta (gIxL K) (ipI f) rSetL) (aAugL i j f a) := fun σ G H sl P D E ⟨l0, xs0, x, h0, hx, p⟩ k => by
  obtain ⟨v, hv, rfl, gl, vs, hl, hd⟩ := E.slot h0
  obtain ⟨vx, hvx, dx⟩ := hd.get hx
  refine ⟨_, hv, l0, vs, j, vx, rfl, rfl, SqL.of hl, hvx, ?_⟩
  refine ha σ G H sl _ E p _ fun w e G2 H2 sl2 E2 g2 d2 p2 => ?_
  cases dx
  cases d2 with
  | int y =>
    obtain ⟨l, xs, h1, hj, p3⟩ := p2
    obtain ⟨v1, hv1, rfl, gl1, vs1, hl1, hd1⟩ := E2.slot h1
    rw [hv] at hv1
    cases hv1
    refine ⟨x, y, rfl, rfl, l0, vs1, (j : Nat), j, rfl, rfl, hl1, ?_, ?_⟩
    · unfold ixN
      rw [if_pos (by omega), if_pos (by rw [hd1.length]; omega)]
      rfl
    · exact k.nx σ G2 _ _ (E2.own_put (s' := .m l0 (xs.set j (.int (f x y)))) h1 rfl rfl ⟨rfl, gl1, _, upd_same, hd1.set j (.int _)⟩) (g2.trans (Grow.own_put E2 ⟨i, _, h1, rfl⟩ rfl)) p3
  | _ => exact p2.elim
/-- an own list's item -/
def aIxO (i : Nat) (b : AE) : AE := fun sl Q => (∃ l xs, sl[i]? = some (.m l xs)) ∧ b sl fun e sl1 => match e with
  | .int k => ∃ l xs x, sl1[i]? = some (.m l xs) ∧ atI xs k = some x ∧ Q x sl1
  | _ => False
theorem le_ixO (i : Nat) (hb : LE K tb b) : LE K (tOp (rIx K) (tVar i) tb) (aIxO i b) := fun σ G H sl P E ⟨⟨l0, xs0, h0⟩, p⟩ Q q => by
  obtain ⟨v, hv, rfl, gl, vs, hl, hd⟩ := E.slot h0
  refine ⟨_, hv, hb σ G H sl _ E p _ fun w e G1 H1 sl1 E1 g1 d1 p1 => ?_⟩
  cases d1 with
  | int kk =>
    obtain ⟨l, xs, x, h1, hx, p1⟩ := p1
    obtain ⟨v1, hv1, rfl, gl1, vs1, hl1, hd1⟩ := E1.slot h1
    rw [hv] at hv1
    cases hv1
    obtain ⟨y, hy, dy⟩ := atI_get' hd1 hx
    exact .inl ⟨l0, vs1, kk, y, rfl, rfl, SqL.of hl1, hy, q y x G1 H1 sl1 E1 g1 dy p1⟩
  | _ => exact p1.elim
/-- its length -/
def aLenO (i : Nat) : AE := fun sl Q => ∃ l xs, sl[i]? = some (.m l xs) ∧ Q (.int xs.length) sl
theorem le_lenO (i : Nat) : LE K (tCB (rLenD K) (tCons (tVar i) tNil)) (aLenO i) := fun σ G H sl P E ⟨l, xs, h, p⟩ Q q => by
  obtain ⟨v, hv, rfl, gl, vs, hl, hd⟩ := E.slot h
  exact ⟨_, hv, _, _, rfl, .inl ⟨vs, SqL.of hl, rfl⟩, q _ _ G H sl E .refl (by rw [hd.length]; exact .int _) p⟩
/-- list(x), tuple(x) of it -/
def aTupO (i : Nat) : AE := fun sl Q => ∃ l xs, sl[i]? = some (.m l xs) ∧ Q (.tuple xs) sl
theorem le_tupO (i : Nat) : LE K (tCB (rTupOf K) (tCons (tVar i) tNil)) (aTupO i) := fun σ G H sl P E ⟨l, xs, h, p⟩ Q q => by
  obtain ⟨v, hv, rfl, gl, vs, hl, hd⟩ := E.slot h
  exact ⟨_, hv, _, _, rfl, .inl ⟨SqL.of hl, fun l' o' hl' ho' => q _ _ _ _ _ (E.new hl') (Grow.new E hl') (.tup (TupK.of upd_same ho') (hd.mono (Le.new (E.gnone hl')))) p⟩⟩
end
end R

namespace R
open PySem PySem.Spec PyProof.Rows L2 RX
section
variable {K : Frag} {ta tb te tc : TE} {a b c : AE} {G H : Hp} {σ : L2.St} {tt tu : TT} {t u : AT} {tas : TA} {as : AL} {ts us : TS} {s r : AS}

/-! ### enumerate -/
def enD : Nat → List PyData → List PyData
  | _, [] => []
  | i, d :: ds => .tuple [.int (i : Nat), d] :: enD (i + 1) ds
theorem enD_len : ∀ (i : Nat) (ds : List PyData), (enD i ds).length = ds.length
  | _, [] => rfl
  | i, d :: ds => by rw [enD, List.length_cons, List.length_cons, enD_len]
theorem enD_get : ∀ {i j : Nat} {ds : List PyData} {d : PyData}, (enD i ds)[j]? = some d → ∃ x, ds[j]? = some x ∧ d = .tuple [.int ((i + j : Nat) : Int), x]
  | _, _, [], _, h => by simp [enD] at h
  | i, 0, x :: ds, d, h => by
    simp [enD] at h
    exact ⟨x, rfl, h.symm⟩
  | i, j + 1, x :: ds, d, h => by
    obtain ⟨y, h1, h2⟩ := enD_get (i := i + 1) (j := j) (ds := ds) (by simpa [enD] using h)
    exact ⟨y, by simpa using h1, by rw [h2, show i + 1 + j = i + (j + 1) by omega]⟩
def aEnum (a : AE) : AI := fun sl Q => a sl fun d sl1 => ∃ ds, seqD d = some ds ∧ Q (enD 0 ds) sl1
theorem li_enum (ha : LE K ta a) : LI K true (iEnumA K (tCons ta tNil)) (aEnum a) := fun σ G H sl P E p R r =>
  ha σ G H sl _ E p _ fun v d G1 H1 sl1 E1 g1 d1 ⟨ds, e, p1⟩ => by
    obtain ⟨tp, x, xs, rfl, s, al⟩ := d1.seq e
    have hl := al.length
    refine ⟨tp, x, xs, rfl, E1.le.sqA s, r _ (enD 0 ds) G1 H1 sl1 E1 g1 ⟨fun i G' H' sl' g g' hi => ?_, fun G' H' sl' g g' => ⟨xs, (g.le.trans g').sqA s, by rw [enD_len, hl]⟩, fun i G' H' v H'' σ sl d g E e hy => ?_⟩ p1⟩
    · rw [enD_len] at hi
      exact ⟨xs, xs[i], (g.le.trans g').sqA s, List.getElem?_eq_getElem (by omega)⟩
    · obtain ⟨T, vx, rfl, hT, rfl, f⟩ := hy
      obtain ⟨y, hy, rfl⟩ := enD_get e
      obtain ⟨v1, hv1, q1⟩ := al.get hy
      have e1 := (f xs ((g.le.trans E.le).sqA s)).symm.trans hv1
      cases e1
      have z : ((0 + i : Nat) : Int) = ((i : Nat) : Int) := by rw [Nat.zero_add]
      rw [z]
      exact ⟨_, E.new hT, Grow.new E hT, .inr ⟨rfl, _, _, _, rfl, rfl, SqT.of upd_same, .cons (.int _) (.cons ((q1.mono g.le).mono (Le.new (E.gnone hT))) .nil)⟩⟩

/-! ### dicts: one's own -/
/-- an own dict is a thing from now on -/
def aFrzD (i : Nat) : AE := fun sl Q => ∃ l xs, sl[i]? = some (.md l xs) ∧ Q (.dict xs) (sl.set i (.d (.dict xs)))
theorem Env.freezeD {sl : Sls} {i : Nat} {l : Addr} {xs : List (PyData × PyData)} (E : Env K G H σ sl) (h : sl[i]? = some (.md l xs)) :
    ∃ G', Env K G' H σ (sl.set i (.d (.dict xs))) ∧ Grow sl (sl.set i (.d (.dict xs))) G H G' H ∧ Dq K G' (.ref l) (.dict xs) := by
  obtain ⟨v, hv, hvl, gl, vs, hl, hd⟩ := E.slot h
  subst hvl
  have ow : Own sl l := ⟨i, _, h, rfl⟩
  have dq : Dq K (upd G l (.dK vs)) (.ref l) (.dict xs) := .dic (.inl upd_same) (hd.mono (Le.new gl))
  have hi := (List.getElem?_eq_some_iff.mp h).1
  have keep : ∀ (j : Nat) (s : Slot), (sl.set i (.d (.dict xs)))[j]? = some s → (j = i ∧ s = .d (.dict xs)) ∨ (j ≠ i ∧ sl[j]? = some s) := fun j s hj => by
    by_cases e : i = j
    · subst e
      rw [List.getElem?_set_self hi] at hj
      exact .inl ⟨rfl, (Option.some.inj hj).symm⟩
    · rw [List.getElem?_set_ne e] at hj
      exact .inr ⟨Ne.symm e, hj⟩
  refine ⟨upd G l (.dK vs), ⟨E.le.put hl, by rw [List.length_set]; exact E.len, fun j u s h1 h2 => ?_, fun j k s t m h1 h2 h3 h4 => ?_⟩, ⟨fun _ _ _ e => e, Le.new gl, fun a n _ g => ?_, fun a ⟨j, s, h1, h2⟩ => ?_, fun _ h => h⟩, dq⟩
  · rcases keep j s h2 with ⟨rfl, rfl⟩ | ⟨ne, h2⟩
    · rw [hv] at h1; cases h1
      exact ⟨_, rfl, dq⟩
    · refine (E.ok j u s h1 h2).mono (Le.new gl) fun a ha => ⟨rfl, ?_⟩
      have na : a ≠ l := fun e => ne (E.one j i s _ l h2 h (e ▸ ha) rfl)
      rw [upd_ne na]
      exact (E.own ⟨j, s, h2, ha⟩).2
  · rcases keep j s h1 with ⟨_, rfl⟩ | ⟨_, h1⟩
    · cases h3
    · rcases keep k t h2 with ⟨_, rfl⟩ | ⟨_, h2⟩
      · cases h4
      · exact E.one j k s t m h1 h2 h3 h4
  · rw [upd_ne (fun e => n (by rw [e]; exact ow))]; exact g
  · rcases keep j s h1 with ⟨_, rfl⟩ | ⟨_, h1⟩
    · cases h2
    · exact .inl ⟨j, s, h1, h2⟩
theorem le_frzD (i : Nat) : LE K (tVar i) (aFrzD i) := fun σ G H sl P E ⟨l, xs, h, p⟩ Q q => by
  obtain ⟨v, hv, hvl, _⟩ := E.slot h
  subst hvl
  obtain ⟨G', E', g, dq⟩ := E.freezeD h
  exact ⟨_, hv, q _ _ G' H _ E' g dq p⟩
/-- the same ahead of an expression, of a statement -/
def aPreD (i : Nat) (a : AE) : AE := fun sl Q => ∃ l xs, sl[i]? = some (.md l xs) ∧ a (sl.set i (.d (.dict xs))) Q
theorem le_preD (i : Nat) (ha : LE K ta a) : LE K ta (aPreD i a) := fun σ G H sl P E ⟨l, xs, h, p⟩ Q q => by
  obtain ⟨G', E', g, _⟩ := E.freezeD h
  exact ha σ G' H _ P E' p Q fun v d G1 H1 sl1 E1 g1 d1 p1 => q v d G1 H1 sl1 E1 (g.trans g1) d1 p1
def aPreDS (i : Nat) (s : AS) : AS := fun P sl => ∃ l xs, sl[i]? = some (.md l xs) ∧ s P (sl.set i (.d (.dict xs)))
theorem ls_preD (i : Nat) (hs : LS K ts s) : LS K ts (aPreDS i s) := fun σ G H sl P D E ⟨l, xs, h, p⟩ k => by
  obtain ⟨G', E', g, _⟩ := E.freezeD h
  exact hs σ G' H _ P D E' p (k.after g)
def aPreLS (i : Nat) (s : AS) : AS := fun P sl => ∃ l xs, sl[i]? = some (.m l xs) ∧ s P (sl.set i (.d (.list xs)))
theorem ls_preL (i : Nat) (hs : LS K ts s) : LS K ts (aPreLS i s) := fun σ G H sl P D E ⟨l, xs, h, p⟩ k => by
  obtain ⟨G', E', g, _⟩ := E.freeze h
  exact hs σ G' H _ P D E' p (k.after g)
/-- an expression whose value is a new dict -/
abbrev AM := Sls → (List (PyData × PyData) → Sls → Prop) → Prop
def LM (K : Frag) (te : TE) (a : AM) : Prop := ∀ (σ : L2.St) (G H : Hp) (sl : Sls) (P : List (PyData × PyData) → Sls → Prop), Env K G H σ sl → a sl P →
  ∀ Q : VK, (∀ l vs xs G' H' sl', Env K G' H' σ sl' → Grow sl sl' G H G' H' → H' l = some (.dK vs) → G' l = none → ¬ Own sl' l → H l = none → DqKv K G' vs xs → P xs sl' → Q (.ref l) H') → te σ H Q
def aNewD : AM := fun sl Q => Q [] sl
theorem lm_new : LM K tDNewK aNewD := fun σ G H sl P E p Q q p' hp => q p' [] [] G _ sl (E.newO hp) (Grow.newO hp) upd_same (E.gnone hp) (fun o => (E.own o).1 hp) hp .nil p
def aSetM (i : Nat) (a : AM) : AS := fun P sl => a sl fun xs sl' => ∀ l, P.nx (sl'.set i (.md l xs))
theorem ls_setM {an : AM} (i : Nat) (ha : LM K ta an) : LS K (tAsg ta (gName i)) (aSetM i an) := fun σ G H sl P D E p k =>
  ha σ G H sl _ E p _ fun l vs xs G1 H1 sl1 E1 g1 hl gl no nl hd p1 => k.nx _ _ _ _ (E1.set (s := .md l xs) ⟨rfl, gl, vs, hl, hd⟩ fun x e => by cases e; exact no)
    ⟨g1.keep, g1.le, g1.ap, fun x h => (Own.of_set h).elim (g1.own x) fun e => .inr (by cases e; exact nl), g1.there⟩ (p1 l)
def aOfM (a : AM) : AE := fun sl Q => a sl fun xs sl' => Q (.dict xs) sl'
theorem le_ofM {a : AM} (h : LM K te a) : LE K te (aOfM a) := fun σ G H sl P E p Q q =>
  h σ G H sl _ E p Q fun l vs xs G' H' sl' E' g hl gl no nl hd pp => by
    have ne : ∀ x, Own sl' x → x ≠ l := fun x hx e => no (e ▸ hx)
    refine q (.ref l) (.dict xs) (upd G' l (.dK vs)) H' sl' (E'.step (Le.new gl) (E'.le.put hl) fun x hx => ⟨rfl, by rw [upd_ne (ne x hx)]; exact (E'.own hx).2⟩) ⟨g.keep, g.le.trans (Le.new gl), fun x n h1 h2 => ?_, g.own, g.there⟩ (.dic (.inl upd_same) (hd.mono (Le.new gl))) pp
    rw [upd_ne (fun e => h1 (by rw [e]; exact nl))]
    exact g.ap x n h1 h2
/-- x, y = (a new dict, a new list) -/
def aParML (i j : Nat) (a : AM) (b : AL) : AS := fun P sl => a sl fun xs sl1 => b sl1 fun ys sl2 => ∀ l m, P.nx ((sl2.set i (.md l xs)).set j (.m m ys))
theorem ls_parML {am : AM} {bn : AL} (i j : Nat) (ha : LM K ta am) (hb : LN K tb bn) : LS K (tPar i j (tCons ta (tCons tb tNil))) (aParML i j am bn) := by
  intro σ G H sl P D E p k
  refine ha σ G H sl _ E p _ fun l vs xs G1 H1 sl1 E1 g1 hl gl no nl hd p1 => ?_
  refine hb σ G1 H1 sl1 _ E1 p1 _ fun m us ys G2 H2 sl2 E2 g2 hm gm nom nm hd2 p2 => ?_
  have hl2 : H2 l = some (.dK vs) := g2.keep l _ no hl
  have nn : H1 l ≠ none := by rw [hl]; simp
  have gl2 : G2 l = none := g2.ap l no nn gl
  have no2 : ¬ Own sl2 l := fun o => (g2.own l o).elim no nn
  have lm : m ≠ l := fun e => nn (by rw [← e]; exact nm)
  have E3 := E2.set (i := i) (s := .md l xs) ⟨rfl, gl2, vs, hl2, hd.mono g2.le⟩ fun x e => by cases e; exact no2
  have nom3 : ¬ Own (sl2.set i (.md l xs)) m := fun o => (Own.of_set o).elim nom fun e => by cases e; exact lm rfl
  have E4 := E3.set (i := j) (s := .m m ys) ⟨rfl, gm, us, hm, hd2⟩ fun x e => by cases e; exact nom3
  have g := g1.trans g2
  exact ⟨_, _, rfl, k.nx _ _ _ _ E4 ⟨g.keep, g.le, g.ap, fun x h => (Own.of_set h).elim (fun h => (Own.of_set h).elim (g.own x) fun e => .inr (by cases e; exact nl)) fun e => .inr (by cases e; exact g1.back nm), g.there⟩ (p2 l m)⟩
/-- x, y = (a thing, a new list); (a new list, a thing) -/
def aParDL (i j : Nat) (a : AE) (b : AL) : AS := fun P sl => a sl fun x sl1 => b sl1 fun ys sl2 => ∀ m, P.nx ((sl2.set i (.d x)).set j (.m m ys))
theorem ls_parDL {bn : AL} (i j : Nat) (ha : LE K ta a) (hb : LN K tb bn) : LS K (tPar i j (tCons ta (tCons tb tNil))) (aParDL i j a bn) := by
  intro σ G H sl P D E p k
  refine ha σ G H sl _ E p _ fun v d G1 H1 sl1 E1 g1 d1 p1 => ?_
  refine hb σ G1 H1 sl1 _ E1 p1 _ fun m us ys G2 H2 sl2 E2 g2 hm gm nom nm hd2 p2 => ?_
  have E3 := E2.set (i := i) (s := .d d) ⟨v, rfl, d1.mono g2.le⟩ fun x e => nomatch e
  have E4 := E3.set (i := j) (s := .m m ys) ⟨rfl, gm, us, hm, hd2⟩ fun x e => by cases e; exact fun o => nom (own_set_d o)
  have g := g1.trans g2
  exact ⟨_, _, rfl, k.nx _ _ _ _ E4 ⟨g.keep, g.le, g.ap, fun x h => (Own.of_set h).elim (fun h => g.own x (own_set_d h)) fun e => .inr (by cases e; exact g1.back nm), g.there⟩ (p2 m)⟩
def aParLD (i j : Nat) (a : AL) (b : AE) : AS := fun P sl => a sl fun ys sl1 => b sl1 fun x sl2 => ∀ m, P.nx ((sl2.set i (.m m ys)).set j (.d x))
theorem ls_parLD {an : AL} (i j : Nat) (ha : LN K ta an) (hb : LE K tb b) : LS K (tPar i j (tCons ta (tCons tb tNil))) (aParLD i j an b) := by
  intro σ G H sl P D E p k
  refine ha σ G H sl _ E p _ fun l vs xs G1 H1 sl1 E1 g1 hl gl no nl hd p1 => ?_
  refine hb σ G1 H1 sl1 _ E1 p1 _ fun w d G2 H2 sl2 E2 g2 d2 p2 => ?_
  have hl2 : H2 l = some (.lst vs) := g2.keep l _ no hl
  have nn : H1 l ≠ none := by rw [hl]; simp
  have gl2 : G2 l = none := g2.ap l no nn gl
  have no2 : ¬ Own sl2 l := fun o => (g2.own l o).elim no nn
  have E3 := E2.set (i := i) (s := .m l xs) ⟨rfl, gl2, vs, hl2, hd.mono g2.le⟩ fun x e => by cases e; exact no2
  have E4 := E3.set (i := j) (s := .d d) ⟨w, rfl, d2⟩ fun x e => nomatch e
  have g := g1.trans g2
  exact ⟨_, _, rfl, k.nx _ _ _ _ E4 ⟨g.keep, g.le, g.ap, fun x h => (Own.of_set (own_set_d h)).elim (g.own x) fun e => .inr (by cases e; exact nl), g.there⟩ (p2 l)⟩
/-- d[k] = v, d one's own -/
def aDPut (i : Nat) (b a : AE) : AS := fun P sl => a sl fun d sl1 => (∃ l xs, sl1[i]? = some (.md l xs)) ∧ b sl1 fun e sl2 => ∃ l xs k, sl2[i]? = some (.md l xs) ∧ keyOf e = some k ∧ xs.length < sizeLine ∧ P.nx (sl2.set i (.md l (putD xs k d)))
theorem ls_dput (i : Nat) (hb : LE K tb b) (ha : LE K ta a) : LS K (sDPut (tVar i) tb ta) (aDPut i b a) := fun σ G H sl P D E p k =>
  ha σ G H sl _ E p _ fun y d G1 H1 sl1 E1 g1 d1 ⟨⟨l0, xs0, h0⟩, p1⟩ => by
    obtain ⟨v, hv, rfl, gl, vs, hl, hd⟩ := E1.slot h0
    refine ⟨_, hv, hb σ G1 H1 sl1 _ E1 p1 _ fun w e G2 H2 sl2 E2 g2 d2 p2 => ?_⟩
    obtain ⟨l, xs, kk, h1, hk, hz, p3⟩ := p2
    obtain ⟨v1, hv1, rfl, gl1, vs1, hl1, hd1⟩ := E2.slot h1
    rw [hv] at hv1
    cases hv1
    refine ⟨l0, _, rfl, ?_, k.nx σ G2 _ _ (E2.own_put (s' := .md l0 (putD xs kk d)) (o := .dK (putK vs1 kk y)) h1 rfl rfl ⟨rfl, gl1, _, upd_same, hd1.put kk (d1.mono g2.le)⟩) ((g1.trans g2).trans (Grow.own_put E2 ⟨i, _, h1, rfl⟩ rfl)) p3⟩
    rw [d2.key hk]
    exact DPut.k hl1 (by rw [hd1.length]; exact hz)

/-! ### a dict's keys walked -/
theorem Le.lock {x : Addr} {u : HO} {o : Obj} (h : Le G H) (e : H x = some u) (mu : Mut (some u)) : Le G (upd H x (.frz o u)) := ⟨fun y w n r => by
  by_cases z : y = x
  · subst z
    rcases h.rd y w n r with q | ⟨p, q⟩
    · rw [e] at q; cases q
      exact .inr ⟨o, upd_same⟩
    · rw [e] at q; cases q
      exact mu.elim
  · exact (rd_upd z).mpr (h.rd y w n r), fun y q => upd_has (h.has y q), fun y w xs r => by
  by_cases z : y = x
  · subst z
    have q := h.tp y w xs r
    rw [e] at q; cases q
    exact mu.elim
  · rw [upd_ne z]; exact h.tp y w xs r⟩
theorem kD_kV (k : Key) : Dq K G (kV k) (kD k) := by
  cases k with
  | inl i => exact .int i
  | inr x => exact .str x
theorem DqKv.getK : ∀ {vs : List (Key × V)} {ds : List (PyData × PyData)} {i : Nat} {k : Key} {v : V} {d : PyData}, DqKv K G vs ds → vs[i]? = some (k, v) → (ds.map (·.1))[i]? = some d → d = kD k
  | _, _, _, _, _, _, .nil, h, _ => by simp at h
  | _, _, 0, _, _, _, .cons a b, h, e => by
    simp at h e
    rw [← e, h.1]
  | _, _, i + 1, _, _, _, .cons a b, h, e => DqKv.getK (i := i) b (by simpa using h) (by simpa using e)
theorem wk_keys {sl₀ : Sls} {x : Addr} {o : Obj} {vs : List (Key × V)} {ds : List (PyData × PyData)} (e : H x = some (.frz o (.dK vs))) (no : ¬ Own sl₀ x) (al : DqKv K G vs ds) : Wk K false (Itk x o vs) sl₀ G H (ds.map (·.1)) := by
  have hl := al.length
  refine ⟨fun i G' H' sl' g _ hi => ⟨g.keep x _ no e, by rw [List.length_map] at hi; omega⟩, fun G' H' sl' g _ => ⟨g.keep x _ no e, by rw [List.length_map]; omega⟩, fun i G' H' y H'' σ sl d g E ed hy => ?_⟩
  obtain ⟨rfl, k, v, h1, rfl⟩ := hy
  rw [al.getK h1 ed]
  exact ⟨G', E, .refl, .inl (kD_kV k)⟩
def aForK (i : Nat) (g : AG) (s : AS) : AS := fun P sl => ∃ kvs, sl[i]? = some (.d (.dict kvs)) ∧ forR g s P (kvs.map (·.1)) sl
theorem Grow.unlock {sl sl' : Sls} {x : Addr} {u : HO} {o : Obj} {G' H' : Hp} (g : Grow sl sl' G (upd H x (.frz o u)) G' H') (e : H x = some u) (no : ¬ Own sl x) (gn : G x ≠ none) : Grow sl sl' G H G' (upd H' x u) := by
  refine ⟨fun y w n h => ?_, g.le, fun y n h1 h2 => ?_, fun y h => ?_, fun y h => ?_⟩
  · by_cases z : y = x
    · subst z
      rw [upd_same, ← h, e]
    · rw [upd_ne z]
      exact g.keep y w n (by rw [upd_ne z]; exact h)
  · have z : y ≠ x := fun z => gn (by rw [← z]; exact h2)
    exact g.ap y n (by rw [upd_ne z]; exact h1) h2
  · rcases g.own y h with q | q
    · exact .inl q
    · by_cases z : y = x
      · rw [z, upd_same] at q; cases q
      · rw [upd_ne z] at q; exact .inr q
  · by_cases z : y = x
    · rw [z, upd_same]; simp
    · rw [upd_ne z]
      exact g.there y (by rw [upd_ne z]; exact h)
theorem Env.unlock {sl : Sls} {x : Addr} {u : HO} {o : Obj} (E : Env K G H σ sl) (e : H x = some (.frz o u)) (no : ¬ Own sl x) (mu : Mut (some u)) : Env K G (upd H x u) σ sl := by
  refine E.step (Le.refl _) ⟨fun y w n r => ?_, fun y q => upd_has (E.le.has y q), fun y w xs r => ?_⟩ fun y hy => ⟨upd_ne fun z => no (z ▸ hy), (E.own hy).2⟩
  by_cases z : y = x
  · subst z
    rcases E.le.rd y w n r with q | ⟨p, q⟩
    · rw [e] at q; cases q
      exact n.elim
    · rw [e] at q; cases q
      exact .inl upd_same
  · exact (rd_upd z).mpr (E.le.rd y w n r)
  have q := E.le.tp y w xs r
  by_cases z : y = x
  · subst z
    rw [e] at q; cases q
    exact mu.elim
  · rw [upd_ne z]; exact q
theorem ls_forK {ix : List Nat} {g : TG} {ag : AG} (i₀ : Nat) (hg : LG K false ix g ag) (hs : LS K ts s) :
    LS K (fun D σ H => tLock (tFor (iKeys (tVar i₀)) g ts) D σ H ∨ tFor (iKeys (tVar i₀)) g ts D σ H) (aForK i₀ ag s) := by
  intro σ G H sl P D E ⟨kvs, hsl, p⟩ k
  obtain ⟨v, hv, u, rfl, dv⟩ := E.slot hsl
  cases dv with
  | dic rd al =>
    rename_i x vs
    have gn : G x ≠ none := rd_some rd
    have no : ¬ Own sl x := fun o => gn (E.own o).2
    -- the loop over the locked dict
    have loop : ∀ {H : Hp} {o : Obj} {D : Ends}, Env K G H σ sl → H x = some (.frz o (.dK vs)) → EndsOk K sl G H P D → tFor (iKeys (tVar i₀)) g ts D σ H := by
      intro H o D E e k
      exact ⟨.ref x, hv, x, o, rfl, .inl ⟨vs, e, for_core hg hs E (wk_keys e no al) p k⟩⟩
    rcases E.le.rd x (.dK vs) trivial rd with q | ⟨o, q⟩
    · refine .inl ⟨x, _, q, trivial, fun od => ?_⟩
      have E1 : Env K G (upd H x (.frz od (.dK vs))) σ sl := E.step (Le.refl _) (E.le.lock q trivial) fun y hy => ⟨upd_ne fun z => no (z ▸ hy), (E.own hy).2⟩
      refine loop E1 upd_same ⟨fun σ' G' H' sl' E' g' p' => ?_, fun v d σ' G' H' sl' E' g' d' p' => ?_, fun σ' G' H' sl' E' g' p' => ?_, fun σ' G' H' sl' E' g' p' => ?_⟩
      all_goals
        have hx : H' x = some (.frz od (.dK vs)) := g'.keep x _ no upd_same
        have no' : ¬ Own sl' x := fun o => (g'.own x o).elim no (by rw [upd_same]; simp)
        have E2 := E'.unlock hx no' trivial
        have g2 := g'.unlock q no gn
      · exact ⟨hx, k.nx _ _ _ _ E2 g2 p'⟩
      · exact ⟨hx, k.rt _ _ _ _ _ _ E2 g2 d' p'⟩
      · exact ⟨hx, k.bk _ _ _ _ E2 g2 p'⟩
      · exact ⟨hx, k.ct _ _ _ _ E2 g2 p'⟩
    · exact .inr (loop E q k)
end
end R

namespace R
open PySem PySem.Spec PyProof.Rows L2 RX
section
variable {K : Frag} {ta tb te tc : TE} {a b c : AE} {G H : Hp} {σ : L2.St} {tt tu : TT} {t u : AT} {tas : TA} {as : AL} {ts us : TS} {s r : AS}

/-! ### dict comprehensions -/
def dcR (g : AG) (t : AT) (ek ev : AE) (vs : List Nat) (Q : List (PyData × PyData) → Sls → Prop) : List PyData → Sls → List (PyData × PyData) → Prop
  | [], sl, acc => Q acc (unS sl vs)
  | d :: ds, sl, acc => g d (unS sl vs) fun sl2 => t sl2 fun b sl3 => (b = true → ek sl3 fun y sl4 => ev sl4 fun z sl5 => ∃ k, keyOf y = some k ∧ acc.length < sizeLine ∧ dcR g t ek ev vs Q ds (unS sl5 vs) (putD acc k z)) ∧ (b = false → dcR g t ek ev vs Q ds (unS sl3 vs) acc)
structure MineD (K : Frag) (G H : Hp) (sl : Sls) (D : Addr) (acc : List (PyData × PyData)) : Prop where
  at_ : ∃ vs, H D = some (.dK vs) ∧ DqKv K G vs acc
  gn : G D = none
  no : ¬ Own sl D
theorem MineD.grow {sl sl' : Sls} {G' H' : Hp} {D : Addr} {acc : List (PyData × PyData)} (m : MineD K G H sl D acc) (g : Grow sl sl' G H G' H') : MineD K G' H' sl' D acc := by
  obtain ⟨vs, h1, h2⟩ := m.at_
  have nn : H D ≠ none := by rw [h1]; simp
  exact ⟨⟨vs, g.keep D _ m.no h1, h2.mono g.le⟩, g.ap D m.no nn m.gn, fun o => (g.own D o).elim m.no nn⟩
theorem dc_core {w : Bool} {ix vs : List Nat} {g : TG} {ag : AG} {J : It} {ds : List PyData} {sl1 : Sls} {G1 H1 : Hp} {P : List (PyData × PyData) → Sls → Prop} {D : Addr} {Qd : Hp → Prop} (hg : LG K w ix g ag) (ht : LT K tt t) (hk : LE K ta a) (he : LE K tb b) (hv : ∀ j ∈ ix, j ∈ vs)
    (E1 : Env K G1 H1 σ sl1) (wk : Wk K w J sl1 G1 H1 ds) (p1 : dcR ag t a b vs P ds sl1 []) (hD : H1 D = none)
    (fin : ∀ avs acc Gi sli Hi, Env K Gi Hi σ sli → Grow sl1 sli G1 H1 Gi Hi → Hi D = some (.dK avs) → Gi D = none → ¬ Own sli D → DqKv K Gi avs acc → P acc sli → Qd Hi) :
    ∃ W : Nat → Nat → Hp → Prop, (∃ m, W 0 m (upd H1 D (.dK []))) ∧ ∀ i m H, W i m H →
      (J.stop i H ∧ Qd H) ∨ (J.go i H ∧ ∃ Nx : Hp → Prop, (∀ H', Nx H' → ∃ m', m' < m ∧ W (i + 1) m' H') ∧ ∀ x H', J.yld i H x H' → g x (wipe σ vs) H' fun σ2 H2 => wipe σ2 vs = wipe σ vs ∧ tt σ2 H2 fun b H3 =>
        if b = true then ta σ2 H3 fun y H4 => tb σ2 H4 fun z H5 => ∃ kvs k, y = kV k ∧ H5 D = some (.dK kvs) ∧ kvs.length < sizeLine ∧ Nx (upd H5 D (.dK (putK kvs k z))) else Nx H3) := by
  have gD := E1.gnone hD
  let S : Nat → Hp → Prop := fun i Hi => ∃ Gi sli acc, i ≤ ds.length ∧ Env K Gi Hi σ sli ∧ MineD K Gi Hi sli D acc ∧ Grow sl1 sli G1 H1 Gi Hi ∧ dcR ag t a b vs P (ds.drop i) sli acc
  refine ⟨fun i m Hi => m = ds.length - i ∧ S i Hi, ⟨_, rfl, G1, sl1, [], Nat.zero_le _, E1.newO hD, ⟨⟨[], upd_same, .nil⟩, gD, fun o => (E1.own o).1 hD⟩, Grow.newO hD, p1⟩, ?_⟩
  rintro i m Hi ⟨rfl, Gi, sli, acc, hle, Ei, mi, ki, pi⟩
  by_cases hlt : i < ds.length
  · obtain ⟨d, hd⟩ : ∃ d, ds[i]? = some d := ⟨_, List.getElem?_eq_getElem hlt⟩
    have hdrop : ds.drop i = d :: ds.drop (i + 1) := by
      rw [List.drop_eq_getElem_cons hlt]
      rw [List.getElem?_eq_getElem hlt] at hd
      rw [Option.some.inj hd]
    rw [hdrop] at pi
    refine .inr ⟨wk.go i Gi Hi sli ki Ei.le hlt, S (i + 1), fun H' s' => ⟨ds.length - (i + 1), by omega, rfl, s'⟩, fun x H2 hy => ?_⟩
    obtain ⟨G2, E2, g2, d2⟩ := wk.yld i Gi Hi x H2 σ sli d ki Ei hd hy
    have m2 := mi.grow g2
    refine hg (wipe σ vs) G2 H2 (unS sli vs) x d _ (E2.wiped vs) d2 pi _ fun σ3 sl3 E3 g3 w3 p3 => ⟨(w3 vs hv).trans (wipe_wipe vs), ?_⟩
    have ew : wipe σ3 vs = wipe σ vs := (w3 vs hv).trans (wipe_wipe vs)
    refine ht σ3 G2 H2 sl3 _ E3 p3 _ fun k G4 H4 sl4 E4 g4 p4 => ?_
    have g24 : Grow sli sl4 G2 H2 G4 H4 := ((Grow.less fun x h => own_unS h).trans g3).trans g4
    cases k with
    | false =>
      refine ite_ff ?_
      have E5 : Env K G4 H4 σ (unS sl4 vs) := by
        have z := E4.wiped vs
        rw [ew] at z
        exact z.back
      have g5 : Grow sli (unS sl4 vs) G2 H2 G4 H4 := g24.trans (.less fun x h => own_unS h)
      exact ⟨G4, unS sl4 vs, acc, hlt, E5, m2.grow g5, (ki.trans g2).trans g5, p4.2 rfl⟩
    | true =>
      refine ite_tt ?_
      refine hk σ3 G4 H4 sl4 _ E4 (p4.1 rfl) _ fun y dy G5 H5 sl5 E5 g5 d5 p5 => ?_
      refine he σ3 G5 H5 sl5 _ E5 p5 _ fun z dz G6 H6 sl6 E6 g6 d6 ⟨kk, hkk, hz, p6⟩ => ?_
      have g26 : Grow sli (unS sl6 vs) G2 H2 G6 H6 := ((g24.trans g5).trans g6).trans (.less fun x h => own_unS h)
      have m6 := m2.grow g26
      obtain ⟨avs, hav, dav⟩ := m6.at_
      have E7 : Env K G6 H6 σ (unS sl6 vs) := by
        have q := E6.wiped vs
        rw [ew] at q
        exact q.back
      exact ⟨avs, kk, d5.key hkk, hav, by rw [dav.length]; exact hz, G6, unS sl6 vs, putD acc kk dz, hlt, E7.mine m6.gn m6.no, ⟨⟨_, upd_same, dav.put kk d6⟩, m6.gn, m6.no⟩, ((ki.trans g2).trans g26).mine hD, p6⟩
  · have e : i = ds.length := by omega
    subst e
    rw [List.drop_length] at pi
    obtain ⟨avs, hav, dav⟩ := mi.at_
    exact .inl ⟨wk.stop Gi Hi sli ki Ei.le, fin avs acc Gi (unS sli vs) Hi (Ei.wiped vs).back (ki.trans (.less fun x h => own_unS h)) hav mi.gn (fun o => mi.no (own_unS o)) dav pi⟩
def aDc (it : AI) (g : AG) (t : AT) (ek ev : AE) (vs : List Nat) : AM := fun sl Q => it sl fun ds sl1 => dcR g t ek ev vs Q ds sl1 []
theorem lm_dc {w : Bool} {wi : TI} {it : AI} {ix : List Nat} {g : TG} {ag : AG} {vs : List Nat} (hi : LI K w wi it) (hg : LG K w ix g ag) (ht : LT K tt t) (hk : LE K ta a) (he : LE K tb b) (hv : ∀ j ∈ ix, j ∈ vs := by decide) :
    LM K (tDc wi g tt ta tb vs) (aDc it ag t a b vs) := by
  intro σ G H sl P E p Q q
  refine hi σ G H sl _ E p _ fun J ds G1 H1 sl1 E1 g1 wk p1 D hD => ?_
  exact dc_core hg ht hk he hv E1 wk p1 hD fun avs acc Gi sli Hi Ei ki hav gn no dav pi => q D avs acc Gi Hi sli Ei (g1.trans ki) hav gn no (g1.back hD) dav pi
/-- over the keys of a dict that has a name -/
def aDcK (i : Nat) (g : AG) (t : AT) (ek ev : AE) (vs : List Nat) : AM := fun sl Q => ∃ kvs, sl[i]? = some (.d (.dict kvs)) ∧ dcR g t ek ev vs Q (kvs.map (·.1)) sl []
theorem lm_dcK {ix : List Nat} {g : TG} {ag : AG} {vs : List Nat} (i₀ : Nat) (hg : LG K false ix g ag) (ht : LT K tt t) (hk : LE K ta a) (he : LE K tb b) (hv : ∀ j ∈ ix, j ∈ vs := by decide) :
    LM K (fun σ H Q => tLockE (tDc (iKeys (tVar i₀)) g tt ta tb vs) σ H Q ∨ tDc (iKeys (tVar i₀)) g tt ta tb vs σ H Q) (aDcK i₀ ag t a b vs) := by
  intro σ G H sl P E ⟨kvs, hsl, p⟩ Q q
  obtain ⟨v, hv', u, rfl, dv⟩ := E.slot hsl
  cases dv with
  | dic rd al =>
    rename_i x us
    have gn : G x ≠ none := rd_some rd
    have no : ¬ Own sl x := fun o => gn (E.own o).2
    have run : ∀ {H : Hp} {o : Obj} {Q : VK}, Env K G H σ sl → H x = some (.frz o (.dK us)) → (∀ l avs acc Gi Hi sli, Env K Gi Hi σ sli → Grow sl sli G H Gi Hi → Hi l = some (.dK avs) → Gi l = none → ¬ Own sli l → H l = none → DqKv K Gi avs acc → P acc sli → Q (.ref l) Hi) →
        tDc (iKeys (tVar i₀)) g tt ta tb vs σ H Q := by
      intro H o Q E e fin
      exact ⟨.ref x, hv', x, o, rfl, .inl ⟨us, e, fun D hD => dc_core hg ht hk he hv E (wk_keys e no al) p hD fun avs acc Gi sli Hi Ei ki hav gn no dav pi => fin D avs acc Gi Hi sli Ei ki hav gn no hD dav pi⟩⟩
    rcases E.le.rd x (.dK us) trivial rd with e | ⟨o, e⟩
    · refine .inl ⟨x, _, e, trivial, fun od => ?_⟩
      have E1 : Env K G (upd H x (.frz od (.dK us))) σ sl := E.step (Le.refl _) (E.le.lock e trivial) fun y hy => ⟨upd_ne fun z => no (z ▸ hy), (E.own hy).2⟩
      refine run E1 upd_same fun l avs acc Gi Hi sli Ei ki hav gl nl hl dav pi => ?_
      have hx : Hi x = some (.frz od (.dK us)) := ki.keep x _ no upd_same
      have no' : ¬ Own sli x := fun o => (ki.own x o).elim no (by rw [upd_same]; simp)
      have lx : l ≠ x := fun z => by rw [z, upd_same] at hl; cases hl
      exact ⟨hx, q l avs acc Gi _ sli (Ei.unlock hx no' trivial) (ki.unlock e no gn) (by rw [upd_ne lx]; exact hav) gl nl (by rw [upd_ne lx] at hl; exact hl) dav pi⟩
    · exact .inr (run E e q)

/-! ### a def of the text -/
/-- its arguments' slots behind it -/
def finS : Sls → Sls → Sls
  | .d x :: as, _ :: sl => .d x :: finS as sl
  | .m l _ :: as, .m l' xs :: sl => (if l = l' then .m l xs else .un) :: finS as sl
  | .md l _ :: as, .md l' xs :: sl => (if l = l' then .md l xs else .un) :: finS as sl
  | .ob l _ _ :: as, .ob l' C fs :: sl => (if l = l' then .ob l C fs else .un) :: finS as sl
  | _ :: as, _ :: sl => .un :: finS as sl
  | _ :: as, [] => .un :: finS as []
  | [], _ => []
theorem finS_len : ∀ {as sl : Sls}, (finS as sl).length = as.length
  | [], [] => rfl
  | [], _ :: _ => rfl
  | a :: as, [] => by
    have ih := finS_len (as := as) (sl := [])
    cases a <;> simp [finS, ih]
  | a :: as, s :: sl => by
    have ih := finS_len (as := as) (sl := sl)
    cases a <;> cases s <;> simp [finS, ih]
theorem finS_get : ∀ {as sl : Sls} {k : Nat} {x : Slot}, (finS as sl)[k]? = some x → x = .un ∨ (∃ y, as[k]? = some (.d y) ∧ x = .d y) ∨ (sl[k]? = some x ∧ ∃ s l, as[k]? = some s ∧ s.addr = some l ∧ x.addr = some l)
  | [], sl, k, x, h => by simp [finS] at h
  | a :: as, [], 0, x, h => by
    have h' : x = .un := by cases a <;> simp [finS] at h <;> exact h.symm
    exact .inl h'
  | a :: as, [], k + 1, x, h => by
    have h' : (finS as [])[k]? = some x := by cases a <;> simpa [finS] using h
    rcases finS_get h' with e | ⟨y, e, e2⟩ | ⟨e, r⟩
    · exact .inl e
    · exact .inr (.inl ⟨y, by simpa using e, e2⟩)
    · simp at e
  | a :: as, s :: sl, 0, x, h => by
    cases a <;> cases s <;> simp [finS] at h <;> subst h
    all_goals first
      | exact .inl rfl
      | exact .inr (.inl ⟨_, rfl, rfl⟩)
      | (split
         · rename_i e
           subst e
           exact .inr (.inr ⟨rfl, _, _, rfl, rfl, rfl⟩)
         · exact .inl rfl)
  | a :: as, s :: sl, k + 1, x, h => by
    have h' : (finS as sl)[k]? = some x := by cases a <;> cases s <;> simpa [finS] using h
    rcases finS_get h' with e | ⟨y, e, e2⟩ | ⟨e, r⟩
    · exact .inl e
    · exact .inr (.inl ⟨y, by simpa using e, e2⟩)
    · obtain ⟨s', l, r1, r2⟩ := r
      exact .inr (.inr ⟨by simpa using e, s', l, by simpa using r1, r2⟩)
/-- the slots at the entry -/
def startS (n : Nat) (as : Sls) : Sls := as ++ List.replicate (n - as.length) .un
theorem startS_get {n k : Nat} {as : Sls} {s : Slot} (h : (startS n as)[k]? = some s) : as[k]? = some s ∨ s = .un := by
  unfold startS at h
  by_cases hk : k < as.length
  · rw [List.getElem?_append_left hk] at h
    exact .inl h
  · rw [List.getElem?_append_right (by omega), List.getElem?_replicate] at h
    split at h
    · exact .inr (Option.some.inj h).symm
    · cases h
theorem env_start {N : List Str} {vs : List V} {as : Sls} (E : Env K G H (vs.map some) as) (hl : vs.length ≤ N.length) : Env K G H (L2.start N vs) (startS N.length as) := by
  have hla : vs.length = as.length := by have := E.len; rw [List.length_map] at this; exact this
  refine ⟨E.le, by unfold L2.start startS; rw [List.length_append, List.length_append, List.length_map, List.length_replicate, List.length_replicate, hla], fun i v s h1 h2 => ?_, fun i j s t l h1 h2 h3 h4 => ?_⟩
  · rcases startS_get h2 with q | q
    · have hi : i < vs.length := by rw [hla]; exact (List.getElem?_eq_some_iff.mp q).1
      unfold L2.start at h1
      rw [List.getElem?_append_left (by rw [List.length_map]; exact hi)] at h1
      exact E.ok i v s h1 q
    · subst q; trivial
  · rcases startS_get h1 with q | q
    · rcases startS_get h2 with q' | q'
      · exact E.one i j s t l q q' h3 h4
      · subst q'; cases h4
    · subst q; cases h3
theorem own_start {n : Nat} {as : Sls} {x : Addr} : Own (startS n as) x ↔ Own as x := by
  refine ⟨fun ⟨i, s, h1, h2⟩ => ?_, fun ⟨i, s, h1, h2⟩ => ⟨i, s, ?_, h2⟩⟩
  · rcases startS_get h1 with q | q
    · exact ⟨i, s, q, h2⟩
    · subst q; cases h2
  · unfold startS
    rw [List.getElem?_append_left (List.getElem?_eq_some_iff.mp h1).1]
    exact h1
/-- from a def's end: its arguments' slots -/
theorem env_fin {vs : List V} {as sl' : Sls} {σ' : L2.St} {G' H' : Hp} {n : Nat} (E : Env K G H (vs.map some) as) (E' : Env K G' H' σ' sl') (g : Grow (startS n as) sl' G H G' H') :
    Env K G' H' (vs.map some) (finS as sl') ∧ Grow as (finS as sl') G H G' H' := by
  have hla : vs.length = as.length := by have := E.len; rw [List.length_map] at this; exact this
  have addr : ∀ {k : Nat} {s : Slot} {l : Addr}, (finS as sl')[k]? = some s → s.addr = some l → ∃ s', as[k]? = some s' ∧ s'.addr = some l := fun {k s l} h e => by
    rcases finS_get h with q | ⟨y, _, q⟩ | ⟨_, s', l', q1, q2, q3⟩
    · subst q; cases e
    · subst q; cases e
    · rw [e] at q3; cases q3
      exact ⟨s', q1, q2⟩
  refine ⟨⟨E'.le, by rw [finS_len, List.length_map, hla], fun k v s h1 h2 => ?_, fun i j s t l h1 h2 h3 h4 => ?_⟩, ⟨fun a o n e => g.keep a o (fun h => n (own_start.mp h)) e, g.le, fun a n e1 e2 => g.ap a (fun h => n (own_start.mp h)) e1 e2, fun a ⟨k, s, h1, h2⟩ => ?_, g.there⟩⟩
  · rcases finS_get h2 with q | ⟨y, q1, q⟩ | ⟨q0, s', l', q1, q2, q3⟩
    · subst q; trivial
    · subst q
      have q := E.ok k v _ h1 q1
      obtain ⟨u, e, d⟩ := q
      exact ⟨u, e, d.mono g.le⟩
    · have a1 := E.at_own q1 q2
      rw [h1] at a1
      have a2 := E'.at_own q0 q3
      have ok := E'.ok k _ s a2 q0
      rw [Option.some.inj a1]
      exact ok
  · obtain ⟨s1, b1, b2⟩ := addr h1 h3
    obtain ⟨s2, c1, c2⟩ := addr h2 h4
    exact E.one i j s1 s2 l b1 c1 b2 c2
  · obtain ⟨s', b1, b2⟩ := addr h1 h2
    exact .inl ⟨k, s', b1, b2⟩
end
section
variable {P : Program} {w : World} {K : PySem.W.Frag} {mg : Str → Option Value} {base : Heap}
theorem def_ok {x qual : Str} {st : Stmt} {f : Addr} {fd : FuncData} {N ps : List Str} {k : Nat} {fa : AF} {t : TS} {a : AS} (F : Fun K x qual st f fd) (S : FnScope N ps (defScope st)) (hps : ps.length ≤ N.length) (many : ∀ as Q, fa as Q → as.length = ps.length)
    (body : ∀ (cdv : Value) (A : Around) (outer : List PySem.Env) (s : Shared) (H : Hp), Room k (A.deeper (envOfC qual (defScope st) s.heap.objs.size f cdv)) → A.guards = some [] → PSs (cxOf CX0 P w K mg base N qual (defScope st) f cdv A outer s H E0).nox (defBody st) t) (read : LS K t a)
    (does : ∀ as Q, fa as Q → a { nx := fun sl' => Q .none (finS as sl'), rt := fun d sl' => Q d (finS as sl') } (startS N.length as)) : FnG P w K mg base (k + 1) f fd ps (SpD K fa) := by
  refine FnG.of F S (fun vs H Q ⟨G, as, R, E, h, _⟩ => ?_) fun cdv A outer s H hr hg => ⟨t, body cdv A outer s H hr hg, fun vs H Q ⟨G, as, R, E, h, fin⟩ => ?_⟩
  · have := E.len
    rw [List.length_map, many as R h] at this
    exact this
  · have hl : vs.length ≤ N.length := by
      have := E.len
      rw [List.length_map, many as R h] at this
      omega
    have E0 := env_start E hl
    refine read _ G H _ _ _ E0 (does as R h) ⟨fun σ' G' H' sl' E' g p => ?_, fun v d σ' G' H' sl' E' g dv p => ?_, fun _ _ _ _ _ _ p => p.elim, fun _ _ _ _ _ _ p => p.elim⟩
    · have q := env_fin E E' g
      exact fin .non .none G' H' _ q.1 q.2 .non p
    · have q := env_fin E E' g
      exact fin v d G' H' _ q.1 q.2 dv p
/-- a def that the text may call -/
def Ok (P : Program) (w : World) (K : PySem.W.Frag) (mg : Str → Option Value) (base : Heap) (k : Nat) (x : Str) (ps : List Str) (fa : AF) : Prop :=
  ∃ f fd, FnG P w K mg base k f fd ps (SpD K fa) ∧ mg x = some (.ref f) ∧ PySem.W.keepIn K (.ref f) = true ∧ Binds K fd ps []
/-- a def that the top has written -/
def Def (K : PySem.W.Frag) (mg : Str → Option Value) (x : Str) (ps : List Str) (st : Stmt) : Prop := ∃ f fd, Fun K x x st f fd ∧ mg x = some (.ref f) ∧ Binds K fd ps []
theorem Ok.of {x : Str} {ps N : List Str} {st : Stmt} {k : Nat} {fa : AF} {t : TS} {a : AS} (D : Def K mg x ps st) (S : FnScope N ps (defScope st)) (hps : ps.length ≤ N.length) (many : ∀ as Q, fa as Q → as.length = ps.length)
    (body : ∀ (f : Addr) (cdv : Value) (A : Around) (outer : List PySem.Env) (s : Shared) (H : Hp), Room k (A.deeper (envOfC x (defScope st) s.heap.objs.size f cdv)) → A.guards = some [] → PSs (cxOf CX0 P w K mg base N x (defScope st) f cdv A outer s H E0).nox (defBody st) t) (read : LS K t a)
    (does : ∀ as Q, fa as Q → a { nx := fun sl' => Q .none (finS as sl'), rt := fun d sl' => Q d (finS as sl') } (startS N.length as)) : Ok P w K mg base (k + 1) x ps fa := by
  obtain ⟨f, fd, F, hm, hb⟩ := D
  exact ⟨f, fd, def_ok F S hps many (body f) read does, hm, F.kp, hb⟩
theorem Ok.mono {j k : Nat} {x : Str} {ps : List Str} {fa : AF} (O : Ok P w K mg base j x ps fa) (h : j ≤ k) : Ok P w K mg base k x ps fa := by
  obtain ⟨f, fd, F, hm, hk, hb⟩ := O
  exact ⟨f, fd, F.mono h, hm, hk, hb⟩
/-- a promise that says less -/
theorem Ok.less {k : Nat} {x : Str} {ps : List Str} {fa fb : AF} (O : Ok P w K mg base k x ps fa) (h : ∀ as Q, fb as Q → fa as Q) : Ok P w K mg base k x ps fb := by
  obtain ⟨f, fd, F, hm, hk, hb⟩ := O
  refine ⟨f, fd, ⟨fun vs H Q ⟨G, as, R, E, p, q⟩ => F.many vs H Q ⟨G, as, R, E, h _ _ p, q⟩, fun A outer s H args us vs Q hr hg e0 bt rv ⟨G, as, R, E, p, q⟩ => F.runs A outer s H args us vs Q hr hg e0 bt rv ⟨G, as, R, E, h _ _ p, q⟩⟩, hm, hk, hb⟩
end
section
variable {X : Cx} {k : Nat} {ps : List Str} {fa : AF} {x : Str} {p pos : Pos} {e : Expr} {es : List Expr} {t : TA}
theorem pe_ok (O : Ok X.prog X.w X.K X.mg X.base k x ps fa) (hr : Room k X.A) (hgu : X.A.guards = some []) (hg : Gl X x)
    (ha : PA X (e :: es) t) (hdb : (x == ("__debug__" : Str)) = false := by decide) (he : starEach (e :: es) X.env = (false, eval e X.env) :: starEach es X.env := by rfl) (hpl : (backTo pos (starEach es X.env)).any (·.1) = false := by rfl) :
    PE X (.Call (.Name x p) (e :: es) [] pos) (tCallG (SpD X.K fa) t) := by
  obtain ⟨f, fd, F, hm, hk, hb⟩ := O
  exact pe_callG F hr hgu hg hm hk hb ha hdb he hpl
end

/-! ### isinstance, max -/
section
variable {K : Frag} {ta tb te tc : TE} {a b c : AE} {G H : Hp} {σ : L2.St}
def isTy (T : String) (d : PyData) : Bool := tyD d == T || (T == "int" && tyD d == "bool")
def fIsi (T : String) (ds : List PyData) (P : PyData → Prop) : Prop := match ds with
  | [d] => d.hasDict = false ∧ P (.bool (isTy T d))
  | _ => False
theorem kit_ty (T : String) (hT : T = "int" ∨ T = "bool" ∨ T = "tuple" ∨ T = "str" ∨ T = "list") (d : PyData) : PySem.W.kitOne K (.type (tyD d)) (.type T) = some (isTy T d) := by
  rcases hT with rfl | rfl | rfl | rfl | rfl <;> cases d <;> rfl
theorem le_isi (T : String) (hT : T = "int" ∨ T = "bool" ∨ T = "tuple" ∨ T = "str" ∨ T = "list" := by decide) (ha : LE K ta a) : LE K (tCB (rIsi K) (tCons ta (tCons (tC (.ty T)) tNil))) (aCB (fIsi T) (aCons a aNil)) := fun σ G H sl P E p Q q =>
  ha σ G H sl _ E p _ fun v d G1 H1 sl1 E1 g1 d1 p1 => ⟨v, .ty T, .type (tyD d), .type T, _, rfl, .ty T, d1.tyX E1.le p1.1, kit_ty T hT d, q _ _ G1 H1 sl1 E1 g1 (.bl _) p1.2⟩
def fMaxL : FC := fun ds P => ∃ ns : List Int, ds = [.list (ns.map PyData.int)] ∧ 0 < ns.length ∧ ∀ m, m ∈ ns → (∀ y ∈ ns, y ≤ m) → P (.int m)
end
end R

namespace R
open PySem PySem.Spec PyProof.Rows L2 RX
section
variable {K : Frag} {ta tb te tc : TE} {a b c : AE} {G H : Hp} {σ : L2.St} {tt tu : TT} {t u : AT} {tas : TA} {as : AL} {ts us : TS} {s r : AS}

/-! ### one way of reading or the other -/
theorem LE.or (h : LE K ta a) (h' : LE K ta b) : LE K ta (fun sl Q => a sl Q ∨ b sl Q) := fun σ G H sl P E p Q q => p.elim (fun p => h σ G H sl P E p Q q) fun p => h' σ G H sl P E p Q q
theorem LS.or (h : LS K ts s) (h' : LS K ts r) : LS K ts (fun P sl => s P sl ∨ r P sl) := fun σ G H sl P D E p k => p.elim (fun p => h σ G H sl P D E p k) fun p => h' σ G H sl P D E p k
theorem LE.imp (h : LE K ta a) (i : ∀ sl Q, b sl Q → a sl Q) : LE K ta b := fun σ G H sl P E p Q q => h σ G H sl P E (i _ _ p) Q q
theorem LS.imp (h : LS K ts s) (i : ∀ P sl, r P sl → s P sl) : LS K ts r := fun σ G H sl P D E p k => h σ G H sl P D E (i _ _ p) k
/-- what is never reached -/
def tNo : TE := fun _ _ _ => False
def aNo : AE := fun _ _ => False
theorem le_no : LE K tNo aNo := fun _ _ _ _ _ _ p => p.elim
theorem pe_no {X : Cx} {e : Expr} : PE X e tNo := ⟨fun _ _ _ _ _ _ h => h.elim⟩

/-! ### several names at once -/
def aPar3 (i j l : Nat) (as : AL) : AS := fun P sl => as sl fun ds sl' => ∃ d e f, ds = [d, e, f] ∧ P.nx (((sl'.set i (.d d)).set j (.d e)).set l (.d f))
theorem ls_par3 (i j l : Nat) (has : LD K tas as) : LS K (tPar3 i j l tas) (aPar3 i j l as) := fun σ G H sl P D E p k =>
  has σ G H sl _ E p _ fun vs ds G1 H1 sl1 E1 g1 hd ⟨d, e, f, h, p1⟩ => by
    subst h
    cases hd with
    | cons h1 r =>
      obtain ⟨v, w, rfl, h2, h3⟩ := dq2 r
      refine ⟨_, v, w, rfl, k.nx _ _ _ _ (((E1.set (i := i) (s := .d d) ⟨_, rfl, h1⟩ fun x e => nomatch e).set (i := j) (s := .d e) ⟨_, rfl, h2⟩ fun x e => nomatch e).set (i := l) (s := .d f) ⟨_, rfl, h3⟩ fun x e => nomatch e) ⟨g1.keep, g1.le, g1.ap, fun x h => g1.own x (own_set_d (own_set_d (own_set_d h))), g1.there⟩ p1⟩
/-- x, y = ({}, []) where x or y is a cell: by a tuple that nobody keeps -/
theorem ls_parMLt {am : AM} {bn : AL} (i j : Nat) (ha : LM K ta am) (hb : LN K tb bn) : LS K (tAsg (tTupK (tCons ta (tCons tb tNil))) (gTup K 2 (gCons (gName i) (gCons (gName j) gNil)))) (aParML i j am bn) := by
  intro σ G H sl P D E p k
  refine ha σ G H sl _ E p _ fun l vs xs G1 H1 sl1 E1 g1 hl gl no nl hd p1 => ?_
  refine hb σ G1 H1 sl1 _ E1 p1 _ fun m us ys G2 H2 sl2 E2 g2 hm gm nom nm hd2 p2 => ?_
  refine ⟨(by decide : (2 : Nat) ≤ sizeLine), fun q ob hq _ => ⟨q, _, rfl, .inl (.inr ⟨ob, upd_same⟩), rfl, _, _, rfl, _, _, rfl, rfl, ?_⟩⟩
  have hl2 : H2 l = some (.dK vs) := g2.keep l _ no hl
  have nn : H1 l ≠ none := by rw [hl]; simp
  have gl2 : G2 l = none := g2.ap l no nn gl
  have no2 : ¬ Own sl2 l := fun o => (g2.own l o).elim no nn
  have lm : m ≠ l := fun e => nn (by rw [← e]; exact nm)
  have ql : l ≠ q := fun e => by rw [e, hq] at hl2; cases hl2
  have qm : m ≠ q := fun e => by rw [e, hq] at hm; cases hm
  have E2' := E2.newO (o := .frz ob (.tup [.ref l, .ref m])) hq
  have E3 := E2'.set (i := i) (s := .md l xs) ⟨rfl, gl2, vs, by rw [upd_ne ql]; exact hl2, hd.mono g2.le⟩ fun x e => by cases e; exact no2
  have nom3 : ¬ Own (sl2.set i (.md l xs)) m := fun o => (Own.of_set o).elim nom fun e => by cases e; exact lm rfl
  have E4 := E3.set (i := j) (s := .m m ys) ⟨rfl, gm, us, by rw [upd_ne qm]; exact hm, hd2⟩ fun x e => by cases e; exact nom3
  have g := (g1.trans g2).trans (Grow.newO (o := .frz ob (.tup [.ref l, .ref m])) hq)
  exact k.nx _ _ _ _ E4 ⟨g.keep, g.le, g.ap, fun x h => (Own.of_set h).elim (fun h => (Own.of_set h).elim (g.own x) fun e => .inr (by cases e; exact nl)) fun e => .inr (by cases e; exact g1.back nm), g.there⟩ (p2 l m)

/-! ### insert -/
def rInsert : V → List V → Hp → VK → Prop := fun x vs H Q => ∃ (l : Addr) (xs : List V) (i : Int) (y : V), x = .ref l ∧ vs = [.int i, y] ∧ H l = some (.lst xs) ∧ xs.length < sizeLine ∧ 0 ≤ i ∧ i < 2 ^ 63 ∧ Q .non (upd H l (.lst (xs.take i.toNat ++ [y] ++ xs.drop i.toNat)))
def aIns (i : Nat) (a b : AE) : AS := fun P sl => (∃ l xs, sl[i]? = some (.m l xs)) ∧ a sl fun e sl1 => b sl1 fun d sl' => match e with
  | .int j => ∃ l xs, sl'[i]? = some (.m l xs) ∧ xs.length < sizeLine ∧ 0 ≤ j ∧ j < 2 ^ 63 ∧ P.nx (sl'.set i (.m l (xs.take j.toNat ++ [d] ++ xs.drop j.toNat)))
  | _ => False
theorem ls_ins (i : Nat) (ha : LE K ta a) (hb : LE K tb b) : LS K (tDrop (tBM K "list" rInsert (tVar i) (tCons ta (tCons tb tNil)))) (aIns i a b) := fun σ G H sl P D E ⟨⟨l0, xs0, h0⟩, p⟩ k => by
  obtain ⟨v, hv, rfl, gl, vs, hl, hd⟩ := E.slot h0
  refine ⟨_, hv, .inl ⟨rfl, _, .inl (.inl hl)⟩, ?_⟩
  refine ha σ G H sl _ E p _ fun y e G1 H1 sl1 E1 g1 d1 p1 => ?_
  refine hb σ G1 H1 sl1 _ E1 p1 _ fun z d G2 H2 sl2 E2 g2 d2 p2 => ?_
  cases d1 with
  | int j =>
    obtain ⟨l, xs, h1, hz, j0, j1, p3⟩ := p2
    obtain ⟨v1, hv1, rfl, gl1, vs1, hl1, hd1⟩ := E2.slot h1
    rw [hv] at hv1
    cases hv1
    refine ⟨l0, vs1, j, z, rfl, rfl, hl1, by rw [hd1.length]; exact hz, j0, j1, ?_⟩
    exact k.nx σ G2 _ _ (E2.own_put (s' := .m l0 (xs.take j.toNat ++ [d] ++ xs.drop j.toNat)) h1 rfl rfl ⟨rfl, gl1, _, upd_same, ((hd1.take _).append (.cons d2 .nil)).append (hd1.drop _)⟩) ((g1.trans g2).trans (Grow.own_put E2 ⟨i, _, h1, rfl⟩ rfl)) p3
  | _ => exact p2.elim

/-! ### a call whose value is a new list -/
theorem env_data {vs : List V} {ds : List PyData} (h : DqAll K G vs ds) (le : Le G H) : Env K G H (vs.map some) (ds.map Slot.d) := by
  refine ⟨le, by rw [List.length_map, List.length_map, h.length], fun i v s h1 h2 => ?_, fun i j s t l h1 h2 h3 h4 => ?_⟩
  · rw [List.getElem?_map] at h1 h2
    cases e : ds[i]? with
    | none => rw [e] at h2; cases h2
    | some d =>
      rw [e] at h2; cases h2
      obtain ⟨w, hw, q⟩ := h.get e
      rw [hw] at h1; cases h1
      exact ⟨w, rfl, q⟩
  · rw [List.getElem?_map] at h1
    cases e : ds[i]? with
    | none => rw [e] at h1; cases h1
    | some d => rw [e] at h1; cases h1; cases h3
abbrev AFn := List PyData → (List PyData → Prop) → Prop
def SpN (K : Frag) (fa : AFn) : SpG := fun vs H Q => ∃ G ds P, DqAll K G vs ds ∧ Le G H ∧ fa ds P ∧ ∀ l us xs G' H', Le G' H' → Grow [] [] G H G' H' → H' l = some (.lst us) → G' l = none → H l = none → DqAll K G' us xs → P xs → Q (.ref l) H'
def aCallN (fa : AFn) (as : AL) : AL := fun sl Q => as sl fun ds sl1 => fa ds fun xs => Q xs sl1
theorem own_nil {x : Addr} : ¬ Own [] x := fun ⟨i, s, h, _⟩ => by simp at h
theorem ln_call {fa : AFn} (has : LD K tas as) : LN K (tCallG (SpN K fa) tas) (aCallN fa as) := fun σ G H sl P E p Q q =>
  has σ G H sl _ E p _ fun vs ds G1 H1 sl1 E1 g1 hd p1 => ⟨G1, ds, _, hd, E1.le, p1, fun l us xs G2 H2 le g2 hl gl nl hd2 p2 => by
    have ow : ∀ x, Own sl1 x → H2 x = H1 x ∧ G2 x = none := fun x o => by
      obtain ⟨nn, gn⟩ := E1.own o
      cases e : H1 x with
      | none => exact absurd e nn
      | some o => exact ⟨g2.keep x o own_nil e, g2.ap x own_nil nn gn⟩
    have no : ¬ Own sl1 l := fun o => (E1.own o).1 nl
    exact q l us xs G2 H2 sl1 (E1.step g2.le le ow) (g1.trans ⟨fun x o _ e => g2.keep x o own_nil e, g2.le, fun x _ e1 e2 => g2.ap x own_nil e1 e2, fun x o => .inl o, g2.there⟩) hl gl no (g1.back nl) hd2 p2⟩
end
section
variable {P : Program} {w : World} {K : PySem.W.Frag} {mg : Str → Option Value} {base : Heap}
def OkN (P : Program) (w : World) (K : PySem.W.Frag) (mg : Str → Option Value) (base : Heap) (k : Nat) (x : Str) (ps : List Str) (fa : AFn) : Prop :=
  ∃ f fd, FnG P w K mg base k f fd ps (SpN K fa) ∧ mg x = some (.ref f) ∧ PySem.W.keepIn K (.ref f) = true ∧ Binds K fd ps []
theorem OkN.of {x : Str} {ps N : List Str} {st : Stmt} {k : Nat} {fa : AFn} {te : TE} {a : AL} (D : Def K mg x ps st) (S : FnScope N ps (defScope st)) (hps : ps.length ≤ N.length) (many : ∀ as Q, fa as Q → as.length = ps.length)
    (body : ∀ (f : Addr) (cdv : Value) (A : Around) (outer : List PySem.Env) (s : Shared) (H : Hp), Room k (A.deeper (envOfC x (defScope st) s.heap.objs.size f cdv)) → A.guards = some [] → PSs (cxOf CX0 P w K mg base N x (defScope st) f cdv A outer s H E0).nox (defBody st) (tRet te)) (read : LN K te a)
    (does : ∀ ds Q, fa ds Q → a (startS N.length (ds.map Slot.d)) fun xs _ => Q xs) : OkN P w K mg base (k + 1) x ps fa := by
  obtain ⟨f, fd, F, hm, hb⟩ := D
  refine ⟨f, fd, FnG.of F S (fun vs H Q ⟨G, ds, R, hd, le, h, _⟩ => ?_) fun cdv A outer s H hr hg => ⟨_, body f cdv A outer s H hr hg, fun vs H Q ⟨G, ds, R, hd, le, h, fin⟩ => ?_⟩, hm, F.kp, hb⟩
  · rw [hd.length, many ds R h]
  · have hl : vs.length ≤ N.length := by rw [hd.length, many ds R h]; exact hps
    have E0 := env_start (env_data hd le) hl
    refine read _ G H _ _ E0 (does ds R h) _ fun l us xs G' H' sl' E' g h1 h2 h3 h4 h5 p => ?_
    have noo : ∀ x, ¬ Own (startS N.length (ds.map Slot.d)) x := fun x o => by
      obtain ⟨i, s, q1, q2⟩ := own_start.mp o
      rw [List.getElem?_map] at q1
      cases e : ds[i]? with
      | none => rw [e] at q1; cases q1
      | some d => rw [e] at q1; cases q1; cases q2
    exact fin l us xs G' H' E'.le ⟨fun x o _ e => g.keep x o (noo x) e, g.le, fun x _ e1 e2 => g.ap x (noo x) e1 e2, fun x o => absurd o own_nil, g.there⟩ h1 h2 h4 h5 p
end
section
variable {X : Cx} {k : Nat} {ps : List Str} {fa : AFn} {x : Str} {p pos : Pos} {e : Expr} {es : List Expr} {t : TA}
theorem pe_okN (O : OkN X.prog X.w X.K X.mg X.base k x ps fa) (hr : Room k X.A) (hgu : X.A.guards = some []) (hg : Gl X x)
    (ha : PA X (e :: es) t) (hdb : (x == ("__debug__" : Str)) = false := by decide) (he : starEach (e :: es) X.env = (false, eval e X.env) :: starEach es X.env := by rfl) (hpl : (backTo pos (starEach es X.env)).any (·.1) = false := by rfl) :
    PE X (.Call (.Name x p) (e :: es) [] pos) (tCallG (SpN X.K fa) t) := by
  obtain ⟨f, fd, F, hm, hk, hb⟩ := O
  exact pe_callG F hr hgu hg hm hk hb ha hdb he hpl
end
end R

namespace R
open PySem PySem.Spec PyProof.Rows L2 RX
section
variable {K : Frag} {ta tb te tc : TE} {a b c : AE} {G H : Hp} {σ : L2.St} {tt tu : TT} {t u : AT} {tas : TA} {as : AL} {ts us : TS} {s r : AS}
def aYes : AT := fun sl Q => Q true sl
theorem lt_yes : LT K tYes aYes := fun σ G H sl P E p Q q => q _ G H sl E .refl p
def aNeg (a : AE) : AE := fun sl Q => a sl fun d sl1 => match d with
  | .int i => Q (.int (-i)) sl1
  | _ => False
theorem le_neg (ha : LE K ta a) : LE K (tUn (rU fun i => .int (-i)) ta) (aNeg a) := fun σ G H sl P E p Q q =>
  ha σ G H sl _ E p _ fun v d G1 H1 sl1 E1 g1 d1 p1 => by
    cases d1 with
    | int i => exact ⟨i, rfl, q _ _ G1 H1 sl1 E1 g1 (.int _) p1⟩
    | _ => exact p1.elim
end
theorem b_tuple : bootBuiltins (Str.ofString "tuple") = some (.type "tuple") := by decide +kernel
theorem b_list : bootBuiltins (Str.ofString "list") = some (.type "list") := by decide +kernel
theorem b_int : bootBuiltins (Str.ofString "int") = some (.type "int") := by decide +kernel
theorem b_bool : bootBuiltins (Str.ofString "bool") = some (.type "bool") := by decide +kernel
theorem b_str : bootBuiltins (Str.ofString "str") = some (.type "str") := by decide +kernel
theorem b_len : bootBuiltins (Str.ofString "len") = some (.builtin "len") := by decide +kernel
theorem b_sum : bootBuiltins (Str.ofString "sum") = some (.builtin "sum") := by decide +kernel
theorem b_any : bootBuiltins (Str.ofString "any") = some (.builtin "any") := by decide +kernel
theorem b_all : bootBuiltins (Str.ofString "all") = some (.builtin "all") := by decide +kernel
theorem b_abs : bootBuiltins (Str.ofString "abs") = some (.builtin "abs") := by decide +kernel
theorem b_repr : bootBuiltins (Str.ofString "repr") = some (.builtin "repr") := by decide +kernel
theorem b_isi : bootBuiltins (Str.ofString "isinstance") = some (.builtin "isinstance") := by decide +kernel
theorem b_max : bootBuiltins (Str.ofString "max") = some (.builtin "max") := by decide +kernel
theorem un64 {k : Nat} {A : Around} (r : Room k A) : A.units + 64 < cLine := r.units
theorem un1 {k : Nat} {A : Around} (r : Room k A) : A.units + 1 < cLine := by have := r.un; omega
end R
namespace R
open PySem PySem.Spec PyProof.Rows L2 RX
abbrev fSub : F2 := fInt0 fun i j => .int (i - j)
abbrev fFdiv : F2 := fInt CDivN fun i j => .int (i.fdiv j)
abbrev fMod : F2 := fInt (fun _ j => j ≠ 0) fun i j => .int (i.fmod j)
abbrev fPow : F2 := fInt CPow fun i j => .int (i ^ j.toNat)
abbrev fLt : F2 := fInt0 fun i j => .bool (decide (i < j))
abbrev fLe : F2 := fInt0 fun i j => .bool (decide (i ≤ j))
abbrev fGt : F2 := fInt0 fun i j => .bool (decide (j < i))
abbrev fGe : F2 := fInt0 fun i j => .bool (decide (j ≤ i))
def fEq : F2 := fun d e P => Pl d ∧ Pl e ∧ P (.bool (PyData.eqv d e))
def fNe : F2 := fun d e P => Pl d ∧ Pl e ∧ P (.bool (!PyData.eqv d e))
def aOrS (a b : AS) : AS := fun P sl => a P sl ∨ b P sl
end R
namespace R
open PySem PySem.Spec PyProof.Rows L2 RX
/-! ### a if t else b, as a test -/
def tIfT (t u v : TT) : TT := fun σ H Q => t σ H fun c H1 => if c = true then u σ H1 Q else v σ H1 Q
theorem pt_ifE {X : Cx} {c a b : Expr} {pos : Pos} {t u v : TT} (hc : PT X c t) (ha : PT X a u) (hb : PT X b v) : PT X (.IfExp c a b pos) (tIfT t u v) := by
  refine ⟨fun pins s σ H Q I h => ?_⟩
  refine isTrue_IfExp (thn (hc.run pins s σ H _ I h) fun d s1 ⟨H1, I1, q1⟩ => ?_)
  cases d with
  | true => exact ha.run pins s1 σ H1 Q I1 q1
  | false => exact hb.run pins s1 σ H1 Q I1 q1
def aIfT (t u v : AT) : AT := fun sl Q => t sl fun k sl1 => (k = true → u sl1 Q) ∧ (k = false → v sl1 Q)
theorem lt_ifE {K : Frag} {tt tu tv : TT} {t u v : AT} (ht : LT K tt t) (hu : LT K tu u) (hv : LT K tv v) : LT K (tIfT tt tu tv) (aIfT t u v) := fun σ G H sl P E p Q q =>
  ht σ G H sl _ E p _ fun k G1 H1 sl1 E1 g1 p1 => by
    cases k with
    | true => exact ite_tt (hu σ G1 H1 sl1 P E1 (p1.1 rfl) Q fun b G2 H2 sl2 E2 g2 p2 => q b G2 H2 sl2 E2 (g1.trans g2) p2)
    | false => exact ite_ff (hv σ G1 H1 sl1 P E1 (p1.2 rfl) Q fun b G2 H2 sl2 E2 g2 p2 => q b G2 H2 sl2 E2 (g1.trans g2) p2)
end R
namespace R
open PySem PySem.Spec PyProof.Rows L2 RX
section
variable {K : Frag} {ta : TE} {a : AE} {G H : Hp} {σ : L2.St}
/-- a dict that is an own one, or a thing already -/
def aFrzDO (i : Nat) : AE := fun sl Q => aFrzD i sl Q ∨ aVar i sl Q
theorem le_frzDO (i : Nat) : LE K (tVar i) (aFrzDO i) := (le_frzD i).or (le_var i)
/-! ### an own list lent to an expression that keeps nothing of it -/
mutual
def noL : PyData → Bool
  | .none => true
  | .bool _ => true
  | .int _ => true
  | .str _ => true
  | .list _ => false
  | .tuple xs => noLs xs
  | .dict _ => false
def noLs : List PyData → Bool
  | [] => true
  | x :: xs => noL x && noLs xs
end
mutual
theorem Dq.less {G2 : Hp} {l : Addr} {vs : List V} (hl : Rd G l (.lst vs)) (hg : ∀ x, x ≠ l → G2 x = G x) : ∀ {v : V} {d : PyData}, Dq K G v d → noL d = true → Dq K G2 v d
  | _, _, .non, _ => .non
  | _, _, .bl b, _ => .bl b
  | _, _, .int i, _ => .int i
  | _, _, .str x, _ => .str x
  | _, _, .lst s a, h => by simp [noL] at h
  | _, _, .tup (a := x) (xs := xs) s al, h => by
    refine .tup ?_ (DqAll.less hl hg al (by simpa [noL] using h))
    rcases s with ⟨o, r, hd⟩ | r
    · have ne : x ≠ l := fun e => by
        subst e
        rcases hl with q | ⟨o', q⟩ <;> rw [r] at q <;> cases q
      exact .inl ⟨o, by rw [hg x ne]; exact r, hd⟩
    · exact .inr r
  | _, _, .dic s a, h => by simp [noL] at h
theorem DqAll.less {G2 : Hp} {l : Addr} {vs : List V} (hl : Rd G l (.lst vs)) (hg : ∀ x, x ≠ l → G2 x = G x) : ∀ {v : List V} {d : List PyData}, DqAll K G v d → noLs d = true → DqAll K G2 v d
  | _, _, .nil, _ => .nil
  | _, _, .cons a b, h => by
    have h' := Bool.and_eq_true_iff.mp (by simpa [noLs] using h)
    exact .cons (Dq.less hl hg a h'.1) (DqAll.less hl hg b h'.2)
end
def aBor (i : Nat) (a : AE) : AE := fun sl Q => ∃ l xs, sl[i]? = some (.m l xs) ∧ (∀ j s, sl[j]? = some s → s.addr ≠ none → j = i) ∧ a (sl.set i (.d (.list xs))) fun d sl' => sl' = sl.set i (.d (.list xs)) ∧ noL d = true ∧ Q d sl
theorem le_bor (i : Nat) (ha : LE K ta a) : LE K ta (aBor i a) := fun σ G H sl P E ⟨l, xs, h, only, p⟩ Q q => by
  obtain ⟨v, hv, hvl, gl, vs, hl, hd⟩ := E.slot h
  subst hvl
  obtain ⟨ws, hlw, E1, g1, dq, hd1⟩ := E.freezeX h
  have hi := (List.getElem?_eq_some_iff.mp h).1
  have noOwn : ∀ x, ¬ Own (sl.set i (.d (.list xs))) x := fun x ⟨j, s, h1, h2⟩ => by
    by_cases e : i = j
    · subst e
      rw [List.getElem?_set_self hi] at h1
      cases h1; cases h2
    · rw [List.getElem?_set_ne e] at h1
      exact e (only j s h1 (by rw [h2]; simp)).symm
  refine ha σ _ H _ _ E1 p Q fun w d G2 H2 sl2 E2 g2 d2 ⟨e, nl, p2⟩ => ?_
  subst e
  let G3 : Hp := fun x => if x = l then none else G2 x
  have off : ∀ x, x ≠ l → G3 x = G2 x := fun x ne => if_neg ne
  have at3 : G3 l = none := if_pos rfl
  have rdl : Rd G2 l (.lst ws) := g2.le.rd l _ trivial (.inl upd_same)
  have le3 : Le G3 H2 := ⟨fun x u pu r => by
    by_cases e : x = l
    · subst e; exact absurd r (no_rd at3 u)
    · refine E2.le.rd x u pu ?_
      rcases r with r | ⟨o, r⟩
      · exact .inl (by rw [off x e] at r; exact r)
      · exact .inr ⟨o, by rw [off x e] at r; exact r⟩, fun x nx => by
    by_cases e : x = l
    · subst e; exact absurd at3 nx
    · rw [off x e] at nx; exact E2.le.has x nx, fun x o ys r => by
    by_cases e : x = l
    · subst e; rw [at3] at r; cases r
    · rw [off x e] at r; exact E2.le.tp x o ys r⟩
  have leG : Le G G3 := ⟨fun x u pu r => by
    have ne : x ≠ l := fun e => by subst e; exact no_rd gl u r
    have q := g2.le.rd x u pu ((rd_upd ne).mpr r)
    rcases q with q | ⟨o, q⟩
    · exact .inl (by rw [off x ne]; exact q)
    · exact .inr ⟨o, by rw [off x ne]; exact q⟩, fun x nx => by
    have ne : x ≠ l := fun e => nx (by rw [e]; exact gl)
    rw [off x ne]
    exact g2.le.has x (by rw [upd_ne ne]; exact nx), fun x o ys r => by
    have ne : x ≠ l := fun e => by subst e; rw [gl] at r; cases r
    rw [off x ne]
    exact g2.le.tp x o ys (by rw [upd_ne ne]; exact r)⟩
  have Hl : H2 l = some (.lst ws) := g2.keep l _ (noOwn l) hlw
  have E3 : Env K G3 H2 σ sl := by
    refine ⟨le3, E.len, fun j u s h1 h2 => ?_, E.one⟩
    have ok := E.ok j u s h1 h2
    by_cases e : j = i
    · subst e
      rw [h] at h2; cases h2
      rw [hv] at h1; cases h1
      exact ⟨rfl, at3, ws, Hl, hd1.mono leG⟩
    · cases s with
      | un => trivial
      | d x => obtain ⟨z, e1, e2⟩ := ok; exact ⟨z, e1, e2.mono leG⟩
      | m a xs => exact absurd (only j _ h2 (by simp [Slot.addr])) e
      | md a xs => exact absurd (only j _ h2 (by simp [Slot.addr])) e
      | ob a C fs => exact absurd (only j _ h2 (by simp [Slot.addr])) e
  refine q w d G3 H2 sl E3 ⟨fun x o n e => g2.keep x o (noOwn x) e, leG, fun x n e1 e2 => ?_, fun x o => .inl o, g2.there⟩ (Dq.less rdl off d2 nl) p2
  have ne : x ≠ l := fun e => n (by rw [e]; exact ⟨i, _, h, rfl⟩)
  rw [off x ne]
  exact g2.ap x (noOwn x) e1 (by rw [upd_ne ne]; exact e2)
end
end R
namespace R
open PySem PySem.Spec PyProof.Rows L2 RX
/-! ### texts compared -/
def fEqS : F2 := fun d e P => match d, e with
  | .str x, .str y => P (.bool (decide (x = y)))
  | _, _ => False
def fNeS : F2 := fun d e P => match d, e with
  | .str x, .str y => P (.bool (!decide (x = y)))
  | _, _ => False
theorem dec_strV (x y : Str) : decide (V.str x = V.str y) = decide (x = y) := by
  by_cases h : x = y
  · subst h; simp
  · rw [decide_eq_false h, decide_eq_false fun e => h (V.str.inj e)]
theorem lr_eqS {K : Frag} : LR K rEq fEqS := fun σ G H sl x y d e P E hx hy p Q q => by
  unfold fEqS at p
  split at p
  · cases hx
    cases hy
    refine ⟨rfl, ?_⟩
    rw [dec_strV]
    exact q _ _ G H E .refl (.bl _) p
  · exact p.elim
theorem lr_neS {K : Frag} : LR K rNe fNeS := fun σ G H sl x y d e P E hx hy p Q q => by
  unfold fNeS at p
  split at p
  · cases hx
    cases hy
    refine ⟨rfl, ?_⟩
    rw [dec_strV]
    exact q _ _ G H E .refl (.bl _) p
  · exact p.elim
end R

namespace M
/-! ### numbers modulo p -/
abbrev Vc := List Int
theorem fm_dvd (p a : Int) : p ∣ a.fmod p - a := ⟨-(a.fdiv p), by have := Int.mul_fdiv_add_fmod a p; grind⟩
theorem fm_lo {p : Int} (hp : 0 < p) (a : Int) : 0 ≤ a.fmod p := Int.fmod_nonneg_of_pos a hp
theorem fm_hi {p : Int} (hp : 0 < p) (a : Int) : a.fmod p < p := Int.fmod_lt_of_pos a hp
theorem eq_of_dvd {p a b : Int} (h : p ∣ a - b) (ha : 0 ≤ a ∧ a < p) (hb : 0 ≤ b ∧ b < p) : a = b := by
  obtain ⟨c, hc⟩ := h
  have : c = 0 := by
    rcases Int.lt_trichotomy c 0 with q | q | q
    · have : p * c ≤ p * (-1) := Int.mul_le_mul_of_nonneg_left (by omega) (by omega)
      omega
    · exact q
    · have : p * 1 ≤ p * c := Int.mul_le_mul_of_nonneg_left (by omega) (by omega)
      omega
  subst this
  omega
theorem fm_eq {p a b : Int} (hp : 0 < p) (h : p ∣ a - b) : a.fmod p = b.fmod p := by
  have h1 := fm_dvd p a
  have h2 := fm_dvd p b
  refine eq_of_dvd ?_ ⟨fm_lo hp a, fm_hi hp a⟩ ⟨fm_lo hp b, fm_hi hp b⟩
  obtain ⟨x, hx⟩ := h; obtain ⟨y, hy⟩ := h1; obtain ⟨z, hz⟩ := h2
  exact ⟨x + y - z, by grind⟩
theorem fm_id {p a : Int} (hp : 0 < p) (h : 0 ≤ a ∧ a < p) : a.fmod p = a := eq_of_dvd (fm_dvd p a) ⟨fm_lo hp a, fm_hi hp a⟩ h

/-! ### vectors -/
def Red (p : Int) (x : Vc) : Prop := ∀ a ∈ x, 0 ≤ a ∧ a < p
def less (p : Int) (x : Vc) (k : Int) (y : Vc) : Vc := List.zipWith (fun a b => (a - k * b).fmod p) x y
def tms (p k : Int) (x : Vc) : Vc := x.map fun a => (k * a).fmod p
def at_ (x : Vc) (i : Nat) : Int := x.getD i 0
theorem less_len {p k : Int} {x y : Vc} {N : Nat} (hx : x.length = N) (hy : y.length = N) : (less p x k y).length = N := by
  unfold less
  rw [List.length_zipWith, hx, hy, Nat.min_self]
theorem tms_len {p k : Int} {x : Vc} {N : Nat} (hx : x.length = N) : (tms p k x).length = N := by
  unfold tms
  rw [List.length_map, hx]
theorem red_less {p k : Int} {x y : Vc} (hp : 0 < p) : Red p (less p x k y) := fun a ha => by
  unfold less at ha
  obtain ⟨i, hi, e⟩ := List.getElem_of_mem ha
  rw [List.getElem_zipWith] at e
  rw [← e]
  exact ⟨fm_lo hp _, fm_hi hp _⟩
theorem red_tms {p k : Int} {x : Vc} (hp : 0 < p) : Red p (tms p k x) := fun a ha => by
  unfold tms at ha
  obtain ⟨b, _, e⟩ := List.mem_map.mp ha
  rw [← e]
  exact ⟨fm_lo hp _, fm_hi hp _⟩
theorem at_red {p : Int} {x : Vc} (hp : 0 < p) (h : Red p x) (i : Nat) : 0 ≤ at_ x i ∧ at_ x i < p := by
  unfold at_
  rw [List.getD_eq_getElem?_getD]
  cases e : x[i]? with
  | none => exact ⟨Int.le_refl 0, hp⟩
  | some a => exact h a (List.mem_of_getElem? e)
theorem at_less {p k : Int} {x y : Vc} {N : Nat} (hx : x.length = N) (hy : y.length = N) (i : Nat) : p ∣ at_ (less p x k y) i - (at_ x i - k * at_ y i) := by
  unfold at_ less
  rw [List.getD_eq_getElem?_getD, List.getD_eq_getElem?_getD, List.getD_eq_getElem?_getD, List.getElem?_zipWith]
  by_cases h : i < N
  · rw [List.getElem?_eq_getElem (by omega : i < x.length), List.getElem?_eq_getElem (by omega : i < y.length)]
    exact fm_dvd p _
  · rw [List.getElem?_eq_none (by omega : x.length ≤ i), List.getElem?_eq_none (by omega : y.length ≤ i)]
    exact ⟨0, by simp⟩
theorem at_tms {p k : Int} {x : Vc} (i : Nat) : p ∣ at_ (tms p k x) i - k * at_ x i := by
  unfold at_ tms
  rw [List.getD_eq_getElem?_getD, List.getD_eq_getElem?_getD, List.getElem?_map]
  cases x[i]? with
  | none => exact ⟨0, by simp⟩
  | some a => exact fm_dvd p _
theorem take_less {p k : Int} {x y : Vc} {n : Nat} : (less p x k y).take n = less p (x.take n) k (y.take n) := by
  unfold less
  rw [List.take_zipWith]
theorem take_tms {p k : Int} {x : Vc} {n : Nat} : (tms p k x).take n = tms p k (x.take n) := by
  unfold tms
  rw [List.map_take]
theorem at_take {x : Vc} {n i : Nat} (h : i < n) : at_ (x.take n) i = at_ x i := by
  unfold at_
  rw [List.getD_eq_getElem?_getD, List.getD_eq_getElem?_getD, List.getElem?_take_of_lt h]
theorem ext_at {x y : Vc} {N : Nat} (hx : x.length = N) (hy : y.length = N) (h : ∀ i, i < N → at_ x i = at_ y i) : x = y := by
  refine List.ext_getElem (by omega) fun i h1 h2 => ?_
  have := h i (by omega)
  unfold at_ at this
  rwa [List.getD_eq_getElem?_getD, List.getD_eq_getElem?_getD, List.getElem?_eq_getElem h1, List.getElem?_eq_getElem h2] at this
def zer (N : Nat) : Vc := List.replicate N 0
theorem zer_len {N : Nat} : (zer N).length = N := List.length_replicate
theorem at_zer {N i : Nat} : at_ (zer N) i = 0 := by
  unfold at_ zer
  rw [List.getD_eq_getElem?_getD, List.getElem?_replicate]
  split <;> rfl
theorem less_self {p : Int} : ∀ {x : Vc}, less p x 1 x = zer x.length
  | [] => rfl
  | a :: x => by
    show (a - 1 * a).fmod p :: less p x 1 x = 0 :: zer x.length
    rw [less_self, Int.one_mul, Int.sub_self, Int.zero_fmod]

/-! ### linear functionals -/
def Lin (p : Int) (N : Nat) (φ : Vc → Int) : Prop := ∀ (x y : Vc) (k : Int), x.length = N → y.length = N → p ∣ φ (less p x k y) - (φ x - k * φ y)
variable {p : Int} {N n : Nat} {φ ψ : Vc → Int}
theorem Lin.zero (h : Lin p N φ) : p ∣ φ (zer N) := by
  have q := h (zer N) (zer N) 1 zer_len zer_len
  rw [less_self, zer_len] at q
  obtain ⟨c, hc⟩ := q
  exact ⟨c, by grind⟩
theorem tms_eq' {p k : Int} : ∀ {x : Vc}, tms p k x = less p (zer x.length) (-k) x
  | [] => rfl
  | a :: x => by
    show (k * a).fmod p :: tms p k x = (0 - -k * a).fmod p :: less p (zer x.length) (-k) x
    rw [tms_eq', show 0 - -k * a = k * a by grind]
theorem tms_eq {k : Int} {x : Vc} (hx : x.length = N) : tms p k x = less p (zer N) (-k) x := by rw [tms_eq', hx]
theorem Lin.tms (h : Lin p N φ) {x : Vc} (k : Int) (hx : x.length = N) : p ∣ φ (tms p k x) - k * φ x := by
  rw [tms_eq hx]
  obtain ⟨a, ha⟩ := h (zer N) x (-k) zer_len hx
  obtain ⟨b, hb⟩ := h.zero
  exact ⟨a + b, by grind⟩
theorem lin_at (t : Nat) : Lin p N (fun x => at_ x t) := fun x y k hx hy => at_less hx hy t
theorem Lin.sub (h : Lin p N φ) (g : Lin p N ψ) (c : Int) : Lin p N (fun x => φ x - c * ψ x) := fun x y k hx hy => by
  obtain ⟨a, ha⟩ := h x y k hx hy
  obtain ⟨b, hb⟩ := g x y k hx hy
  exact ⟨a - c * b, by grind⟩
theorem Lin.sub' (h : Lin p N φ) (g : Lin p N ψ) (c : Int) : Lin p N (fun x => φ x - ψ x * c) := fun x y k hx hy => by
  obtain ⟨a, ha⟩ := h x y k hx hy
  obtain ⟨b, hb⟩ := g x y k hx hy
  exact ⟨a - c * b, by grind⟩
theorem lin_nil : Lin p N (fun _ => 0) := fun x y k hx hy => ⟨0, by grind⟩
theorem Lin.take (h : Lin p n φ) (hn : n ≤ N) : Lin p N (fun x => φ (x.take n)) := fun x y k hx hy => by
  show p ∣ φ ((less p x k y).take n) - (φ (x.take n) - k * φ (y.take n))
  rw [take_less]
  exact h _ _ k (by rw [List.length_take]; omega) (by rw [List.length_take]; omega)

/-! ### clearing by leads -/
abbrev Lds := List (Nat × Vc)
def red (p : Int) : Lds → Vc → Vc
  | [], y => y
  | (l, v) :: E, y => red p E (less p y (at_ y l) v)
def Lens (N : Nat) (E : Lds) : Prop := ∀ q ∈ E, q.2.length = N
theorem Lens.tail {q : Nat × Vc} {E : Lds} (h : Lens N (q :: E)) : Lens N E := fun r hr => h r (List.mem_cons_of_mem _ hr)
theorem Lens.head {q : Nat × Vc} {E : Lds} (h : Lens N (q :: E)) : q.2.length = N := h q (List.mem_cons_self ..)
theorem red_len : ∀ {E : Lds} {y : Vc}, Lens N E → y.length = N → (red p E y).length = N
  | [], _, _, hy => hy
  | (l, v) :: E, y, h, hy => red_len (E := E) h.tail (less_len hy h.head)
theorem red_red (hp : 0 < p) : ∀ {E : Lds} {y : Vc}, Red p y → Red p (red p E y)
  | [], _, h => h
  | (l, v) :: E, y, _ => red_red hp (E := E) (red_less hp)
theorem red_null (h : Lin p N φ) : ∀ {E : Lds} {y : Vc}, Lens N E → y.length = N → (∀ q ∈ E, p ∣ φ q.2) → p ∣ φ (red p E y) - φ y
  | [], _, _, _, _ => ⟨0, by simp [red]⟩
  | (l, v) :: E, y, hE, hy, hn => by
    have a := red_null h (E := E) hE.tail (less_len (p := p) (k := at_ y l) hy hE.head) fun q hq => hn q (List.mem_cons_of_mem _ hq)
    have b := h y v (at_ y l) hy hE.head
    have c := hn (l, v) (List.mem_cons_self ..)
    obtain ⟨a, ha⟩ := a
    obtain ⟨b, hb⟩ := b
    obtain ⟨c, hc⟩ := c
    exact ⟨a + b - at_ y l * c, by simp only [red]; grind⟩
theorem Lin.red : ∀ {E : Lds}, Lin p N φ → Lens N E → Lin p N (fun x => φ (red p E x))
  | [], h, _ => h
  | (l, v) :: E, h, hE => fun x y k hx hy => by
    have ih := Lin.red (E := E) h hE.tail
    have hv := hE.head
    have e : ∀ z : Vc, z.length = N → p ∣ φ (M.red p ((l, v) :: E) z) - (φ (M.red p E z) - at_ z l * φ (M.red p E v)) := fun z hz => ih z v (at_ z l) hz hv
    obtain ⟨a, ha⟩ := e (less p x k y) (less_len hx hy)
    obtain ⟨b, hb⟩ := e x hx
    obtain ⟨c, hc⟩ := e y hy
    obtain ⟨d, hd⟩ := ih x y k hx hy
    obtain ⟨f, hf⟩ := at_less (p := p) (k := k) hx hy l
    simp only at hd
    refine ⟨a - b + k * c + d - f * φ (M.red p E v), ?_⟩
    show φ (M.red p ((l, v) :: E) (less p x k y)) - (φ (M.red p ((l, v) :: E) x) - k * φ (M.red p ((l, v) :: E) y)) = _
    clear e ih h hE hx hy hv
    generalize φ (M.red p ((l, v) :: E) (less p x k y)) = u1 at *
    generalize φ (M.red p ((l, v) :: E) x) = u2 at *
    generalize φ (M.red p ((l, v) :: E) y) = u3 at *
    generalize φ (M.red p E (less p x k y)) = u4 at *
    generalize φ (M.red p E x) = u5 at *
    generalize φ (M.red p E y) = u6 at *
    generalize φ (M.red p E v) = u7 at *
    generalize at_ (less p x k y) l = u8 at *
    generalize at_ x l = u9 at *
    generalize at_ y l = u10 at *
    have h1 : u1 = p * a + u4 - u8 * u7 := by omega
    have h2 : u2 = p * b + u5 - u9 * u7 := by omega
    have h3 : u3 = p * c + u6 - u10 * u7 := by omega
    have h4 : u4 = p * d + u5 - k * u6 := by omega
    have h5 : u8 = p * f + u9 - k * u10 := by omega
    subst h1 h2 h3 h4 h5
    grind
theorem red_take : ∀ {E : Lds} {y : Vc}, (∀ q ∈ E, q.1 < n) → (red p E y).take n = red p (E.map fun q => (q.1, q.2.take n)) (y.take n)
  | [], _, _ => rfl
  | (l, v) :: E, y, h => by
    show (red p E (less p y (at_ y l) v)).take n = red p (E.map _) (less p (y.take n) (at_ (y.take n) l) (v.take n))
    rw [red_take (E := E) fun q hq => h q (List.mem_cons_of_mem _ hq), take_less, at_take (h (l, v) (List.mem_cons_self ..))]
def Tri : Lds → Prop
  | [] => True
  | (l, v) :: E => at_ v l = 1 ∧ (∀ q ∈ E, at_ q.2 l = 0) ∧ Tri E
theorem Tri.zero : ∀ {E : Lds} {y : Vc}, Tri E → Lens N E → y.length = N → ∀ q ∈ E, p ∣ at_ (red p E y) q.1
  | (l, v) :: E, y, t, hE, hy, q, hq => by
    have hl := less_len (p := p) (k := at_ y l) hy hE.head
    rcases List.mem_cons.mp hq with e | hq
    · subst e
      have a := red_null (lin_at (p := p) l) (E := E) hE.tail hl fun q hq => by rw [t.2.1 q hq]; exact ⟨0, by simp⟩
      obtain ⟨a, ha⟩ := a
      obtain ⟨b, hb⟩ := at_less (p := p) (k := at_ y l) hy hE.head l
      have c := t.1
      simp only at ha hb
      exact ⟨a + b, by simp only [M.red]; grind⟩
    · exact Tri.zero (E := E) t.2.2 hE.tail hl q hq
theorem Tri.kill (h : Lin p N φ) : ∀ {E : Lds}, Tri E → Lens N E → ∀ q ∈ E, p ∣ φ (M.red p E q.2)
  | (l, v) :: E, t, hE, q, hq => by
    have ih := Lin.red (E := E) h hE.tail
    rcases List.mem_cons.mp hq with e | hq
    · subst e
      obtain ⟨a, ha⟩ := ih v v (at_ v l) hE.head hE.head
      have := t.1
      exact ⟨a, by simp only [M.red]; grind⟩
    · obtain ⟨a, ha⟩ := Tri.kill h (E := E) t.2.2 hE.tail q hq
      obtain ⟨b, hb⟩ := ih q.2 v (at_ q.2 l) (hE.tail q hq) hE.head
      have := t.2.1 q hq
      exact ⟨a + b, by simp only [M.red]; grind⟩
theorem red_fix (h : Lin p N φ) : ∀ {E : Lds} {y : Vc}, Lens N E → y.length = N → (∀ q ∈ E, p ∣ at_ y q.1) → p ∣ φ (M.red p E y) - φ y
  | [], _, _, _, _ => ⟨0, by simp [M.red]⟩
  | (l, v) :: E, y, hE, hy, hn => by
    obtain ⟨c, hc⟩ := hn (l, v) (List.mem_cons_self ..)
    have a := red_fix h (E := E) (y := less p y (at_ y l) v) hE.tail (less_len hy hE.head) fun q hq => by
      obtain ⟨x, hx⟩ := at_less (p := p) (k := at_ y l) hy hE.head q.1
      obtain ⟨z, hz⟩ := hn q (List.mem_cons_of_mem _ hq)
      exact ⟨x + z - c * at_ v q.1, by simp only at hc; grind⟩
    obtain ⟨a, ha⟩ := a
    obtain ⟨b, hb⟩ := h y v (at_ y l) hy hE.head
    exact ⟨a + b - c * φ v, by simp only [M.red]; simp only at hc; grind⟩

/-! ### what an elimination has found -/
/-- in the span: whatever vanishes on S vanishes on x -/
def Sp (p : Int) (n : Nat) (S : List Vc) (x : Vc) : Prop := ∀ φ, Lin p n φ → (∀ s ∈ S, p ∣ φ s) → p ∣ φ x
def Zf (n : Nat) (y : Vc) : Prop := ∀ t, t < n → at_ y t = 0
structure Ech (p : Int) (N n : Nat) (Ls : List Vc) (E : Lds) (S : List Vc) : Prop where
  pos : 0 < p
  nN : n ≤ N
  linesLen : ∀ L ∈ Ls, L.length = N
  len : Lens N E
  lt : ∀ q ∈ E, q.1 < n
  rd : ∀ q ∈ E, Red p q.2
  tri : Tri E
  sLen : ∀ s ∈ S, s.length = N
  sRd : ∀ s ∈ S, Red p s
  sZ : ∀ s ∈ S, Zf n s
  null : ∀ φ, Lin p N φ → ((∀ L ∈ Ls, p ∣ φ L) ↔ (∀ q ∈ E, p ∣ φ q.2) ∧ ∀ s ∈ S, p ∣ φ s)
variable {Ls S : List Vc} {E : Lds}
theorem Ech.in_ (e : Ech p N n Ls E S) {L : Vc} (hL : L.length = N) (hz : Zf n (M.red p E L)) : Sp p n (Ls.map (·.take n)) (L.take n) := fun φ h hn => by
  have h' := h.take e.nN
  have a := ((e.null _ h').mp fun L hL => hn _ (List.mem_map_of_mem hL)).1
  obtain ⟨a, ha⟩ := red_null h' (E := E) e.len hL a
  have z : (M.red p E L).take n = zer n := ext_at (N := n) (by rw [List.length_take, red_len e.len hL]; have := e.nN; omega) zer_len fun i hi => by rw [at_take hi, hz i hi, at_zer]
  rw [z] at ha
  obtain ⟨b, hb⟩ := h.zero
  exact ⟨b - a, by grind⟩
theorem Ech.zero_of (e : Ech p N n Ls E S) {L : Vc} (hL : L.length = N) (rd : Red p L) (h : Sp p n (Ls.map (·.take n)) (L.take n)) : Zf n (M.red p E L) := fun t ht => by
  have hpos := e.pos
  have lE : Lens n (E.map fun q => (q.1, q.2.take n)) := fun q hq => by
    obtain ⟨r, hr, er⟩ := List.mem_map.mp hq
    rw [← er]
    show (r.2.take n).length = n
    rw [List.length_take, e.len r hr]
    have := e.nN
    omega
  have eqn : ∀ y : Vc, at_ (M.red p (E.map fun q => (q.1, q.2.take n)) (y.take n)) t = at_ (M.red p E y) t := fun y => by rw [← red_take e.lt, at_take ht]
  have q := h (fun x => at_ (M.red p (E.map fun q => (q.1, q.2.take n)) x) t) (Lin.red (lin_at t) lE) fun s hs => by
    obtain ⟨L', hL', es⟩ := List.mem_map.mp hs
    rw [← es]
    show p ∣ at_ (M.red p (E.map fun q => (q.1, q.2.take n)) (L'.take n)) t
    rw [eqn]
    refine (e.null (fun x => at_ (M.red p E x) t) (Lin.red (lin_at t) e.len)).mpr ⟨fun q hq => Tri.kill (lin_at t) e.tri e.len q hq, fun s hs => ?_⟩ L' hL'
    obtain ⟨a, ha⟩ := red_fix (lin_at (p := p) t) (E := E) e.len (e.sLen s hs) fun q hq => by rw [e.sZ s hs q.1 (e.lt q hq)]; exact ⟨0, by simp⟩
    have := e.sZ s hs t ht
    exact ⟨a, by grind⟩
  rw [eqn] at q
  exact eq_of_dvd (by rw [Int.sub_zero]; exact q) (at_red hpos (red_red hpos rd) t) ⟨Int.le_refl 0, hpos⟩
/-- two complete eliminations clear a line to the same -/
theorem Ech.uniq {E' : Lds} (e : Ech p N n Ls E []) (e' : Ech p N n Ls E' []) {X : Vc} (hX : X.length = N) (rX : Red p X) (z : Zf n (M.red p E X)) (z' : Zf n (M.red p E' X)) : M.red p E X = M.red p E' X := by
  have hpos := e.pos
  refine ext_at (red_len e.len hX) (red_len e'.len hX) fun t ht => ?_
  have hl : Lin p N (fun x => at_ (M.red p E x) t) := Lin.red (lin_at t) e.len
  have nE : ∀ q ∈ E, p ∣ at_ (M.red p E q.2) t := fun q hq => Tri.kill (lin_at t) e.tri e.len q hq
  have nL := (e.null _ hl).mpr ⟨nE, fun s hs => by simp at hs⟩
  have nE' := ((e'.null _ hl).mp nL).1
  obtain ⟨a, ha⟩ := red_null hl (E := E) e.len hX nE
  obtain ⟨b, hb⟩ := red_null hl (E := E') e'.len hX nE'
  obtain ⟨c, hc⟩ := red_fix (lin_at (p := p) t) (E := E) e.len (red_len e.len hX) fun q hq => by rw [z q.1 (e.lt q hq)]; exact ⟨0, by simp⟩
  obtain ⟨d, hd⟩ := red_fix (lin_at (p := p) t) (E := E) e.len (red_len e'.len hX) fun q hq => by rw [z' q.1 (e.lt q hq)]; exact ⟨0, by simp⟩
  refine eq_of_dvd ⟨a - b - c + d, ?_⟩ (at_red hpos (red_red hpos rX) t) (at_red hpos (red_red hpos rX) t)
  grind
end M

namespace M
variable {p : Int} {N n : Nat}
/-- what p must be -/
def Pr (p : Int) : Prop := 1 < p ∧ ∀ a, 0 < a → a < p → ∃ b, 1 ≤ b ∧ b < p ∧ (a * b).fmod p = 1
def leadOf (n : Nat) (y : Vc) : Option Nat := (List.range n).find? fun i => decide (at_ y i ≠ 0)
def rng (lo hi : Int) : List Int := (List.range (hi - lo).toNat).map fun (i : Nat) => lo + i
def invOf (p a : Int) : Int := ((rng 1 p).filter fun b => decide ((a * b).fmod p = 1)).headD 0
theorem lead_none {y : Vc} : leadOf n y = none ↔ Zf n y := by
  unfold leadOf Zf
  rw [List.find?_eq_none]
  simp [List.mem_range]
theorem lead_some {y : Vc} {l : Nat} (h : leadOf n y = some l) : l < n ∧ at_ y l ≠ 0 := by
  unfold leadOf at h
  have a := List.mem_of_find?_eq_some h
  have b := List.find?_some h
  exact ⟨List.mem_range.mp a, by simpa using b⟩
theorem mem_rng {lo hi b : Int} : b ∈ rng lo hi ↔ lo ≤ b ∧ b < hi := by
  unfold rng
  rw [List.mem_map]
  refine ⟨fun ⟨i, hi', e⟩ => ?_, fun ⟨h1, h2⟩ => ⟨(b - lo).toNat, ?_, ?_⟩⟩
  · rw [List.mem_range] at hi'
    subst e
    omega
  · rw [List.mem_range]; omega
  · omega
theorem inv_ne {a : Int} (hp : Pr p) (h0 : 0 < a) (h1 : a < p) : ∃ r, (rng 1 p).filter (fun b => decide ((a * b).fmod p = 1)) = invOf p a :: r := by
  obtain ⟨b, b1, b2, b3⟩ := hp.2 a h0 h1
  have hb : b ∈ (rng 1 p).filter fun b => decide ((a * b).fmod p = 1) := List.mem_filter.mpr ⟨mem_rng.mpr ⟨b1, b2⟩, by simpa using b3⟩
  unfold invOf
  cases e : (rng 1 p).filter fun b => decide ((a * b).fmod p = 1) with
  | nil => rw [e] at hb; cases hb
  | cons c r => exact ⟨r, rfl⟩
theorem inv_ok {a : Int} (hp : Pr p) (h0 : 0 < a) (h1 : a < p) : 1 ≤ invOf p a ∧ invOf p a < p ∧ p ∣ a * invOf p a - 1 := by
  obtain ⟨r, e⟩ := inv_ne hp h0 h1
  have hb : invOf p a ∈ (rng 1 p).filter fun b => decide ((a * b).fmod p = 1) := by rw [e]; exact List.mem_cons_self ..
  obtain ⟨h2, h3⟩ := List.mem_filter.mp hb
  have h3 : (a * invOf p a).fmod p = 1 := by simpa using h3
  obtain ⟨c, hc⟩ := fm_dvd p (a * invOf p a)
  exact ⟨(mem_rng.mp h2).1, (mem_rng.mp h2).2, -c, by grind⟩

/-! ### the program's elimination -/
def step (p : Int) (n : Nat) (st : Lds × List Vc) (L : Vc) : Lds × List Vc :=
  match leadOf n (red p st.1 L) with
  | none => (st.1, st.2 ++ [red p st.1 L])
  | some l => (st.1.map (fun q => (q.1, less p q.2 (at_ q.2 l) (tms p (invOf p (at_ (red p st.1 L) l)) (red p st.1 L)))) ++ [(l, tms p (invOf p (at_ (red p st.1 L) l)) (red p st.1 L))], st.2)
def sift (p : Int) (n : Nat) (Ls : List Vc) : Lds × List Vc := Ls.foldl (step p n) ([], [])
def Full (E : Lds) : Prop := (E.map (·.1)).Nodup ∧ ∀ q ∈ E, ∀ r ∈ E, at_ q.2 r.1 = if q.1 = r.1 then 1 else 0
theorem Full.tri : ∀ {E : Lds}, Full E → Tri E
  | [], _ => trivial
  | (l, v) :: E, h => by
    have nd := List.nodup_cons.mp (by simpa using h.1 : (l :: E.map (·.1)).Nodup)
    refine ⟨by simpa using h.2 (l, v) (List.mem_cons_self ..) (l, v) (List.mem_cons_self ..), fun q hq => ?_, Full.tri ⟨nd.2, fun q hq r hr => h.2 q (List.mem_cons_of_mem _ hq) r (List.mem_cons_of_mem _ hr)⟩⟩
    have := h.2 q (List.mem_cons_of_mem _ hq) (l, v) (List.mem_cons_self ..)
    rw [this, if_neg]
    intro e
    exact nd.1 (List.mem_map.mpr ⟨q, hq, e⟩)
theorem zero_exact (hp : 0 < p) {E : Lds} {y : Vc} (t : Tri E) (hE : Lens N E) (hy : y.length = N) (rd : Red p y) : ∀ q ∈ E, at_ (red p E y) q.1 = 0 := fun q hq =>
  eq_of_dvd (by rw [Int.sub_zero]; exact t.zero hE hy q hq) (at_red hp (red_red hp rd) _) ⟨Int.le_refl 0, hp⟩
theorem at_lt_len {y : Vc} {l : Nat} (h : at_ y l ≠ 0) : l < y.length := by
  rcases Nat.lt_or_ge l y.length with q | q
  · exact q
  · refine absurd ?_ h
    unfold at_
    rw [List.getD_eq_getElem?_getD, List.getElem?_eq_none q]
    rfl
/-- the new lead -/
theorem new_lead (hp : Pr p) {y : Vc} {l : Nat} (hl : at_ y l ≠ 0) (rd : Red p y) : at_ (tms p (invOf p (at_ y l)) y) l = 1 ∧ (∀ m, at_ y m = 0 → at_ (tms p (invOf p (at_ y l)) y) m = 0) ∧ p ∣ at_ y l * invOf p (at_ y l) - 1 := by
  have hpos : 0 < p := by have := hp.1; omega
  have b := at_red hpos rd l
  have i := inv_ok hp (by omega : 0 < at_ y l) b.2
  refine ⟨?_, fun m hm => ?_, i.2.2⟩
  · refine eq_of_dvd ?_ (at_red hpos (red_tms hpos) l) ⟨by omega, hp.1⟩
    obtain ⟨a, ha⟩ := at_tms (p := p) (k := invOf p (at_ y l)) (x := y) l
    obtain ⟨c, hc⟩ := i.2.2
    exact ⟨a + c, by grind⟩
  · refine eq_of_dvd ?_ (at_red hpos (red_tms hpos) m) ⟨Int.le_refl 0, hpos⟩
    obtain ⟨a, ha⟩ := at_tms (p := p) (k := invOf p (at_ y l)) (x := y) m
    exact ⟨a, by grind⟩
theorem step_none {E : Lds} {S : List Vc} {L : Vc} (h : leadOf n (red p E L) = none) : step p n (E, S) L = (E, S ++ [red p E L]) := by
  unfold step
  simp only [h]
theorem step_some {E : Lds} {S : List Vc} {L : Vc} {l : Nat} (h : leadOf n (red p E L) = some l) : step p n (E, S) L =
    (E.map (fun q => (q.1, less p q.2 (at_ q.2 l) (tms p (invOf p (at_ (red p E L) l)) (red p E L)))) ++ [(l, tms p (invOf p (at_ (red p E L) l)) (red p E L))], S) := by
  unfold step
  simp only [h]
theorem step_ok {Ls S : List Vc} {E : Lds} {L : Vc} (hp : Pr p) (e : Ech p N n Ls E S) (f : Full E) (hL : L.length = N) (rL : Red p L) :
    Ech p N n (Ls ++ [L]) (step p n (E, S) L).1 (step p n (E, S) L).2 ∧ Full (step p n (E, S) L).1 := by
  have hpos := e.pos
  have ly : (red p E L).length = N := red_len e.len hL
  have ry : Red p (red p E L) := red_red hpos rL
  have linesLen : ∀ L' ∈ Ls ++ [L], L'.length = N := fun L' h => by
    rcases List.mem_append.mp h with h | h
    · exact e.linesLen L' h
    · rw [List.mem_singleton.mp h]; exact hL
  cases hl : leadOf n (red p E L) with
  | none =>
    rw [step_none hl]
    refine ⟨⟨hpos, e.nN, linesLen, e.len, e.lt, e.rd, e.tri, fun s hs => ?_, fun s hs => ?_, fun s hs => ?_, fun φ h => ⟨fun hn => ⟨?_, fun s hs => ?_⟩, fun ⟨h1, h2⟩ L' hL' => ?_⟩⟩, f⟩
    · rcases List.mem_append.mp hs with h | h
      · exact e.sLen s h
      · rw [List.mem_singleton.mp h]; exact ly
    · rcases List.mem_append.mp hs with h | h
      · exact e.sRd s h
      · rw [List.mem_singleton.mp h]; exact ry
    · rcases List.mem_append.mp hs with h | h
      · exact e.sZ s h
      · rw [List.mem_singleton.mp h]; exact lead_none.mp hl
    · exact ((e.null φ h).mp fun L' hL' => hn L' (List.mem_append_left _ hL')).1
    · have q := (e.null φ h).mp fun L' hL' => hn L' (List.mem_append_left _ hL')
      rcases List.mem_append.mp hs with h' | h'
      · exact q.2 s h'
      · rw [List.mem_singleton.mp h']
        obtain ⟨a, ha⟩ := red_null h e.len hL q.1
        obtain ⟨b, hb⟩ := hn L (List.mem_append_right _ (List.mem_singleton.mpr rfl))
        exact ⟨a + b, by grind⟩
    · rcases List.mem_append.mp hL' with h' | h'
      · exact (e.null φ h).mpr ⟨h1, fun s hs => h2 s (List.mem_append_left _ hs)⟩ L' h'
      · rw [List.mem_singleton.mp h']
        obtain ⟨a, ha⟩ := red_null h e.len hL h1
        obtain ⟨b, hb⟩ := h2 _ (List.mem_append_right _ (List.mem_singleton.mpr rfl))
        exact ⟨b - a, by grind⟩
  | some l =>
    rw [step_some hl]
    obtain ⟨ln, l0⟩ := lead_some hl
    obtain ⟨y1, y0, yi⟩ := new_lead hp l0 ry
    have z := zero_exact hpos e.tri e.len hL rL
    have lne : ∀ q ∈ E, q.1 ≠ l := fun q hq c => l0 (c ▸ z q hq)
    have y2z : ∀ q ∈ E, at_ (tms p (invOf p (at_ (red p E L) l)) (red p E L)) q.1 = 0 := fun q hq => y0 _ (z q hq)
    have ly2 : (tms p (invOf p (at_ (red p E L) l)) (red p E L)).length = N := tms_len ly
    have ry2 : Red p (tms p (invOf p (at_ (red p E L) l)) (red p E L)) := red_tms hpos
    generalize ey : red p E L = y at *
    generalize einv : invOf p (at_ y l) = iv at *
    generalize ey2 : tms p iv y = y2 at *
    have mem : ∀ q : Nat × Vc, q ∈ E.map (fun q => (q.1, less p q.2 (at_ q.2 l) y2)) ++ [(l, y2)] → (∃ r ∈ E, q = (r.1, less p r.2 (at_ r.2 l) y2)) ∨ q = (l, y2) := fun q hq => by
      rcases List.mem_append.mp hq with h | h
      · obtain ⟨r, hr, er⟩ := List.mem_map.mp h
        exact .inl ⟨r, hr, er.symm⟩
      · exact .inr (List.mem_singleton.mp h)
    have v0 : ∀ r ∈ E, at_ (less p r.2 (at_ r.2 l) y2) l = 0 := fun r hr => by
      refine eq_of_dvd ?_ (at_red hpos (red_less hpos) l) ⟨Int.le_refl 0, hpos⟩
      obtain ⟨a, ha⟩ := at_less (p := p) (k := at_ r.2 l) (e.len r hr) ly2 l
      exact ⟨a, by grind⟩
    have vm : ∀ r ∈ E, ∀ m ∈ E, at_ (less p r.2 (at_ r.2 l) y2) m.1 = at_ r.2 m.1 := fun r hr m hm => by
      refine eq_of_dvd ?_ (at_red hpos (red_less hpos) m.1) (at_red hpos (e.rd r hr) m.1)
      obtain ⟨a, ha⟩ := at_less (p := p) (k := at_ r.2 l) (e.len r hr) ly2 m.1
      have := y2z m hm
      exact ⟨a, by grind⟩
    have full : Full (E.map (fun q => (q.1, less p q.2 (at_ q.2 l) y2)) ++ [(l, y2)]) := by
      refine ⟨?_, fun q hq r hr => ?_⟩
      · rw [List.map_append, List.map_map]
        show (E.map (·.1) ++ [l]).Nodup
        refine List.nodup_append.mpr ⟨f.1, by simp, fun a ha b hb => ?_⟩
        obtain ⟨q, hq, eq⟩ := List.mem_map.mp ha
        rw [List.mem_singleton.mp hb, ← eq]
        exact lne q hq
      · rcases mem q hq with ⟨q', hq', rfl⟩ | rfl
        · rcases mem r hr with ⟨r', hr', rfl⟩ | rfl
          · show at_ (less p q'.2 (at_ q'.2 l) y2) r'.1 = _
            rw [vm q' hq' r' hr']
            exact f.2 q' hq' r' hr'
          · show at_ (less p q'.2 (at_ q'.2 l) y2) l = _
            rw [v0 q' hq', if_neg (lne q' hq')]
        · rcases mem r hr with ⟨r', hr', rfl⟩ | rfl
          · show at_ y2 r'.1 = _
            rw [y2z r' hr', if_neg (fun c => lne r' hr' c.symm)]
          · show at_ y2 l = _
            rw [y1, if_pos rfl]
    refine ⟨⟨hpos, e.nN, linesLen, fun q hq => ?_, fun q hq => ?_, fun q hq => ?_, full.tri, e.sLen, e.sRd, e.sZ, fun φ h => ⟨fun hn => ?_, fun ⟨h1, h2⟩ L' hL' => ?_⟩⟩, full⟩
    · rcases mem q hq with ⟨q', hq', rfl⟩ | rfl
      · exact less_len (e.len q' hq') ly2
      · exact ly2
    · rcases mem q hq with ⟨q', hq', rfl⟩ | rfl
      · exact e.lt q' hq'
      · exact ln
    · rcases mem q hq with ⟨q', hq', rfl⟩ | rfl
      · exact red_less hpos
      · exact ry2
    · have q := (e.null φ h).mp fun L' hL' => hn L' (List.mem_append_left _ hL')
      obtain ⟨a, ha⟩ := red_null h e.len hL q.1
      rw [ey] at ha
      obtain ⟨b, hb⟩ := hn L (List.mem_append_right _ (List.mem_singleton.mpr rfl))
      obtain ⟨c, hc⟩ := h.tms iv ly
      rw [ey2] at hc
      have hy2 : p ∣ φ y2 := ⟨c + iv * (a + b), by grind⟩
      refine ⟨fun r hr => ?_, q.2⟩
      rcases mem r hr with ⟨q', hq', rfl⟩ | rfl
      · obtain ⟨d, hd⟩ := h q'.2 y2 (at_ q'.2 l) (e.len q' hq') ly2
        obtain ⟨d2, hd2⟩ := q.1 q' hq'
        obtain ⟨d3, hd3⟩ := hy2
        exact ⟨d + d2 - at_ q'.2 l * d3, by show φ (less p q'.2 (at_ q'.2 l) y2) = _; grind⟩
      · exact hy2
    · obtain ⟨d3, hd3⟩ := h1 (l, y2) (List.mem_append_right _ (List.mem_singleton.mpr rfl))
      have hE : ∀ q ∈ E, p ∣ φ q.2 := fun q hq => by
        obtain ⟨d, hd⟩ := h q.2 y2 (at_ q.2 l) (e.len q hq) ly2
        obtain ⟨d2, hd2⟩ := h1 (q.1, less p q.2 (at_ q.2 l) y2) (List.mem_append_left _ (List.mem_map.mpr ⟨q, hq, rfl⟩))
        exact ⟨d2 - d + at_ q.2 l * d3, by simp only at hd2 hd3; grind⟩
      rcases List.mem_append.mp hL' with h' | h'
      · exact (e.null φ h).mpr ⟨hE, h2⟩ L' h'
      · rw [List.mem_singleton.mp h']
        obtain ⟨a, ha⟩ := red_null h e.len hL hE
        rw [ey] at ha
        obtain ⟨c, hc⟩ := h.tms iv ly
        rw [ey2] at hc
        obtain ⟨g, hg⟩ := yi
        -- y[l] * φ y2 = y[l] * iv * φ y = φ y
        exact ⟨at_ y l * (d3 - c) - g * φ y - a, by simp only at hd3; grind⟩
theorem ech_nil (hp : 0 < p) (hn : n ≤ N) : Ech p N n [] [] [] :=
  ⟨hp, hn, fun _ h => by simp at h, fun _ h => by simp at h, fun _ h => by simp at h, fun _ h => by simp at h, trivial, fun _ h => by simp at h, fun _ h => by simp at h, fun _ h => by simp at h, fun φ _ => by simp⟩
theorem sift_snoc {Ls : List Vc} {L : Vc} : sift p n (Ls ++ [L]) = step p n (sift p n Ls) L := by
  unfold sift
  rw [List.foldl_append]
  rfl
theorem snoc_ind {α : Type} {C : List α → Prop} (h0 : C []) (h1 : ∀ xs x, C xs → C (xs ++ [x])) : ∀ xs, C xs := fun xs => by
  have : ∀ ys : List α, C ys.reverse := fun ys => by
    induction ys with
    | nil => exact h0
    | cons y ys ih => rw [List.reverse_cons]; exact h1 _ _ ih
  have q := this xs.reverse
  rwa [List.reverse_reverse] at q
theorem sift_ok (hp : Pr p) (hn : n ≤ N) (Ls : List Vc) : (∀ L ∈ Ls, L.length = N ∧ Red p L) → Ech p N n Ls (sift p n Ls).1 (sift p n Ls).2 ∧ Full (sift p n Ls).1 := by
  have hpos : 0 < p := by have := hp.1; omega
  refine snoc_ind (C := fun Ls => (∀ L ∈ Ls, L.length = N ∧ Red p L) → Ech p N n Ls (sift p n Ls).1 (sift p n Ls).2 ∧ Full (sift p n Ls).1) ?_ ?_ Ls
  · exact fun _ => ⟨ech_nil hpos hn, by simp [sift], fun q hq => by simp [sift] at hq⟩
  · intro Ls L ih h
    obtain ⟨e, f⟩ := ih fun L' hL' => h L' (List.mem_append_left _ hL')
    rw [sift_snoc]
    have hL := h L (List.mem_append_right _ (List.mem_singleton.mpr rfl))
    exact step_ok hp e f hL.1 hL.2

/-! ### none in the span of those ahead of it -/
def Ind (p : Int) (n : Nat) : List Vc → Prop := fun S => ∀ A x B, S = A ++ x :: B → ¬ Sp p n A x
theorem ind_nil : Ind p n [] := fun A x B h => by simp at h
theorem ind_snoc {S : List Vc} {x : Vc} : Ind p n (S ++ [x]) ↔ Ind p n S ∧ ¬ Sp p n S x := by
  refine ⟨fun h => ⟨fun A y B e => h A y (B ++ [x]) (by rw [e]; simp), h S x [] (by simp)⟩, fun ⟨h1, h2⟩ A y B e => ?_⟩
  rcases List.eq_nil_or_concat B with hB | ⟨B', b, hB⟩
  · subst hB
    have := List.append_inj' e rfl
    obtain ⟨e1, e2⟩ := this
    cases e2
    rw [← e1]; exact h2
  · rw [hB, List.concat_eq_append] at e
    have e' : S ++ [x] = (A ++ y :: B') ++ [b] := by rw [e]; simp
    obtain ⟨e1, e2⟩ := List.append_inj' e' rfl
    exact h1 A y B' e1
theorem spent_iff (hp : Pr p) (hn : n ≤ N) (Ls : List Vc) : (∀ L ∈ Ls, L.length = N ∧ Red p L) → ((sift p n Ls).2 = [] ↔ Ind p n (Ls.map (·.take n))) := by
  refine snoc_ind (C := fun Ls => (∀ L ∈ Ls, L.length = N ∧ Red p L) → ((sift p n Ls).2 = [] ↔ Ind p n (Ls.map (·.take n)))) ?_ ?_ Ls
  · exact fun _ => ⟨fun _ => ind_nil, fun _ => rfl⟩
  · intro Ls L ih h
    have ih := ih fun L' hL' => h L' (List.mem_append_left _ hL')
    have hL := h L (List.mem_append_right _ (List.mem_singleton.mpr rfl))
    obtain ⟨e, f⟩ := sift_ok hp hn Ls fun L' hL' => h L' (List.mem_append_left _ hL')
    rw [List.map_append, List.map_singleton, ind_snoc, sift_snoc, ← ih]
    unfold step
    cases hl : leadOf n (red p (sift p n Ls).1 L) with
    | none =>
      have z := lead_none.mp hl
      constructor
      · intro h; simp at h
      · intro h; exact absurd (e.in_ hL.1 z) h.2
    | some l =>
      refine ⟨fun h => ⟨h, fun s => ?_⟩, fun h => h.1⟩
      have z := lead_none.mpr (e.zero_of hL.1 hL.2 s)
      rw [z] at hl; cases hl

/-! ### the other elimination -/
def ech (p : Int) (n : Nat) : Lds → List Vc → Lds × Option Vc
  | E, [] => (E, none)
  | E, L :: Ls => match leadOf n (red p E L) with
    | none => (E, some ((red p E L).drop (n + 1)))
    | some l => ech p n (E ++ [(l, tms p (invOf p (at_ (red p E L) l)) (red p E L))]) Ls
theorem tri_snoc {l : Nat} {v : Vc} (h1 : at_ v l = 1) : ∀ {E : Lds}, Tri E → (∀ q ∈ E, at_ v q.1 = 0) → Tri (E ++ [(l, v)])
  | [], _, _ => ⟨h1, fun _ h => by simp at h, trivial⟩
  | (m, u) :: E, t, h => by
    refine ⟨t.1, fun q hq => ?_, tri_snoc h1 (E := E) t.2.2 fun q hq => h q (List.mem_cons_of_mem _ hq)⟩
    rcases List.mem_append.mp hq with h' | h'
    · exact t.2.1 q h'
    · rw [List.mem_singleton.mp h']
      exact h (m, u) (List.mem_cons_self ..)
theorem ech_ok (hp : Pr p) (Rs : List Vc) : ∀ {Ls : List Vc} {E : Lds}, Ech p N n Ls E [] → (∀ L ∈ Rs, L.length = N ∧ Red p L) → Ind p n ((Ls ++ Rs).map (·.take n)) → (ech p n E Rs).2 = none ∧ Ech p N n (Ls ++ Rs) (ech p n E Rs).1 [] := by
  induction Rs with
  | nil => intro Ls E e _ _; rw [List.append_nil]; exact ⟨rfl, e⟩
  | cons L Rs ih =>
    intro Ls E e h ind
    have hpos := e.pos
    obtain ⟨hL, rL⟩ := h L (List.mem_cons_self ..)
    have nsp : ¬ Sp p n (Ls.map (·.take n)) (L.take n) := ind (Ls.map (·.take n)) (L.take n) (Rs.map (·.take n)) (by simp)
    unfold ech
    cases hl : leadOf n (red p E L) with
    | none => exact absurd (e.in_ hL (lead_none.mp hl)) nsp
    | some l =>
      have ly : (red p E L).length = N := red_len e.len hL
      have ry : Red p (red p E L) := red_red hpos rL
      obtain ⟨ln, l0⟩ := lead_some hl
      obtain ⟨y1, y0, yi⟩ := new_lead hp l0 ry
      have z := zero_exact hpos e.tri e.len hL rL
      have y2z : ∀ q ∈ E, at_ (tms p (invOf p (at_ (red p E L) l)) (red p E L)) q.1 = 0 := fun q hq => y0 _ (z q hq)
      have ly2 : (tms p (invOf p (at_ (red p E L) l)) (red p E L)).length = N := tms_len ly
      have ry2 : Red p (tms p (invOf p (at_ (red p E L) l)) (red p E L)) := red_tms hpos
      have ea : Ls ++ L :: Rs = (Ls ++ [L]) ++ Rs := by simp
      rw [ea]
      rw [ea] at ind
      refine ih (Ls := Ls ++ [L]) ?_ (fun L' h' => h L' (List.mem_cons_of_mem _ h')) ind
      generalize ey : red p E L = y at *
      generalize eiv : invOf p (at_ y l) = iv at *
      generalize ey2 : tms p iv y = y2 at *
      have mem : ∀ q : Nat × Vc, q ∈ E ++ [(l, y2)] → q ∈ E ∨ q = (l, y2) := fun q hq => by
        rcases List.mem_append.mp hq with h | h
        · exact .inl h
        · exact .inr (List.mem_singleton.mp h)
      refine ⟨hpos, e.nN, fun L' h' => ?_, fun q hq => ?_, fun q hq => ?_, fun q hq => ?_, tri_snoc y1 e.tri y2z, fun _ h => by simp at h, fun _ h => by simp at h, fun _ h => by simp at h, fun φ hφ => ⟨fun hn => ⟨fun q hq => ?_, fun _ h => by simp at h⟩, fun ⟨h1, _⟩ L' hL' => ?_⟩⟩
      · rcases List.mem_append.mp h' with h | h
        · exact e.linesLen L' h
        · rw [List.mem_singleton.mp h]; exact hL
      · rcases mem q hq with h | h
        · exact e.len q h
        · rw [h]; exact ly2
      · rcases mem q hq with h | h
        · exact e.lt q h
        · rw [h]; exact ln
      · rcases mem q hq with h | h
        · exact e.rd q h
        · rw [h]; exact ry2
      · have nE := ((e.null φ hφ).mp fun L' hL' => hn L' (List.mem_append_left _ hL')).1
        rcases mem q hq with h | h
        · exact nE q h
        · rw [h]
          obtain ⟨a, ha⟩ := red_null hφ e.len hL nE
          rw [ey] at ha
          obtain ⟨b, hb⟩ := hn L (List.mem_append_right _ (List.mem_singleton.mpr rfl))
          obtain ⟨c, hc⟩ := hφ.tms iv ly
          rw [ey2] at hc
          exact ⟨c + iv * (a + b), by show φ y2 = _; grind⟩
      · have hE : ∀ q ∈ E, p ∣ φ q.2 := fun q hq => h1 q (List.mem_append_left _ hq)
        rcases List.mem_append.mp hL' with h' | h'
        · exact (e.null φ hφ).mpr ⟨hE, fun _ h => by simp at h⟩ L' h'
        · rw [List.mem_singleton.mp h']
          obtain ⟨d3, hd3⟩ := h1 (l, y2) (List.mem_append_right _ (List.mem_singleton.mpr rfl))
          obtain ⟨a, ha⟩ := red_null hφ e.len hL hE
          rw [ey] at ha
          obtain ⟨c, hc⟩ := hφ.tms iv ly
          rw [ey2] at hc
          obtain ⟨g, hg⟩ := yi
          exact ⟨at_ y l * (d3 - c) - g * φ y - a, by simp only at hd3; grind⟩
end M

namespace M
variable {p : Int} {N n : Nat}
abbrev Row := Vc × Int
def unit (m i : Nat) : Vc := (List.range m).map fun j => if j = i then 1 else 0
def lineOf (m i : Nat) (r : Row) : Vc := r.1 ++ [r.2] ++ unit m i
def linesFrom (m : Nat) : Nat → List Row → List Vc
  | _, [] => []
  | i, r :: rs => lineOf m i r :: linesFrom m (i + 1) rs
def lines (rows : List Row) : List Vc := linesFrom rows.length 0 rows
def RowOk (p : Int) (n : Nat) (r : Row) : Prop := r.1.length = n ∧ Red p r.1 ∧ 0 ≤ r.2 ∧ r.2 < p
def RowsOk (p : Int) (n : Nat) (rows : List Row) : Prop := ∀ r ∈ rows, RowOk p n r
theorem lineOf_ok (h1 : 1 < p) {m i : Nat} {r : Row} (h : RowOk p n r) : (lineOf m i r).length = n + 1 + m ∧ Red p (lineOf m i r) := by
  refine ⟨by simp [lineOf, unit, h.1]; omega, fun a ha => ?_⟩
  unfold lineOf unit at ha
  rcases List.mem_append.mp ha with ha | ha
  · rcases List.mem_append.mp ha with ha | ha
    · exact h.2.1 a ha
    · rw [List.mem_singleton.mp ha]; exact h.2.2
  · obtain ⟨j, _, e⟩ := List.mem_map.mp ha
    rw [← e]
    split <;> omega
theorem linesFrom_ok (h1 : 1 < p) {m : Nat} : ∀ {i : Nat} {rows : List Row}, RowsOk p n rows → ∀ L ∈ linesFrom m i rows, L.length = n + 1 + m ∧ Red p L
  | _, [], _, L, h => by simp [linesFrom] at h
  | i, r :: rs, hr, L, h => by
    rcases List.mem_cons.mp h with e | h
    · rw [e]; exact lineOf_ok h1 (hr r (List.mem_cons_self ..))
    · exact linesFrom_ok h1 (fun r' h' => hr r' (List.mem_cons_of_mem _ h')) L h
theorem linesFrom_take {m : Nat} : ∀ {i : Nat} {rows : List Row}, RowsOk p n rows → (linesFrom m i rows).map (·.take n) = rows.map (·.1)
  | _, [], _ => rfl
  | i, r :: rs, hr => by
    show (lineOf m i r).take n :: (linesFrom m (i + 1) rs).map (·.take n) = r.1 :: rs.map (·.1)
    rw [linesFrom_take (i := i + 1) (rows := rs) fun r' h' => hr r' (List.mem_cons_of_mem _ h')]
    congr 1
    unfold lineOf
    rw [List.append_assoc]
    exact List.take_left' (hr r (List.mem_cons_self ..)).1
theorem lines_ok (h1 : 1 < p) {rows : List Row} (h : RowsOk p n rows) : ∀ L ∈ lines rows, L.length = n + 1 + rows.length ∧ Red p L := linesFrom_ok h1 h
theorem lines_take {rows : List Row} (h : RowsOk p n rows) : (lines rows).map (·.take n) = rows.map (·.1) := linesFrom_take h

/-! ### given by -/
def padded (m : Nat) (x : Vc) : Vc := x ++ zer (1 + m)
def out (p : Int) (n : Nat) (y : Vc) : Option (Int × Vc) := if leadOf n y = none then some (at_ (tms p (-1) (y.drop n)) 0, (tms p (-1) (y.drop n)).drop 1) else none
def givenC (p : Int) (n : Nat) (rows : List Row) (x : Vc) : Option (Int × Vc) := out p n (red p (sift p n (lines rows)).1 (padded rows.length x))
def givenL (p : Int) (n : Nat) (rows : List Row) (x : Vc) : Option (Int × Vc) := out p n (red p (ech p n [] (lines rows)).1 (padded rows.length x))
theorem padded_ok (h1 : 0 < p) {m : Nat} {x : Vc} (hx : x.length = n) (rx : Red p x) : (padded m x).length = n + 1 + m ∧ Red p (padded m x) ∧ (padded m x).take n = x := by
  refine ⟨by simp [padded, zer, hx]; omega, fun a ha => ?_, List.take_left' hx⟩
  rcases List.mem_append.mp ha with ha | ha
  · exact rx a ha
  · rw [List.eq_of_mem_replicate ha]; omega
theorem ech_of (hp : Pr p) {rows : List Row} (h : RowsOk p n rows) (ind : Ind p n (rows.map (·.1))) : (ech p n [] (lines rows)).2 = none ∧ Ech p (n + 1 + rows.length) n (lines rows) (ech p n [] (lines rows)).1 [] := by
  have h1 := hp.1
  have q := ech_ok hp (lines rows) (Ls := []) (E := []) (ech_nil (N := n + 1 + rows.length) (n := n) (by omega) (by omega)) (lines_ok h1 h) (by rw [List.nil_append, lines_take h]; exact ind)
  rwa [List.nil_append] at q
theorem sift_of (hp : Pr p) {rows : List Row} (h : RowsOk p n rows) : Ech p (n + 1 + rows.length) n (lines rows) (sift p n (lines rows)).1 (sift p n (lines rows)).2 ∧ Full (sift p n (lines rows)).1 :=
  sift_ok hp (by omega) _ (lines_ok hp.1 h)
theorem spent_of (hp : Pr p) {rows : List Row} (h : RowsOk p n rows) : (sift p n (lines rows)).2 = [] ↔ Ind p n (rows.map (·.1)) := by
  rw [← lines_take h]
  exact spent_iff hp (N := n + 1 + rows.length) (by omega) _ (lines_ok hp.1 h)
theorem givenL_none (hp : Pr p) {rows : List Row} (h : RowsOk p n rows) (ind : Ind p n (rows.map (·.1))) {x : Vc} (hx : x.length = n) (rx : Red p x) : givenL p n rows x = none ↔ ¬ Sp p n (rows.map (·.1)) x := by
  have h1 := hp.1
  obtain ⟨l1, l2, l3⟩ := padded_ok (m := rows.length) (by omega : 0 < p) hx rx
  have e := (ech_of hp h ind).2
  have i := e.in_ l1
  have o := e.zero_of l1 l2
  rw [lines_take h, l3] at i o
  unfold givenL out
  split
  · rename_i q
    exact ⟨fun h => by simp at h, fun h => absurd (i (lead_none.mp q)) h⟩
  · rename_i q
    exact ⟨fun _ s => q (lead_none.mpr (o s)), fun _ => rfl⟩
theorem given_eq (hp : Pr p) {rows : List Row} (h : RowsOk p n rows) (ind : Ind p n (rows.map (·.1))) {x : Vc} (hx : x.length = n) (rx : Red p x) : givenC p n rows x = givenL p n rows x := by
  have h1 := hp.1
  obtain ⟨l1, l2, l3⟩ := padded_ok (m := rows.length) (by omega : 0 < p) hx rx
  have e := (ech_of hp h ind).2
  have e' := (sift_of hp h).1
  rw [(spent_of hp h).mpr ind] at e'
  have i := e.in_ l1
  have o := e.zero_of l1 l2
  have i' := e'.in_ l1
  have o' := e'.zero_of l1 l2
  unfold givenC givenL out
  by_cases s : Sp p n ((lines rows).map (·.take n)) ((padded rows.length x).take n)
  · rw [if_pos (lead_none.mpr (o s)), if_pos (lead_none.mpr (o' s)), e'.uniq e l1 l2 (o' s) (o s)]
  · rw [if_neg fun q => s (i (lead_none.mp q)), if_neg fun q => s (i' (lead_none.mp q))]

/-! ### the basis -/
def bstep (p : Int) (n : Nat) (B : List Row) (r : Row) : List Row := if givenL p n B r.1 = none then B ++ [r] else B
def basisL (p : Int) (n : Nat) (rows : List Row) : List Row := rows.foldl (bstep p n) []
theorem sp_snoc_in {S : List Vc} {x : Vc} (h : Sp p n S x) (y : Vc) : Sp p n (S ++ [x]) y ↔ Sp p n S y :=
  ⟨fun q φ l n => q φ l fun s hs => (List.mem_append.mp hs).elim (n s) fun e => by rw [List.mem_singleton.mp e]; exact h φ l n, fun q φ l n => q φ l fun s hs => n s (List.mem_append_left _ hs)⟩
theorem sp_snoc_congr {S T : List Vc} {x : Vc} (h : ∀ y, Sp p n S y ↔ Sp p n T y) (y : Vc) : Sp p n (S ++ [x]) y ↔ Sp p n (T ++ [x]) y := by
  have m : ∀ {S T : List Vc}, (∀ y, Sp p n S y ↔ Sp p n T y) → Sp p n (S ++ [x]) y → Sp p n (T ++ [x]) y := fun {S T} h q φ l nn => q φ l fun s hs => (List.mem_append.mp hs).elim (fun hs => (h s).mp (fun ψ _ k => k s hs) φ l fun t ht => nn t (List.mem_append_left _ ht)) fun e => nn s (List.mem_append_right _ e)
  exact ⟨m h, m fun y => (h y).symm⟩
structure BasisOk (p : Int) (n : Nat) (rows B : List Row) : Prop where
  ind : Ind p n (B.map (·.1))
  sp : ∀ x, Sp p n (B.map (·.1)) x ↔ Sp p n (rows.map (·.1)) x
  mem : ∀ r ∈ B, r ∈ rows
  le : B.length ≤ rows.length
  full : B.length = rows.length ↔ Ind p n (rows.map (·.1))
theorem basis_ok (hp : Pr p) (rows : List Row) : RowsOk p n rows → BasisOk p n rows (basisL p n rows) := by
  refine snoc_ind (C := fun rows => RowsOk p n rows → BasisOk p n rows (basisL p n rows)) ?_ ?_ rows
  · exact fun _ => ⟨ind_nil, fun _ => Iff.rfl, fun _ h => h, Nat.le_refl _, fun _ => ind_nil, fun _ => rfl⟩
  · intro rows r ih h
    obtain ⟨h1, h2, h3, h4, h5⟩ := ih fun r' h' => h r' (List.mem_append_left _ h')
    have hr := h r (List.mem_append_right _ (List.mem_singleton.mpr rfl))
    have es : basisL p n (rows ++ [r]) = bstep p n (basisL p n rows) r := by unfold basisL; rw [List.foldl_append]; rfl
    have g := givenL_none hp (rows := basisL p n rows) (fun r' h' => h r' (List.mem_append_left _ (h3 r' h'))) h1 hr.1 hr.2.1
    rw [es]
    unfold bstep
    split
    · rename_i q
      have ns := g.mp q
      refine ⟨?_, fun x => ?_, fun r' h' => ?_, by simp; omega, ?_⟩
      · rw [List.map_append]; exact ind_snoc.mpr ⟨h1, ns⟩
      · rw [List.map_append, List.map_append]; exact sp_snoc_congr h2 x
      · rcases List.mem_append.mp h' with h' | h'
        · exact List.mem_append_left _ (h3 r' h')
        · exact List.mem_append_right _ h'
      · rw [List.map_append, List.map_singleton, ind_snoc, ← h2 r.1, ← h5]
        simp [ns]
    · rename_i q
      have s : Sp p n ((basisL p n rows).map (·.1)) r.1 := Classical.byContradiction fun c => q (g.mpr c)
      refine ⟨h1, fun x => ?_, fun r' h' => List.mem_append_left _ (h3 r' h'), by simp; omega, ?_⟩
      · rw [List.map_append, List.map_singleton, h2, sp_snoc_in ((h2 r.1).mp s)]
      · rw [List.map_append, List.map_singleton, ind_snoc, ← h2 r.1]
        constructor
        · intro e
          rw [List.length_append, List.length_singleton] at e
          omega
        · intro c; exact absurd s c.2

/-! ### worlds -/
def dotp (x w : Vc) : Int := (List.zipWith (· * ·) x w).sum
theorem lin_dotp (w : Vc) : ∀ {n : Nat}, Lin p n (fun x => dotp x w) := by
  suffices h : ∀ (w x y : Vc) (k : Int), x.length = y.length → p ∣ dotp (less p x k y) w - (dotp x w - k * dotp y w) from fun {n} x y k hx hy => h w x y k (by omega)
  intro w
  induction w with
  | nil => intro x y k _; simp [dotp]
  | cons b w ih =>
    intro x y k hl
    cases x with
    | nil => cases y with
      | nil => exact ⟨0, by simp [dotp, less]⟩
      | cons c y => simp at hl
    | cons a x => cases y with
      | nil => simp at hl
      | cons c y =>
        obtain ⟨q, hq⟩ := ih x y k (by simpa using hl)
        obtain ⟨d, hd⟩ := fm_dvd p (a - k * c)
        refine ⟨q + d * b, ?_⟩
        show ((a - k * c).fmod p * b + dotp (less p x k y) w) - ((a * b + dotp x w) - k * (c * b + dotp y w)) = _
        generalize (a - k * c).fmod p = z at *
        generalize dotp (less p x k y) w = u at *
        generalize dotp x w = v at *
        generalize dotp y w = t at *
        have e1 : z = p * d + a - k * c := by omega
        have e2 : u = p * q + v - k * t := by omega
        subst e1 e2
        grind
def worldOf (n : Nat) (E : Lds) : Vc := (List.range n).map fun k => match E.lookup k with
  | some v => at_ v n
  | none => 0
def worldC (p : Int) (n : Nat) (rows : List Row) : Option Vc := if (sift p n (lines rows)).2.any (fun s => decide (at_ s n ≠ 0)) = true then none else some (worldOf n (sift p n (lines rows)).1)
theorem lookup_mem {E : Lds} {k : Nat} {v : Vc} (h : E.lookup k = some v) : (k, v) ∈ E := by
  induction E with
  | nil => simp at h
  | cons q E ih =>
    obtain ⟨l, u⟩ := q
    rw [List.lookup_cons] at h
    by_cases e : k = l
    · subst e
      simp at h
      subst h
      exact List.mem_cons_self ..
    · have : (k == l) = false := by simpa using e
      rw [this] at h
      exact List.mem_cons_of_mem _ (ih h)
theorem mem_lookup {E : Lds} {k : Nat} {v : Vc} (h : (k, v) ∈ E) (nd : (E.map (·.1)).Nodup) : E.lookup k = some v := by
  induction E with
  | nil => simp at h
  | cons q E ih =>
    obtain ⟨l, u⟩ := q
    have nd := List.nodup_cons.mp (by simpa using nd : (l :: E.map (·.1)).Nodup)
    rw [List.lookup_cons]
    rcases List.mem_cons.mp h with e | h
    · cases e; simp
    · have : (k == l) = false := by
        have : k ≠ l := fun e => nd.1 (List.mem_map.mpr ⟨(k, v), h, e⟩)
        simpa using this
      rw [this]
      exact ih h nd.2
theorem sum_single (c : Int) (l : Nat) : ∀ n : Nat, ((List.range n).map fun k => if k = l then c else 0).sum = if l < n then c else 0
  | 0 => by simp
  | n + 1 => by
    rw [List.range_succ, List.map_append, List.sum_append, sum_single c l n]
    by_cases h : l < n
    · have : n ≠ l := by omega
      simp [h, this]; omega
    · by_cases e : l = n
      · subst e; simp
      · have : n ≠ l := fun z => e z.symm
        simp [h, this]; omega
theorem dot_world {E : Lds} (f : Full E) (lt : ∀ q ∈ E, q.1 < n) {q : Nat × Vc} (hq : q ∈ E) (hl : n ≤ q.2.length) : dotp (q.2.take n) (worldOf n E) = at_ q.2 n := by
  have e : List.zipWith (· * ·) (q.2.take n) (worldOf n E) = (List.range n).map fun k => if k = q.1 then at_ q.2 n else 0 := by
    refine List.ext_getElem (by simp [worldOf]; omega) fun k h1 h2 => ?_
    have hk : k < n := by simpa using h2
    rw [List.getElem_zipWith]
    simp only [worldOf, List.getElem_map, List.getElem_range, List.getElem_take]
    have ea : q.2[k]'(by omega) = at_ q.2 k := by unfold at_; rw [List.getD_eq_getElem?_getD, List.getElem?_eq_getElem (by omega)]; rfl
    rw [ea]
    cases el : E.lookup k with
    | none =>
      have : k ≠ q.1 := fun e => by rw [e, mem_lookup (v := q.2) hq f.1] at el; cases el
      simp [this]
    | some v =>
      have m := lookup_mem el
      have a := f.2 q hq (k, v) m
      simp only at a
      rw [a]
      by_cases e : q.1 = k
      · have ev : v = q.2 := by
          have := mem_lookup (k := q.1) (v := q.2) hq f.1
          rw [e, el] at this
          exact Option.some.inj this
        rw [if_pos e, if_pos e.symm, ev]
        simp
      · rw [if_neg e, if_neg fun z => e z.symm]
        simp
  unfold dotp
  rw [e, sum_single, if_pos (lt q hq)]
/-- the world that the leads tell keeps every row -/
theorem world_keeps (hp : Pr p) {rows : List Row} (h : RowsOk p n rows) (z : ∀ s ∈ (sift p n (lines rows)).2, at_ s n = 0) : ∀ r ∈ rows, p ∣ dotp r.1 (worldOf n (sift p n (lines rows)).1) - r.2 := by
  have h1 := hp.1
  obtain ⟨e, f⟩ := sift_of hp h
  generalize ew : worldOf n (sift p n (lines rows)).1 = w at *
  have lin : Lin p (n + 1 + rows.length) (fun x => dotp (x.take n) w - at_ x n * 1) := (Lin.take (lin_dotp w) (by omega)).sub' (lin_at n) 1
  have q := (e.null _ lin).mpr ⟨fun q hq => ?_, fun s hs => ?_⟩
  · have key : ∀ {m i : Nat} {rs : List Row}, RowsOk p n rs → (∀ L ∈ linesFrom m i rs, p ∣ dotp (L.take n) w - at_ L n * 1) → ∀ r ∈ rs, p ∣ dotp r.1 w - r.2 := by
      intro m i rs
      induction rs generalizing i with
      | nil => intro _ _ r hr; simp at hr
      | cons r0 rs ih =>
        intro ok nn r hr
        rcases List.mem_cons.mp hr with e | hr
        · subst e
          have a := nn (lineOf m i r) (List.mem_cons_self ..)
          have lr := (ok r (List.mem_cons_self ..)).1
          have t : (lineOf m i r).take n = r.1 := by unfold lineOf; rw [List.append_assoc]; exact List.take_left' lr
          have v : at_ (lineOf m i r) n = r.2 := by
            unfold lineOf at_
            rw [List.getD_eq_getElem?_getD, List.append_assoc, List.getElem?_append_right (by omega), lr, Nat.sub_self]
            rfl
          rw [t, v, Int.mul_one] at a
          exact a
        · exact ih (i := i + 1) (fun r' h' => ok r' (List.mem_cons_of_mem _ h')) (fun L hL => nn L (List.mem_cons_of_mem _ hL)) r hr
    exact key h q
  · have a := dot_world f e.lt hq (by rw [e.len q hq]; omega)
    show p ∣ dotp (q.2.take n) w - at_ q.2 n * 1
    rw [← ew, a]
    exact ⟨0, by omega⟩
  · have zz : s.take n = zer n := ext_at (N := n) (by rw [List.length_take, e.sLen s hs]; omega) zer_len fun i hi => by rw [at_take hi, e.sZ s hs i hi, at_zer]
    show p ∣ dotp (s.take n) w - at_ s n * 1
    rw [zz, z s hs]
    obtain ⟨c, hc⟩ := (lin_dotp (p := p) w (n := n)).zero
    exact ⟨c, by omega⟩
theorem world_ok (hp : Pr p) {rows : List Row} (h : RowsOk p n rows) : (worldOf n (sift p n (lines rows)).1).length = n ∧ Red p (worldOf n (sift p n (lines rows)).1) := by
  have h1 := hp.1
  obtain ⟨e, f⟩ := sift_of hp h
  refine ⟨by simp [worldOf], fun a ha => ?_⟩
  obtain ⟨k, _, ek⟩ := List.mem_map.mp ha
  rw [← ek]
  split
  · rename_i v ev
    exact at_red (by omega) (e.rd _ (lookup_mem ev)) n
  · omega
/-- a prime divides no product of what it does not divide -/
theorem Pr.mul (hp : Pr p) {a b : Int} (h : p ∣ a * b) (ha : ¬ p ∣ a) : p ∣ b := by
  have h1 := hp.1
  have hpos : 0 < p := by omega
  have a0 := fm_lo hpos a
  have a1 := fm_hi hpos a
  have ane : a.fmod p ≠ 0 := fun z => ha (by obtain ⟨c, hc⟩ := fm_dvd p a; exact ⟨-c, by rw [z] at hc; grind⟩)
  obtain ⟨i1, i2, ⟨c, hc⟩⟩ := inv_ok hp (a := a.fmod p) (by omega) a1
  obtain ⟨d, hd⟩ := fm_dvd p a
  obtain ⟨g, hg⟩ := h
  generalize invOf p (a.fmod p) = i at *
  generalize a.fmod p = z at *
  have e1 : a = z - p * d := by omega
  subst e1
  exact ⟨-(c * b) + i * g + i * d * b, by grind⟩

/-! ### parting -/
def quiet (rows : List Row) (x : Vc) : List Row := rows.map (fun r => (r.1, 0)) ++ [(x, 1)]
theorem quiet_ok (h1 : 1 < p) {rows : List Row} (h : RowsOk p n rows) {x : Vc} (hx : x.length = n) (rx : Red p x) : RowsOk p n (quiet rows x) := fun r hr => by
  rcases List.mem_append.mp hr with hr | hr
  · obtain ⟨r', h', e⟩ := List.mem_map.mp hr
    rw [← e]
    exact ⟨(h r' h').1, (h r' h').2.1, by show (0 : Int) ≤ 0; omega, by show (0 : Int) < p; omega⟩
  · rw [List.mem_singleton.mp hr]
    exact ⟨hx, rx, by show (0 : Int) ≤ 1; omega, h1⟩
theorem parting_none (hp : Pr p) {rows : List Row} (h : RowsOk p n rows) {x : Vc} (hx : x.length = n) (rx : Red p x) (s : Sp p n (rows.map (·.1)) x) : worldC p n (quiet rows x) = none := by
  have h1 := hp.1
  have ok := quiet_ok h1 h hx rx
  unfold worldC
  split
  · rfl
  · rename_i q
    have z : ∀ s ∈ (sift p n (lines (quiet rows x))).2, at_ s n = 0 := fun s hs => by
      apply Classical.byContradiction
      intro c
      exact q (List.any_eq_true.mpr ⟨s, hs, by simpa using c⟩)
    have k := world_keeps hp ok z
    have a := s (fun y => dotp y (worldOf n (sift p n (lines (quiet rows x))).1)) (lin_dotp _) fun t ht => by
      obtain ⟨r, hr, er⟩ := List.mem_map.mp ht
      have := k (r.1, 0) (List.mem_append_left _ (List.mem_map.mpr ⟨r, hr, rfl⟩))
      rw [← er]
      simpa using this
    have b := k (x, 1) (List.mem_append_right _ (List.mem_singleton.mpr rfl))
    obtain ⟨a, ha⟩ := a
    obtain ⟨b, hb⟩ := b
    simp only at ha hb
    have : p ∣ 1 - 0 := ⟨a - b, by grind⟩
    have := eq_of_dvd this ⟨by omega, h1⟩ ⟨by omega, by omega⟩
    omega
theorem parting_some (hp : Pr p) {rows : List Row} (h : RowsOk p n rows) {x : Vc} (hx : x.length = n) (rx : Red p x) (s : ¬ Sp p n (rows.map (·.1)) x) :
    ∃ w, worldC p n (quiet rows x) = some w ∧ w.length = n ∧ Red p w ∧ (∀ r ∈ rows, p ∣ dotp r.1 w) ∧ p ∣ dotp x w - 1 := by
  have h1 := hp.1
  have ok := quiet_ok h1 h hx rx
  obtain ⟨e, f⟩ := sift_of hp ok
  obtain ⟨φ, hφ⟩ := Classical.not_forall.mp s
  obtain ⟨lφ, hφ⟩ := Classical.not_imp.mp hφ
  obtain ⟨nφ, xφ⟩ := Classical.not_imp.mp hφ
  have lin : Lin p (n + 1 + (quiet rows x).length) (fun y => φ (y.take n) - at_ y n * φ x) := (lφ.take (by omega)).sub' (lin_at n) (φ x)
  have key : ∀ {m i : Nat} {rs : List Row}, RowsOk p n rs → (∀ r ∈ rs, p ∣ φ r.1 - r.2 * φ x) → ∀ L ∈ linesFrom m i rs, p ∣ φ (L.take n) - at_ L n * φ x := by
    intro m i rs
    induction rs generalizing i with
    | nil => intro _ _ L hL; simp [linesFrom] at hL
    | cons r rs ih =>
      intro ok nn L hL
      rcases List.mem_cons.mp hL with e | hL
      · subst e
        have lr := (ok r (List.mem_cons_self ..)).1
        have t : (lineOf m i r).take n = r.1 := by unfold lineOf; rw [List.append_assoc]; exact List.take_left' lr
        have v : at_ (lineOf m i r) n = r.2 := by
          unfold lineOf at_
          rw [List.getD_eq_getElem?_getD, List.append_assoc, List.getElem?_append_right (by omega), lr, Nat.sub_self]
          rfl
        rw [t, v]
        exact nn r (List.mem_cons_self ..)
      · exact ih (i := i + 1) (fun r' h' => ok r' (List.mem_cons_of_mem _ h')) (fun r' h' => nn r' (List.mem_cons_of_mem _ h')) L hL
  have nl : ∀ L ∈ lines (quiet rows x), p ∣ φ (L.take n) - at_ L n * φ x := key ok fun r hr => by
    rcases List.mem_append.mp hr with hr | hr
    · obtain ⟨r', h', er⟩ := List.mem_map.mp hr
      rw [← er]
      have := nφ r'.1 (List.mem_map.mpr ⟨r', h', rfl⟩)
      simpa using this
    · rw [List.mem_singleton.mp hr]
      exact ⟨0, by show φ x - 1 * φ x = p * 0; grind⟩
  have ns := ((e.null _ lin).mp nl).2
  have z : ∀ s ∈ (sift p n (lines (quiet rows x))).2, at_ s n = 0 := fun s hs => by
    have a := ns s hs
    have zz : s.take n = zer n := ext_at (N := n) (by rw [List.length_take, e.sLen s hs]; omega) zer_len fun i hi => by rw [at_take hi, e.sZ s hs i hi, at_zer]
    rw [zz] at a
    obtain ⟨a, ha⟩ := a
    obtain ⟨b, hb⟩ := lφ.zero
    have : p ∣ φ x * at_ s n := ⟨b - a, by grind⟩
    have := hp.mul this xφ
    exact eq_of_dvd (by rw [Int.sub_zero]; exact this) (at_red (by omega) (e.sRd s hs) n) ⟨by omega, by omega⟩
  have k := world_keeps hp ok z
  refine ⟨worldOf n (sift p n (lines (quiet rows x))).1, ?_, (world_ok hp ok).1, (world_ok hp ok).2, fun r hr => ?_, k (x, 1) (List.mem_append_right _ (List.mem_singleton.mpr rfl))⟩
  · unfold worldC
    rw [if_neg]
    intro q
    obtain ⟨s, hs, q⟩ := List.any_eq_true.mp q
    exact absurd (z s hs) (by simpa using q)
  · have := k (r.1, 0) (List.mem_append_left _ (List.mem_map.mpr ⟨r, hr, rfl⟩))
    simpa using this
end M

namespace R
open PySem PySem.Spec PyProof.Rows L2 RX

/-! ### data that are small -/
structure Fit (h w : Nat) (d : PyData) : Prop where
  lay : d.canLay0 = true
  sh : d.showable = true
  nd : d.hasDict = false
  short : d.intsShort 13 = true
  dep : d.depth ≤ h
  wt : d.weight ≤ w
theorem Fit.mono {h w h' w' : Nat} {d : PyData} (f : Fit h w d) (a : h ≤ h') (b : w ≤ w') : Fit h' w' d := ⟨f.lay, f.sh, f.nd, f.short, Nat.le_trans f.dep a, Nat.le_trans f.wt b⟩
theorem fit_none {h w : Nat} : Fit h w .none := ⟨by simp [PyData.canLay0], by simp [PyData.showable], by simp [PyData.hasDict], by simp [PyData.intsShort], by simp [PyData.depth], by simp [PyData.weight]⟩
theorem fit_bool {h w : Nat} {b : Bool} : Fit h w (.bool b) := ⟨by simp [PyData.canLay0], by simp [PyData.showable], by simp [PyData.hasDict], by simp [PyData.intsShort], by simp [PyData.depth], by simp [PyData.weight]⟩
theorem fit_int {h w : Nat} {i : Int} (h0 : 0 ≤ i) (h1 : i < 10) (hw : 4 ≤ w) : Fit h w (.int i) := by
  have c : i = 0 ∨ i = 1 ∨ i = 2 ∨ i = 3 ∨ i = 4 ∨ i = 5 ∨ i = 6 ∨ i = 7 ∨ i = 8 ∨ i = 9 := by omega
  refine Fit.mono (h := 0) (w := 4) ?_ (Nat.zero_le _) hw
  rcases c with rfl | rfl | rfl | rfl | rfl | rfl | rfl | rfl | rfl | rfl <;> exact ⟨by decide +kernel, by decide +kernel, by decide +kernel, by decide +kernel, by decide +kernel, by decide +kernel⟩
structure FitA (h w : Nat) (ds : List PyData) : Prop where
  lay : PyData.canLayAll0 ds = true
  sh : PyData.showableAll ds = true
  nd : PyData.hasDictAll ds = false
  short : PyData.intsShortAll 13 ds = true
  dep : PyData.depthAll ds ≤ h
  wt : PyData.weightAll ds ≤ w
theorem fita_nil {h w : Nat} : FitA h w [] := ⟨by simp [PyData.canLayAll0], by simp [PyData.showableAll], by simp [PyData.hasDictAll], by simp [PyData.intsShortAll], by simp [PyData.depthAll], by simp [PyData.weightAll]⟩
theorem fita_cons {h w v : Nat} {d : PyData} {ds : List PyData} (f : Fit h w d) (g : FitA h v ds) : FitA h (w + 1 + v) (d :: ds) :=
  ⟨by simp [PyData.canLayAll0, f.lay, g.lay], by simp [PyData.showableAll, f.sh, g.sh], by simp [PyData.hasDictAll, f.nd, g.nd], by simp [PyData.intsShortAll, f.short, g.short], by simp only [PyData.depthAll]; exact Nat.max_le.mpr ⟨f.dep, g.dep⟩, by have := f.wt; have := g.wt; simp only [PyData.weightAll]; omega⟩
theorem FitA.mono {h w h' w' : Nat} {d : List PyData} (f : FitA h w d) (a : h ≤ h') (b : w ≤ w') : FitA h' w' d := ⟨f.lay, f.sh, f.nd, f.short, Nat.le_trans f.dep a, Nat.le_trans f.wt b⟩
theorem fita_all {h w : Nat} : ∀ {ds : List PyData}, (∀ d ∈ ds, Fit h w d) → FitA h (ds.length * (w + 1)) ds
  | [], _ => fita_nil
  | d :: ds, f => (fita_cons (f d (List.mem_cons_self ..)) (fita_all fun e he => f e (List.mem_cons_of_mem _ he))).mono (Nat.le_refl _) (by rw [List.length_cons, Nat.succ_mul]; omega)
theorem fit_tup {h w : Nat} {ds : List PyData} (f : FitA h w ds) : Fit (h + 1) w (.tuple ds) :=
  ⟨by simp only [PyData.canLay0]; exact f.lay, by simp only [PyData.showable]; exact f.sh, by simp only [PyData.hasDict]; exact f.nd, by simp only [PyData.intsShort]; exact f.short, by have := f.dep; simp only [PyData.depth]; omega, by simp only [PyData.weight]; exact f.wt⟩
theorem fit_lst {h w : Nat} {ds : List PyData} (f : FitA h w ds) : Fit (h + 1) w (.list ds) :=
  ⟨by simp only [PyData.canLay0]; exact f.lay, by simp only [PyData.showable]; exact f.sh, by simp only [PyData.hasDict]; exact f.nd, by simp only [PyData.intsShort]; exact f.short, by have := f.dep; simp only [PyData.depth]; omega, by simp only [PyData.weight]; exact f.wt⟩
theorem fit_tupN {h w : Nat} (L : Nat) {ds : List PyData} (f : ∀ d ∈ ds, Fit h w d) (hl : ds.length ≤ L) : Fit (h + 1) (L * (w + 1)) (.tuple ds) := fit_tup ((fita_all f).mono (Nat.le_refl _) (Nat.mul_le_mul_right _ hl))
theorem fit_lstN {h w : Nat} (L : Nat) {ds : List PyData} (f : ∀ d ∈ ds, Fit h w d) (hl : ds.length ≤ L) : Fit (h + 1) (L * (w + 1)) (.list ds) := fit_lst ((fita_all f).mono (Nat.le_refl _) (Nat.mul_le_mul_right _ hl))
theorem Fit.pl {h w : Nat} {d : PyData} (f : Fit h w d) (a : h ≤ 64) : Pl d := ⟨by unfold SeqAt.shaped; rw [f.lay, decide_eq_true (Nat.le_trans f.dep a)]; rfl, f.nd⟩
theorem Fit.refl {h w : Nat} {d : PyData} (f : Fit h w d) : PyData.eqv d d = true := SeqAt.eqv_refl d f.lay
theorem Fit.repr {h w : Nat} {d : PyData} (f : Fit h w d) (a : h ≤ 40) (b : w ≤ 2 ^ 20) : d.showable = true ∧ d.hasDict = false ∧ d.depth ≤ 40 ∧ d.shown.length ≤ sizeLine := by
  refine ⟨f.sh, f.nd, Nat.le_trans f.dep a, Nat.le_trans (shown_le13 (d := d) ?_ f.short) (by unfold sizeLine; decide)⟩
  show (d.canLay0 && decide (d.depth ≤ 64) && decide (d.weight ≤ 2 ^ 20)) = true
  rw [f.lay, decide_eq_true (by have := f.dep; omega : d.depth ≤ 64), decide_eq_true (Nat.le_trans f.wt b)]
  rfl

/-! ### comprehensions -/
theorem fm_if {α β : Type} {c : α → Bool} {f : α → β} : ∀ zs : List α, zs.filterMap (fun z => if c z = true then some (f z) else none) = (zs.filter c).map f
  | [] => rfl
  | z :: zs => by
    have ih := fm_if (c := c) (f := f) zs
    by_cases hc : c z = true <;> simp [List.filterMap_cons, List.filter_cons, hc, ih]
section
variable {α : Type} {g : AG} {t : AT} {e : AE} {vs : List Nat} {Q : List PyData → Sls → Prop} {sl0 : Sls}
theorem lc_filterMap {h : α → PyData} {f : α → Option PyData} (h1 : unS sl0 vs = sl0) : ∀ {zs : List α} {sl : Sls} {acc : List PyData}, unS sl vs = sl0 →
    (∀ z ∈ zs, ∀ (Y : PyData → Sls → Prop) (Z : Sls → Prop), (∀ sl' d, f z = some d → unS sl' vs = sl0 → Y d sl') → (∀ sl', f z = none → unS sl' vs = sl0 → Z sl') → g (h z) sl0 fun sl2 => t sl2 fun b sl3 => (b = true → e sl3 Y) ∧ (b = false → Z sl3)) →
    acc.length + zs.length ≤ 100000 → Q (acc ++ zs.filterMap f) sl0 → lcR g t e vs Q (zs.map h) sl acc
  | [], sl, acc, hs, _, _, q => by
    rw [List.filterMap_nil, List.append_nil] at q
    show Q acc (unS sl vs)
    rw [hs]; exact q
  | z :: zs, sl, acc, hs, st, hz, q => by
    have hz' : acc.length + (zs.length + 1) ≤ 100000 := hz
    show g (h z) (unS sl vs) fun sl2 => t sl2 fun b sl3 => _
    rw [hs]
    refine st z (List.mem_cons_self ..) _ _ (fun sl' d ef hs' => ⟨by unfold sizeLine; omega, ?_⟩) fun sl' ef hs' => ?_
    · rw [List.filterMap_cons, ef] at q
      exact lc_filterMap h1 (by rw [hs', h1]) (fun z' hz' => st z' (List.mem_cons_of_mem _ hz')) (by rw [List.length_append, List.length_singleton]; omega) (by rw [List.append_assoc]; exact q)
    · rw [List.filterMap_cons, ef] at q
      exact lc_filterMap h1 (by rw [hs', h1]) (fun z' hz' => st z' (List.mem_cons_of_mem _ hz')) (by omega) q
theorem lc_map {h f : α → PyData} (h1 : unS sl0 vs = sl0) {zs : List α} {sl : Sls} (hs : unS sl vs = sl0)
    (st : ∀ z ∈ zs, ∀ (Y : PyData → Sls → Prop) (Z : Sls → Prop), (∀ sl', unS sl' vs = sl0 → Y (f z) sl') → g (h z) sl0 fun sl2 => (true = true → e sl2 Y) ∧ (true = false → Z sl2))
    (hz : zs.length ≤ 100000) (q : Q (zs.map f) sl0) : lcR g aYes e vs Q (zs.map h) sl [] :=
  lc_filterMap (f := fun z => some (f z)) h1 hs (fun z hz Y Z hY _ => st z hz Y Z fun sl' e => hY sl' _ rfl e) (by rw [List.length_nil]; omega) (by rw [List.nil_append, List.filterMap_eq_map']; exact q)
theorem lc_filter {h f : α → PyData} {c : α → Bool} (h1 : unS sl0 vs = sl0) {zs : List α} {sl : Sls} (hs : unS sl vs = sl0)
    (st : ∀ z ∈ zs, ∀ (Y : PyData → Sls → Prop) (Z : Sls → Prop), (c z = true → ∀ sl', unS sl' vs = sl0 → Y (f z) sl') → (c z = false → ∀ sl', unS sl' vs = sl0 → Z sl') → g (h z) sl0 fun sl2 => t sl2 fun b sl3 => (b = true → e sl3 Y) ∧ (b = false → Z sl3))
    (hz : zs.length ≤ 100000) (q : Q ((zs.filter c).map f) sl0) : lcR g t e vs Q (zs.map h) sl [] := by
  refine lc_filterMap (f := fun z => if c z = true then some (f z) else none) h1 hs (fun z hz Y Z hY hZ => st z hz Y Z (fun hc sl' e => hY sl' _ (by rw [if_pos hc]) e) fun hc sl' e => hZ sl' (by rw [hc]; rfl) e) (by rw [List.length_nil]; omega) ?_
  rw [List.nil_append, fm_if]
  exact q
/-! ### loops -/
theorem for_inv {h : α → PyData} {s : AS} {P : Post} (I : List α → Sls → Prop) (stop : ∀ sl, I [] sl → P.nx sl)
    (step : ∀ z zs sl (R : Sls → Prop), I (z :: zs) sl → (∀ sl', I zs sl' → R sl') → g (h z) sl fun sl2 => s { nx := R, rt := P.rt, bk := P.nx, ct := R } sl2) : ∀ {zs : List α} {sl : Sls}, I zs sl → forR g s P (zs.map h) sl
  | [], sl, i => stop sl i
  | z :: zs, sl, i => step z zs sl _ i fun sl' i' => for_inv I stop step i'
end

/-! ### data of the sums -/
def dI (xs : List Int) : PyData := .tuple (xs.map .int)
def lI (xs : List Int) : PyData := .list (xs.map .int)
def hD (p : Int) (n : Nat) : PyData := .tuple [.int p, .int n]
def rD (r : M.Row) : PyData := .tuple [dI r.1, .int r.2]
def rsD (rows : List M.Row) : PyData := .tuple (rows.map rD)
def oD : Option (Int × M.Vc) → PyData
  | none => .none
  | some (a, v) => .tuple [.int a, dI v]
structure HouseOk (p : Int) (n : Nat) : Prop where
  pr : M.Pr p
  p10 : p < 10
  n6 : n ≤ 8
theorem HouseOk.pos {p : Int} {n : Nat} (h : HouseOk p n) : 0 < p := by have := h.pr.1; omega
theorem HouseOk.ne {p : Int} {n : Nat} (h : HouseOk p n) : p ≠ 0 := by have := h.pr.1; omega
/-- bounded enough for a product -/
theorem cmul_l {i j : Int} (h0 : -1000000 ≤ i) (h1 : i ≤ 1000000) : CMul i j := .inl (by omega)
theorem cmul_r {i j : Int} (h0 : -1000000 ≤ j) (h1 : j ≤ 1000000) : CMul i j := .inr (by omega)
theorem cat1 {xs : List PyData} {i : Nat} {d : PyData} (h : xs[i]? = some d) : atI xs (i : Int) = some d := atI_nat h
end R

namespace RX
open PySem PySem.Spec PyProof.Rows L2
/-- max of a tuple of whole numbers -/
def rMaxT (K : PySem.W.Frag) : List V → Hp → VK → Prop := fun vs H Q => ∃ (a : Addr) (x : Int) (xs : List Int), vs = [V.ref a] ∧ SqT K H a ((x :: xs).map V.int) ∧ Q (.int (PySem.W.maxOf x xs)) H
theorem cr_maxT {X : Cx} {k : Nat} (hr : Room k X.A) (hc : X.calm = true) : CallR X (.builtin "max") (rMaxT X.K) := by
  intro pins s σ H vs us Q I r h
  obtain ⟨a, x, xs, rfl, hs, q⟩ := h
  obtain ⟨its, rv, hl, _⟩ := I.tuple hs
  rw [Vals.ref1 r]
  have hu := hr.units
  refine PySem.W.max_tuple_datum (α := Int) (I.ok.hd hc) hl (PySem.W.HoldAll.of_ints rv.ints) (by show _ + 1 + 0 < _; omega) fun i v h' tk hv Hd hk => ?_
  obtain ⟨as, rd⟩ := Hd
  cases rd with
  | int => exact ⟨.int _, H, I.kept hk, ⟨_, rfl⟩, q⟩
end RX
namespace R
open PySem PySem.Spec PyProof.Rows L2 RX
section
variable {K : Frag} {ta tb te tc : TE} {a b c : AE} {G H : Hp} {σ : L2.St}
def fMaxT : FC := fun ds P => ∃ (x : Int) (xs : List Int), ds = [.tuple ((x :: xs).map PyData.int)] ∧ P (.int (PySem.W.maxOf x xs))
theorem lc_maxT : LC K (rMaxT K) fMaxT := fun σ G H sl vs ds P E hd ⟨x, xs, e, p⟩ Q q => by
  subst e
  obtain ⟨v, rfl, dv⟩ := dq1 hd
  cases dv with
  | tup s al =>
    rw [DqAll.ints_inv (ns := x :: xs) al] at s
    exact ⟨_, x, xs, rfl, E.le.sqT s.sqT, q _ _ G H E .refl (.int _) p⟩
/-- x, y, z = (a thing, a thing, a new list) -/
def aParDDL (i j l : Nat) (a b : AE) (c : AL) : AS := fun P sl => a sl fun x sl1 => b sl1 fun y sl2 => c sl2 fun zs sl3 => ∀ m, P.nx (((sl3.set i (.d x)).set j (.d y)).set l (.m m zs))
theorem ls_parDDL {cn : AL} (i j l : Nat) (ha : LE K ta a) (hb : LE K tb b) (hc : LN K tc cn) : LS K (tPar3 i j l (tCons ta (tCons tb (tCons tc tNil)))) (aParDDL i j l a b cn) := by
  intro σ G H sl P D E p k
  refine ha σ G H sl _ E p _ fun v d G1 H1 sl1 E1 g1 d1 p1 => ?_
  refine hb σ G1 H1 sl1 _ E1 p1 _ fun w e G2 H2 sl2 E2 g2 d2 p2 => ?_
  refine hc σ G2 H2 sl2 _ E2 p2 _ fun m us ys G3 H3 sl3 E3 g3 hm gm nom nm hd3 p3 => ?_
  have F1 := E3.set (i := i) (s := .d d) ⟨v, rfl, d1.mono (g2.le.trans g3.le)⟩ fun x e => nomatch e
  have F2 := F1.set (i := j) (s := .d e) ⟨w, rfl, d2.mono g3.le⟩ fun x e => nomatch e
  have F3 := F2.set (i := l) (s := .m m ys) ⟨rfl, gm, us, hm, hd3⟩ fun x e => by cases e; exact fun o => nom (own_set_d (own_set_d o))
  have g := (g1.trans g2).trans g3
  exact ⟨_, _, _, rfl, k.nx _ _ _ _ F3 ⟨g.keep, g.le, g.ap, fun x h => (Own.of_set h).elim (fun h => g.own x (own_set_d (own_set_d h))) fun e => .inr (by cases e; exact (g1.trans g2).back nm), g.there⟩ (p3 m)⟩
end
end R

namespace R
open PySem PySem.Spec PyProof.Rows L2 RX
section
variable {K : Frag} {ta : TE} {a : AE} {G H : Hp} {σ : L2.St}
/-- list(range(n)) -/
def aListRg (a : AE) : AL := fun sl Q => a sl fun d sl1 => match d with
  | .int n => (-(2 ^ 62) ≤ n ∧ n ≤ 16777216) ∧ Q (rgD 0 n.toNat) sl1
  | _ => False
theorem ln_listRg (ha : LE K ta a) : LN K (tLstRg (tRg1 ta)) (aListRg a) := fun σ G H sl P E p Q q =>
  ha σ G H sl _ E p _ fun v d G1 H1 sl1 E1 g1 d1 p1 => by
    cases d1 with
    | int n =>
      obtain ⟨⟨h0, h1⟩, p2⟩ := p1
      have e1 : rgV 0 n = ((List.range n.toNat).map fun i : Nat => (0 : Int) + (i : Nat)).map V.int := by
        unfold rgV
        rw [Int.sub_zero, List.map_map]
        rfl
      have e2 : rgD 0 n.toNat = ((List.range n.toNat).map fun i : Nat => (0 : Int) + (i : Nat)).map PyData.int := by
        unfold rgD
        rw [List.map_map]
        rfl
      refine ⟨n, rfl, ⟨by omega, by omega, by omega, by omega, by omega⟩, fun l hl => ?_⟩
      rw [e2] at p2
      rw [e1]
      exact q l _ _ G1 _ sl1 (E1.newO hl) (g1.trans (Grow.newO hl)) upd_same (E1.gnone hl) (fun o => (E1.own o).1 hl) (g1.back hl) DqAll.ints p2
    | _ => exact p1.elim
end
end R
namespace R
open PySem PySem.Spec PyProof.Rows L2 RX
section
variable {K : Frag} {ta : TE} {a : AE} {G H : Hp} {σ : L2.St}
theorem Dq.tyA {v : V} {d : PyData} (e : Le G H) (h : Dq K G v d) : TyX K H v (.type (tyD d)) := by
  cases h with
  | non => exact .base .non
  | bl b => exact .base (.bl b)
  | int i => exact .base (.int i)
  | str x => exact .base (.str x)
  | lst s al =>
    rcases e.sqL s with (r | ⟨o, r⟩) | ⟨o, its, n, h1, h2, _⟩
    · exact .base (.lst r)
    · exact .base (.frz r)
    · exact .kList h1 h2
  | tup s al =>
    rcases e.sqT s.sqT with (r | ⟨o, r⟩) | ⟨o, its, n, h1, h2, _⟩
    · exact .base (.tup r)
    · exact .fTuple r
    · exact .kTuple h1 h2
  | dic s al =>
    have s' := e.rd _ (.dK _) trivial s
    rcases s' with r | ⟨o, r⟩
    · exact .base (.dK r)
    · exact .fDict r
def fIsiA (T : String) (ds : List PyData) (P : PyData → Prop) : Prop := match ds with
  | [d] => P (.bool (isTy T d))
  | _ => False
/-- isinstance of any datum -/
theorem le_isiA (T : String) (hT : T = "int" ∨ T = "bool" ∨ T = "tuple" ∨ T = "str" ∨ T = "list" := by decide) (ha : LE K ta a) : LE K (tCB (rIsi K) (tCons ta (tCons (tC (.ty T)) tNil))) (aCB (fIsiA T) (aCons a aNil)) := fun σ G H sl P E p Q q =>
  ha σ G H sl _ E p _ fun v d G1 H1 sl1 E1 g1 d1 p1 => ⟨v, .ty T, .type (tyD d), .type T, _, rfl, .ty T, d1.tyA E1.le, kit_ty T hT d, q _ _ G1 H1 sl1 E1 g1 (.bl _) p1⟩
end
end R

namespace R
open PySem PySem.Spec PyProof.Rows L2 RX
section
variable {X : Cx} {pins : List (Addr × Obj)} {σ : L2.St} {G H : Hp} {s : Shared}
mutual
theorem Dq.reads (I : Inv X pins σ H s) (le : Le G H) : ∀ {v : V} {d : PyData} {u : Value}, Dq X.K G v d → RelV v u → ∃ as, Reads s.heap u d as
  | _, _, _, .non, r => by cases r; exact ⟨_, .none⟩
  | _, _, _, .bl b, r => by cases r; exact ⟨_, .bool b⟩
  | _, _, _, .int i, r => by obtain ⟨t, rfl⟩ := r; exact ⟨_, .int i t⟩
  | _, _, _, .str x, r => by obtain ⟨t, rfl⟩ := r; exact ⟨_, .str x t⟩
  | _, _, _, .lst hs ha, r => by
    cases r
    obtain ⟨its, rv, ⟨o, n, ho, hc, _, hd⟩, _⟩ := I.list (le.sqL hs)
    obtain ⟨as, hr⟩ := DqAll.reads I le ha rv
    exact ⟨_, Reads.list ho hc hd hr⟩
  | _, _, _, .tup hs ha, r => by
    cases r
    obtain ⟨its, rv, ⟨o, ho, hc, n, hd⟩, _⟩ := I.tuple (le.sqT hs.sqT)
    obtain ⟨as, hr⟩ := DqAll.reads I le ha rv
    exact ⟨_, Reads.tuple ho hc hd hr⟩
  | _, _, _, .dic hs ha, r => by
    cases r
    obtain ⟨_, _, vs', kv, o, es, ep, ho, hx, hd, _, prs, _⟩ := (le.rd _ (.dK _) trivial hs).ok I.hok
    obtain ⟨as, bs, h1, h2⟩ := DqKv.reads I le ha kv prs
    exact ⟨_, Reads.dict ho hx.1 hd h1 h2⟩
theorem DqAll.reads (I : Inv X pins σ H s) (le : Le G H) : ∀ {vs : List V} {ds : List PyData} {us : List Value}, DqAll X.K G vs ds → Vals vs us → ∃ as, ReadsAll s.heap us ds as
  | _, _, _, .nil, r => by cases r; exact ⟨_, .nil⟩
  | _, _, _, .cons h1 h2, r => by
    cases r with
    | cons r1 r2 =>
      obtain ⟨as, q1⟩ := Dq.reads I le h1 r1
      obtain ⟨bs, q2⟩ := DqAll.reads I le h2 r2
      exact ⟨_, .cons q1 q2⟩
theorem DqKv.reads (I : Inv X pins σ H s) (le : Le G H) : ∀ {kvs : List (Key × V)} {ds : List (PyData × PyData)} {vs : List (Key × Value)} {es : List DictEntry}, DqKv X.K G kvs ds → KV kvs vs → Pairs (mixKind X.prog X.w) es vs →
    ∃ as bs, ReadsAll s.heap (es.map (·.key)) (ds.map (·.1)) as ∧ ReadsAll s.heap (es.map (·.val)) (ds.map (·.2)) bs
  | _, _, _, _, .nil, kv, prs => by
    cases kv
    cases prs
    exact ⟨_, _, .nil, .nil⟩
  | _, _, _, _, .cons (k := k) h1 h2, kv, prs => by
    cases kv with
    | cons f kv =>
      cases prs with
      | @cons en _ _ _ p1 p2 prs =>
        obtain ⟨e1, r1⟩ := f
        obtain ⟨as, q1⟩ := Dq.reads I le h1 r1
        obtain ⟨bs, cs, q2, q3⟩ := DqKv.reads I le h2 kv prs
        have hk : ∃ ks, Reads s.heap en.key (kD k) ks := by
          rcases keyIs_shape p1 with ⟨i, t, e2, e3⟩ | ⟨x, t, e2, e3⟩
          · simp only at e1
            rw [← e1] at e2
            subst e2
            rw [e3]
            exact ⟨_, Reads.int i t⟩
          · simp only at e1
            rw [← e1] at e2
            subst e2
            rw [e3]
            exact ⟨_, Reads.str x t⟩
        obtain ⟨ks, hk⟩ := hk
        rw [← p2] at q1
        exact ⟨_, _, .cons hk q2, .cons q1 q3⟩
end
end
end R

namespace R
open PySem PySem.Spec PyProof.Rows L2 RX
section
variable {K : Frag} {ta tb te tc : TE} {a b c : AE} {G H : Hp} {σ : L2.St} {tt tu : TT} {t u : AT} {tas : TA} {as : AL} {ts us : TS} {s r : AS}

/-! ### flat items: in, index -/
def flD : PyData → Bool
  | .none => true
  | .bool _ => true
  | .int _ => true
  | .str _ => true
  | _ => false
theorem Dq.flat {v : V} {d : PyData} (h : Dq K G v d) (f : flD d = true) : flatV v = true := by
  cases h <;> first | rfl | cases f
theorem DqAll.flat : ∀ {vs : List V} {ds : List PyData}, DqAll K G vs ds → ds.all flD = true → vs.all flatV = true
  | _, _, .nil, _ => rfl
  | _, _, .cons a b, f => by
    rw [List.all_cons, Bool.and_eq_true] at f ⊢
    exact ⟨a.flat f.1, DqAll.flat b f.2⟩
theorem Dq.eqv {v w : V} {d e : PyData} (h : Dq K G v d) (h' : Dq K G w e) (f : flD d = true) (f' : flD e = true) : eqV v w = PyData.eqv d e := by
  cases h <;> first | (cases f; done) | skip
  all_goals cases h' <;> first | (cases f'; done) | simp [eqV, PyData.eqv]
theorem DqAll.inV {w : V} {e : PyData} (h' : Dq K G w e) (f' : flD e = true) : ∀ {vs : List V} {ds : List PyData}, DqAll K G vs ds → ds.all flD = true → inV w vs = ds.any fun z => PyData.eqv z e
  | _, _, .nil, _ => rfl
  | _, _, .cons a b, f => by
    rw [List.all_cons, Bool.and_eq_true] at f
    have ih := DqAll.inV h' f' b f.2
    unfold L2.inV at ih ⊢
    rw [List.any_cons, List.any_cons, a.eqv h' f.1 f', ih]
def hasD (ds : List PyData) (d : PyData) : Bool := ds.any fun z => PyData.eqv z d
def fIn (neg : Bool) : F2 := fun d e P => ∃ ds, seqD e = some ds ∧ flD d = true ∧ ds.all flD = true ∧ P (.bool (if neg then !hasD ds d else hasD ds d))
theorem lr_in (neg : Bool) : LR K (rIn K neg) (fIn neg) := fun σ G H sl x y d e P E hx hy ⟨ds, es, fd, fs, p⟩ Q q => by
  obtain ⟨tp, z, xs, rfl, sq, al⟩ := hy.seq es
  refine ⟨z, xs, rfl, ?_, hx.flat fd, al.flat fs, ?_⟩
  · cases tp with
    | true => exact .inr (E.le.sqT sq)
    | false => exact .inl (E.le.sqL sq)
  · rw [al.inV hx fd fs]
    exact q _ _ G H E .refl (.bl _) p
/-- l.index(x) -/
def fIndex (d e : PyData) (P : PyData → Prop) : Prop := ∃ (ds : List PyData) (j : Nat) (z : PyData), d = .list ds ∧ flD e = true ∧ ds.all flD = true ∧ ds[j]? = some z ∧ PyData.eqv z e = true ∧ (∀ (m : Nat) (y : PyData), m < j → ds[m]? = some y → PyData.eqv y e = false) ∧ P (.int (j : Nat))
def aIndex (o a : AE) : AE := fun sl Q => o sl fun d sl1 => (∃ ds, d = .list ds) ∧ a sl1 fun e sl2 => fIndex d e fun z => Q z sl2
theorem le_index {to : TE} {o : AE} (ho : LE K to o) (ha : LE K ta a) : LE K (tBM K "list" (rIndex K) to (tCons ta tNil)) (aIndex o a) := fun σ G H sl P E p Q q =>
  ho σ G H sl _ E p _ fun x d G1 H1 sl1 E1 g1 d1 ⟨⟨ds0, e0⟩, p1⟩ => by
    subst e0
    cases d1 with
    | lst sq al =>
      rename_i l xs
      refine ⟨.inl ⟨rfl, _, E1.le.sqL sq⟩, ?_⟩
      refine ha σ G1 H1 sl1 _ E1 p1 _ fun y e G2 H2 sl2 E2 g2 d2 ⟨ds, j, z, e1, fe, fs, hz, hq, hno, p2⟩ => ?_
      cases e1
      have al2 := al.mono g2.le
      obtain ⟨v, hv, dv⟩ := al2.get hz
      have fl : ∀ {m : Nat} {y' : PyData}, ds0[m]? = some y' → flD y' = true := fun h => List.all_eq_true.mp fs _ (List.mem_of_getElem? h)
      refine ⟨l, xs, y, j, v, rfl, rfl, (g2.le.trans E2.le).sqL sq, d2.flat fe, al2.flat fs, hv, ?_, fun m z' hm hz' => ?_, q _ _ G2 H2 sl2 E2 (g1.trans g2) (.int _) p2⟩
      · rw [dv.eqv d2 (fl hz) fe]; exact hq
      · obtain ⟨y', hy', dy'⟩ := al2.getV hz'
        rw [dy'.eqv d2 (fl hy') fe]
        exact hno m y' hm hy'

/-- x is True -/
def fIsB (neg : Bool) : F2 := fun d e P => match d, e with
  | .bool a, .bool b => P (.bool (if neg then !decide (a = b) else decide (a = b)))
  | _, _ => False
theorem lr_isB : LR K rIsB (fIsB false) := fun σ G H sl x y d e P E hx hy p Q q => by
  unfold fIsB at p
  split at p
  · cases hx
    cases hy
    exact ⟨_, _, rfl, rfl, q _ _ G H E .refl (.bl _) p⟩
  · exact p.elim
theorem lr_notB : LR K rNotB (fIsB true) := fun σ G H sl x y d e P E hx hy p Q q => by
  unfold fIsB at p
  split at p
  · cases hx
    cases hy
    exact ⟨_, _, rfl, rfl, q _ _ G H E .refl (.bl _) p⟩
  · exact p.elim

/-! ### x, y = ([..], [..]), both one's own -/
def aParLL (i j : Nat) (a b : AL) : AS := fun P sl => a sl fun xs sl1 => b sl1 fun ys sl2 => ∀ l m, P.nx ((sl2.set i (.m l xs)).set j (.m m ys))
theorem ls_parLL {an bn : AL} (i j : Nat) (ha : LN K ta an) (hb : LN K tb bn) : LS K (tPar i j (tCons ta (tCons tb tNil))) (aParLL i j an bn) := by
  intro σ G H sl P D E p k
  refine ha σ G H sl _ E p _ fun l vs xs G1 H1 sl1 E1 g1 hl gl no nl hd p1 => ?_
  refine hb σ G1 H1 sl1 _ E1 p1 _ fun m us ys G2 H2 sl2 E2 g2 hm gm nom nm hd2 p2 => ?_
  have hl2 : H2 l = some (.lst vs) := g2.keep l _ no hl
  have nn : H1 l ≠ none := by rw [hl]; simp
  have gl2 : G2 l = none := g2.ap l no nn gl
  have no2 : ¬ Own sl2 l := fun o => (g2.own l o).elim no nn
  have lm : m ≠ l := fun e => nn (by rw [← e]; exact nm)
  have E3 := E2.set (i := i) (s := .m l xs) ⟨rfl, gl2, vs, hl2, hd.mono g2.le⟩ fun x e => by cases e; exact no2
  have nom3 : ¬ Own (sl2.set i (.m l xs)) m := fun o => (Own.of_set o).elim nom fun e => by cases e; exact lm rfl
  have E4 := E3.set (i := j) (s := .m m ys) ⟨rfl, gm, us, hm, hd2⟩ fun x e => by cases e; exact nom3
  have g := g1.trans g2
  exact ⟨_, _, rfl, k.nx _ _ _ _ E4 ⟨g.keep, g.le, g.ap, fun x h => (Own.of_set h).elim (fun h => (Own.of_set h).elim (g.own x) fun e => .inr (by cases e; exact nl)) fun e => .inr (by cases e; exact g1.back nm), g.there⟩ (p2 l m)⟩

/-! ### an own list lent, beside other own lists without lists in them -/
def aBor2 (i : Nat) (a : AE) : AE := fun sl Q => ∃ l xs, sl[i]? = some (.m l xs) ∧ (∀ j s, sl[j]? = some s → s.addr ≠ none → j = i ∨ ∃ m ys, s = .m m ys ∧ noLs ys = true) ∧ a (sl.set i (.d (.list xs))) fun d sl' => sl' = sl.set i (.d (.list xs)) ∧ noL d = true ∧ Q d sl
theorem le_bor2 (i : Nat) (ha : LE K ta a) : LE K ta (aBor2 i a) := fun σ G H sl P E ⟨l, xs, h, only, p⟩ Q q => by
  obtain ⟨v, hv, hvl, gl, vs, hl, hd⟩ := E.slot h
  subst hvl
  obtain ⟨ws, hlw, E1, g1, dq, hd1⟩ := E.freezeX h
  have hi := (List.getElem?_eq_some_iff.mp h).1
  have notl : ¬ Own (sl.set i (.d (.list xs))) l := fun ⟨j, s, h1, h2⟩ => by
    by_cases e : i = j
    · subst e
      rw [List.getElem?_set_self hi] at h1
      cases h1; cases h2
    · rw [List.getElem?_set_ne e] at h1
      exact e (E.one i j _ s l h h1 rfl h2)
  have ownL : ∀ x, Own (sl.set i (.d (.list xs))) x → Own sl x := fun x o => own_set_d o
  refine ha σ _ H _ _ E1 p Q fun w d G2 H2 sl2 E2 g2 d2 ⟨e, nl, p2⟩ => ?_
  subst e
  let G3 : Hp := fun x => if x = l then none else G2 x
  have off : ∀ x, x ≠ l → G3 x = G2 x := fun x ne => if_neg ne
  have at3 : G3 l = none := if_pos rfl
  have rdl : Rd G2 l (.lst ws) := g2.le.rd l _ trivial (.inl upd_same)
  have le3 : Le G3 H2 := ⟨fun x u pu r => by
    by_cases e : x = l
    · subst e; exact absurd r (no_rd at3 u)
    · refine E2.le.rd x u pu ?_
      rcases r with r | ⟨o, r⟩
      · exact .inl (by rw [off x e] at r; exact r)
      · exact .inr ⟨o, by rw [off x e] at r; exact r⟩, fun x nx => by
    by_cases e : x = l
    · subst e; exact absurd at3 nx
    · rw [off x e] at nx; exact E2.le.has x nx, fun x o ys r => by
    by_cases e : x = l
    · subst e; rw [at3] at r; cases r
    · rw [off x e] at r; exact E2.le.tp x o ys r⟩
  have leG : Le G G3 := ⟨fun x u pu r => by
    have ne : x ≠ l := fun e => by subst e; exact no_rd gl u r
    have q := g2.le.rd x u pu ((rd_upd ne).mpr r)
    rcases q with q | ⟨o, q⟩
    · exact .inl (by rw [off x ne]; exact q)
    · exact .inr ⟨o, by rw [off x ne]; exact q⟩, fun x nx => by
    have ne : x ≠ l := fun e => nx (by rw [e]; exact gl)
    rw [off x ne]
    exact g2.le.has x (by rw [upd_ne ne]; exact nx), fun x o ys r => by
    have ne : x ≠ l := fun e => by subst e; rw [gl] at r; cases r
    rw [off x ne]
    exact g2.le.tp x o ys (by rw [upd_ne ne]; exact r)⟩
  have Hl : H2 l = some (.lst ws) := g2.keep l _ notl hlw
  have E3 : Env K G3 H2 σ sl := by
    refine ⟨le3, E.len, fun j u s h1 h2 => ?_, E.one⟩
    have ok := E.ok j u s h1 h2
    by_cases e : j = i
    · subst e
      rw [h] at h2; cases h2
      rw [hv] at h1; cases h1
      exact ⟨rfl, at3, ws, Hl, hd1.mono leG⟩
    · have h2' : (sl.set i (.d (.list xs)))[j]? = some s := by rw [List.getElem?_set_ne (Ne.symm e)]; exact h2
      cases s with
      | un => trivial
      | d x => obtain ⟨z, e1, e2⟩ := ok; exact ⟨z, e1, e2.mono leG⟩
      | m a ys =>
        obtain ⟨z1, z2, us, z3, z4⟩ := E2.ok j u _ h1 h2'
        rcases only j _ h2 (by simp [Slot.addr]) with q | ⟨m, ys', q, nq⟩
        · exact absurd q e
        · cases q
          have ne : a ≠ l := fun e' => notl ⟨j, _, h2', by rw [← e']; rfl⟩
          exact ⟨z1, by rw [off a ne]; exact z2, us, z3, DqAll.less rdl off z4 nq⟩
      | md a ys =>
        rcases only j _ h2 (by simp [Slot.addr]) with q | ⟨m, ys', q, nq⟩
        · exact absurd q e
        · cases q
      | ob a C fs =>
        rcases only j _ h2 (by simp [Slot.addr]) with q | ⟨m, ys', q, nq⟩
        · exact absurd q e
        · cases q
  refine q w d G3 H2 sl E3 ⟨fun x o n e => g2.keep x o (fun z => n (ownL x z)) e, leG, fun x n e1 e2 => ?_, fun x o => .inl o, g2.there⟩ (Dq.less rdl off d2 nl) p2
  have ne : x ≠ l := fun e => n (by rw [e]; exact ⟨i, _, h, rfl⟩)
  rw [off x ne]
  exact g2.ap x (fun z => n (ownL x z)) e1 (by rw [upd_ne ne]; exact e2)
end
end R

namespace R
open PySem PySem.Spec PyProof.Rows L2 RX
theorem ix_h0 {p : Int} {n : Nat} {P : PyData → Prop} (h : P (.int p)) : fIx (hD p n) (.int 0) P := ⟨_, rfl, h⟩
theorem ix_h1 {p : Int} {n : Nat} {P : PyData → Prop} (h : P (.int n)) : fIx (hD p n) (.int 1) P := ⟨_, rfl, h⟩
theorem ix_t {xs : List PyData} {i : Nat} {d : PyData} {P : PyData → Prop} (h : xs[i]? = some d) (q : P d) : fIx (.tuple xs) (.int i) P := ⟨_, atI_nat h, q⟩
theorem ix_l {xs : List PyData} {i : Nat} {d : PyData} {P : PyData → Prop} (h : xs[i]? = some d) (q : P d) : fIx (.list xs) (.int i) P := ⟨_, atI_nat h, q⟩
theorem ix_dI {xs : List Int} {i : Nat} {P : PyData → Prop} (h : i < xs.length) (q : P (.int (M.at_ xs i))) : fIx (dI xs) (.int i) P := ix_t (d := .int (M.at_ xs i)) (by
  rw [List.getElem?_map, List.getElem?_eq_getElem h]
  unfold M.at_
  rw [List.getD_eq_getElem?_getD, List.getElem?_eq_getElem h]
  rfl) q
theorem ix_lI {xs : List Int} {i : Nat} {P : PyData → Prop} (h : i < xs.length) (q : P (.int (M.at_ xs i))) : fIx (lI xs) (.int i) P := ix_l (d := .int (M.at_ xs i)) (by
  rw [List.getElem?_map, List.getElem?_eq_getElem h]
  unfold M.at_
  rw [List.getD_eq_getElem?_getD, List.getElem?_eq_getElem h]
  rfl) q
theorem zipI (xs ys : List Int) : List.zipWith (fun d e => PyData.tuple [d, e]) (xs.map PyData.int) (ys.map PyData.int) = (xs.zip ys).map fun z => .tuple [.int z.1, .int z.2] := by
  induction xs generalizing ys with
  | nil => rfl
  | cons x xs ih => cases ys with
    | nil => rfl
    | cons y ys => simp [ih]
theorem rep0 (n : Nat) : (List.replicate ((n : Int)).toNat [PyData.int 0]).flatten = (M.zer n).map PyData.int := by
  rw [show ((n : Int)).toNat = n by omega]
  unfold M.zer
  induction n with
  | zero => rfl
  | succ n ih => rw [List.replicate_succ, List.flatten_cons, ih, List.replicate_succ]; rfl
theorem map_zip_less {p k : Int} : ∀ xs ys : List Int, (xs.zip ys).map (fun z => (z.1 - k * z.2).fmod p) = M.less p xs k ys
  | [], _ => rfl
  | _ :: _, [] => rfl
  | x :: xs, y :: ys => by
    show _ :: (xs.zip ys).map _ = _ :: M.less p xs k ys
    rw [map_zip_less xs ys]
theorem bnd {p : Int} {x : List Int} (hp : 0 < p) (h10 : p < 10) (h : M.Red p x) {a : Int} (ha : a ∈ x) : 0 ≤ a ∧ a < 10 := by have := h a ha; omega
section
variable {P : Program} {w : World} {K : PySem.W.Frag} {mg : Str → Option Value} {base : Heap} {k : Nat}
def a_empty_sum : AF := fun as Q => ∃ p n, as = [.d (hD p n)] ∧ HouseOk p n ∧ Q (dI (M.zer n)) as
def a_added : AF := fun as Q => ∃ p n x y, as = [.d (hD p n), .d (dI x), .d (dI y)] ∧ HouseOk p n ∧ x.length ≤ 1000 ∧ Q (dI (M.less p x (-1) y)) as
def a_times : AF := fun as Q => ∃ p n k x, as = [.d (hD p n), .d (.int k), .d (dI x)] ∧ HouseOk p n ∧ (-1000000 ≤ k ∧ k ≤ 1000000) ∧ x.length ≤ 1000 ∧ Q (dI (M.tms p k x)) as
end
theorem at_lessE {p k : Int} {x y : List Int} {i : Nat} (hx : i < x.length) (hy : i < y.length) : M.at_ (M.less p x k y) i = (M.at_ x i - k * M.at_ y i).fmod p := by
  unfold M.at_ M.less
  rw [List.getD_eq_getElem?_getD, List.getD_eq_getElem?_getD, List.getD_eq_getElem?_getD, List.getElem?_zipWith, List.getElem?_eq_getElem hx, List.getElem?_eq_getElem hy]
  rfl
theorem less_tms {p k : Int} (hp : 0 < p) : ∀ x y : List Int, M.less p x (-1) (M.tms p k y) = M.less p x (-k) y
  | [], _ => by simp [M.less]
  | _ :: _, [] => by simp [M.less, M.tms]
  | a :: x, b :: y => by
    have ih := less_tms hp (k := k) x y
    unfold M.less M.tms at ih ⊢
    simp only [List.map_cons, List.zipWith_cons_cons, ih]
    congr 1
    refine M.fm_eq hp ?_
    obtain ⟨c, hc⟩ := M.fm_dvd p (k * b)
    exact ⟨c, by grind⟩
theorem zip_mul : ∀ x y : List Int, (x.zip y).map (fun z => PyData.int (z.1 * z.2)) = (List.zipWith (· * ·) x y).map PyData.int
  | [], _ => rfl
  | _ :: _, [] => rfl
  | a :: x, b :: y => by
    show _ :: (x.zip y).map _ = _ :: _
    rw [zip_mul x y]
theorem zipR (rows : List M.Row) (ns : List Int) : List.zipWith (fun d e => PyData.tuple [d, e]) (rows.map rD) (ns.map PyData.int) = (rows.zip ns).map fun z => .tuple [rD z.1, .int z.2] := by
  induction rows generalizing ns with
  | nil => rfl
  | cons x xs ih => cases ns with
    | nil => rfl
    | cons y ys => simp [ih]
theorem cut_drop (xs : List PyData) (k : Nat) : cutD xs (some (k : Int)) none = xs.drop k := by
  unfold cutD
  rw [HT.sIx_nat, HT.sIx_none]
  by_cases h : k ≤ xs.length
  · rw [Nat.min_eq_left h]
    exact List.take_of_length_le (by rw [List.length_drop]; omega)
  · rw [Nat.min_eq_right (by omega), List.drop_length, List.drop_eq_nil_of_le (by omega : xs.length ≤ k)]
    exact List.take_nil
theorem cut_take (xs : List PyData) (k : Nat) : cutD xs none (some (k : Int)) = xs.take k := by
  unfold cutD
  rw [HT.sIx_nat, HT.sIx_none, List.drop_zero, Nat.sub_zero]
  by_cases h : k ≤ xs.length
  · rw [Nat.min_eq_left h]
  · rw [Nat.min_eq_right (by omega), List.take_length, List.take_of_length_le (by omega : xs.length ≤ k)]
theorem pl_int (i : Int) : Pl (.int i) := ⟨by unfold SeqAt.shaped; simp [PyData.canLay0, PyData.depth], by simp [PyData.hasDict]⟩
theorem eqv_int (i j : Int) : PyData.eqv (.int i) (.int j) = decide (i = j) := by
  rw [PyData.eqv]
  by_cases h : i = j <;> simp [h]
/-- all of a fold over rows and numbers, the total behind the sum -/
def mb (p : Int) : M.Vc → List (M.Row × Int) → M.Vc
  | y, [] => y
  | y, z :: zs => mb p (M.less p y (-z.2) (z.1.1 ++ [z.1.2])) zs
section
variable {P : Program} {w : World} {K : PySem.W.Frag} {mg : Str → Option Value} {base : Heap} {k : Nat}
def a_comes_to : AF := fun as Q => ∃ p n x y, as = [.d (hD p n), .d (dI y), .d (dI x)] ∧ HouseOk p n ∧ (∀ a ∈ x, 0 ≤ a ∧ a < 10) ∧ x.length ≤ 1000 ∧ Q (.int ((M.dotp x y).fmod p)) as
def a__combination : AF := fun as Q => ∃ p n y, as = [.d (hD p n), .d (dI y)] ∧ Q (dI (y.drop (n + 1))) as
def a__less : AF := fun as Q => ∃ p n x k y, as = [.d (hD p n), .d (dI x), .d (.int k), .d (dI y)] ∧ HouseOk p n ∧ (-1000000 ≤ k ∧ k ≤ 1000000) ∧ x.length ≤ 1000 ∧ Q (dI (M.less p x k y)) as
def a__lead_of : AF := fun as Q => ∃ p n y, as = [.d (hD p n), .d (dI y)] ∧ HouseOk p n ∧ n ≤ y.length ∧ Q (match M.leadOf n y with | none => .none | some l => .int l) as
def a__inverse : AF := fun as Q => ∃ p n a, as = [.d (hD p n), .d (.int a)] ∧ HouseOk p n ∧ 0 < a ∧ a < p ∧ Q (.int (M.invOf p a)) as
def a__line_of : AF := fun as Q => ∃ rows i r, as = [.d (rsD rows), .d (.int (i : Nat))] ∧ rows[i]? = some r ∧ rows.length ≤ 100 ∧ r.1.length ≤ 100 ∧ Q (dI (M.lineOf rows.length i r)) as
end
def kvD (q : Nat × M.Vc) : PyData × PyData := (.int (q.1 : Nat), dI q.2)
def eD (E : M.Lds) : PyData := .dict (E.map kvD)
def sD (S : List M.Vc) : PyData := .list (S.map dI)
theorem look_mem : ∀ {E : M.Lds} {q : Nat × M.Vc}, q ∈ E → (E.map (·.1)).Nodup → lookD (E.map kvD) (.inl (q.1 : Int)) = some (dI q.2)
  | (l, v) :: E, q, h, nd => by
    have nd := List.nodup_cons.mp (by simpa using nd : (l :: E.map (·.1)).Nodup)
    rw [List.map_cons]
    unfold lookD
    rcases List.mem_cons.mp h with e | h
    · subst e
      exact if_pos (by simp [kvD, keyIs'])
    · have ne : l ≠ q.1 := fun e => nd.1 (by rw [e]; exact List.mem_map.mpr ⟨q, h, rfl⟩)
      show (if keyIs' (.int (l : Nat)) (.inl (q.1 : Int)) = true then _ else _) = _
      rw [if_neg (by simp [keyIs']; omega)]
      exact look_mem h nd.2
theorem look_none : ∀ {E : M.Lds} {k : Nat}, E.lookup k = none → lookD (E.map kvD) (.inl (k : Int)) = none
  | [], _, _ => rfl
  | (l, v) :: E, k, h => by
    rw [List.lookup_cons] at h
    rw [List.map_cons]
    unfold lookD
    by_cases e : k = l
    · subst e; simp at h
    · have : (k == l) = false := by simpa using e
      rw [this] at h
      show (if keyIs' (.int (l : Nat)) (.inl (k : Int)) = true then _ else _) = _
      rw [if_neg (by simp [keyIs']; omega)]
      exact look_none h
section
variable {P : Program} {w : World} {K : PySem.W.Frag} {mg : Str → Option Value} {base : Heap} {k : Nat}
def a_made_by : AF := fun as Q => ∃ p n rows ns, as = [.d (hD p n), .d (rsD rows), .d (dI ns)] ∧ HouseOk p n ∧ M.RowsOk p n rows ∧ (∀ a ∈ ns, 0 ≤ a ∧ a < p) ∧ rows.length ≤ 100 ∧
  Q (.tuple [dI ((mb p (M.zer (n + 1)) (rows.zip ns)).take n), .int (M.at_ (mb p (M.zer (n + 1)) (rows.zip ns)) n)]) as
def Ldk (p : Int) (N n : Nat) (E : M.Lds) : Prop := M.Lens N E ∧ (E.map (·.1)).Nodup ∧ (∀ q ∈ E, q.1 < n) ∧ ∀ q ∈ E, M.Red p q.2
def a__cleared : AF := fun as Q => ∃ p n y E N, as = [.d (hD p n), .d (dI y), .d (eD E)] ∧ HouseOk p n ∧ Ldk p N n E ∧ y.length = N ∧ n ≤ N ∧ N ≤ 1000 ∧ M.Red p y ∧ Q (dI (M.red p E y)) as
end
theorem look_app : ∀ {xs : List (PyData × PyData)} {k : Key} {a b : PyData}, lookD xs k = none → keyIs' a k = false → lookD (xs ++ [(a, b)]) k = none
  | [], k, a, b, _, h => by
    show (if keyIs' a k = true then some b else lookD [] k) = none
    rw [h]; rfl
  | (x, y) :: xs, k, a, b, h1, h2 => by
    have h1' : (if keyIs' x k = true then some y else lookD xs k) = none := h1
    show (if keyIs' x k = true then some y else lookD (xs ++ [(a, b)]) k) = none
    by_cases c : keyIs' x k = true
    · rw [if_pos c] at h1'; cases h1'
    · rw [if_neg c] at h1' ⊢
      exact look_app h1' h2
theorem put_new {xs : List (PyData × PyData)} {i : Int} {d : PyData} (h : lookD xs (.inl i) = none) : putD xs (.inl i) d = xs ++ [(.int i, d)] := by
  unfold putD
  rw [h]
  rfl
section
variable {α : Type} {g : AG} {t : AT} {ek ev : AE} {vs : List Nat} {Q : List (PyData × PyData) → Sls → Prop} {sl0 : Sls}
theorem dc_map {h f : α → PyData} {kf : α → Int} (h1 : unS sl0 vs = sl0) : ∀ {zs : List α} {sl : Sls} {acc : List (PyData × PyData)}, unS sl vs = sl0 →
    (∀ z ∈ zs, ∀ (Y : PyData → PyData → Sls → Prop) (Z : Sls → Prop), (∀ sl', unS sl' vs = sl0 → Y (.int (kf z)) (f z) sl') → g (h z) sl0 fun sl2 => (true = true → ek sl2 fun y sl4 => ev sl4 fun x sl5 => Y y x sl5) ∧ (true = false → Z sl2)) →
    acc.length + zs.length ≤ 100000 → (∀ z ∈ zs, lookD acc (.inl (kf z)) = none) → (zs.map kf).Nodup → Q (acc ++ zs.map fun z => (.int (kf z), f z)) sl0 → dcR g aYes ek ev vs Q (zs.map h) sl acc
  | [], sl, acc, hs, _, _, _, _, q => by
    rw [List.map_nil, List.append_nil] at q
    show Q acc (unS sl vs)
    rw [hs]; exact q
  | z :: zs, sl, acc, hs, st, hz, hk, nd, q => by
    have hz' : acc.length + (zs.length + 1) ≤ 100000 := hz
    have nd' := List.nodup_cons.mp (by simpa using nd : (kf z :: zs.map kf).Nodup)
    have fresh := hk z (List.mem_cons_self ..)
    show g (h z) (unS sl vs) fun sl2 => (true = true → _) ∧ (true = false → _)
    rw [hs]
    refine st z (List.mem_cons_self ..) (fun y x sl5 => ∃ k, keyOf y = some k ∧ acc.length < sizeLine ∧ dcR g aYes ek ev vs Q (zs.map h) (unS sl5 vs) (putD acc k x)) _ fun sl' hs' => ⟨.inl (kf z), rfl, by unfold sizeLine; omega, ?_⟩
    rw [put_new fresh]
    refine dc_map h1 (by rw [hs', h1]) (fun z' hz' => st z' (List.mem_cons_of_mem _ hz')) (by rw [List.length_append, List.length_singleton]; omega) (fun z' h' => look_app (hk z' (List.mem_cons_of_mem _ h')) ?_) nd'.2 ?_
    · have ne : kf z ≠ kf z' := fun e => nd'.1 (by rw [e]; exact List.mem_map.mpr ⟨z', h', rfl⟩)
      simp [keyIs', ne]
    · rw [List.append_assoc]; exact q
end
theorem linesFrom_get {m : Nat} : ∀ {i j : Nat} {rows : List M.Row}, (M.linesFrom m i rows)[j]? = (rows[j]?).map (M.lineOf m (i + j))
  | i, j, [] => by simp [M.linesFrom]
  | i, 0, r :: rs => by simp [M.linesFrom]
  | i, j + 1, r :: rs => by
    show (M.linesFrom m (i + 1) rs)[j]? = (rs[j]?).map _
    rw [linesFrom_get, show i + 1 + j = i + (j + 1) by omega]
theorem lines_eq (rows : List M.Row) : M.lines rows = (List.range rows.length).map fun i => M.lineOf rows.length i (rows.getD i ([], 0)) := by
  refine List.ext_getElem? fun j => ?_
  unfold M.lines
  rw [linesFrom_get, List.getElem?_map, Nat.zero_add]
  by_cases h : j < rows.length
  · rw [List.getElem?_eq_getElem h, List.getElem?_range h]
    simp only [Option.map_some]
    rw [List.getD_eq_getElem?_getD, List.getElem?_eq_getElem h]
    rfl
  · rw [List.getElem?_eq_none (by omega), List.getElem?_eq_none (by rw [List.length_range]; omega)]
    rfl
theorem key_nodup {E : M.Lds} (h : (E.map (·.1)).Nodup) : (E.map fun q => (q.1 : Int)).Nodup := by
  have : (E.map fun q => (q.1 : Int)) = (E.map (·.1)).map fun i : Nat => (i : Int) := by rw [List.map_map]; rfl
  rw [this]
  exact List.Pairwise.map _ (fun a b hab c => hab (by omega)) h
section
variable {P : Program} {w : World} {K : PySem.W.Frag} {mg : Str → Option Value} {base : Heap} {k : Nat}
def a__sifted : AF := fun as Q => ∃ p n rows, as = [.d (hD p n), .d (rsD rows)] ∧ HouseOk p n ∧ M.RowsOk p n rows ∧ rows.length ≤ 90 ∧ Q (.tuple [eD (M.sift p n (M.lines rows)).1, sD (M.sift p n (M.lines rows)).2]) as
end
theorem lay_ints : ∀ xs : List Int, PyData.canLayAll0 (xs.map PyData.int) = true ∧ PyData.depthAll (xs.map PyData.int) = 0 ∧ PyData.hasDictAll (xs.map PyData.int) = false
  | [] => by simp [PyData.canLayAll0, PyData.depthAll, PyData.hasDictAll]
  | x :: xs => by
    obtain ⟨h1, h2, h3⟩ := lay_ints xs
    simp [PyData.canLayAll0, PyData.depthAll, PyData.hasDictAll, PyData.canLay0, PyData.depth, PyData.hasDict, h1, h2, h3]
theorem pl_dI (xs : List Int) : Pl (dI xs) := by
  obtain ⟨h1, h2, h3⟩ := lay_ints xs
  refine ⟨?_, ?_⟩
  · unfold SeqAt.shaped dI
    simp [PyData.canLay0, PyData.depth, h1, h2]
  · unfold dI
    simp [PyData.hasDict, h3]
theorem pl_lI (xs : List Int) : Pl (lI xs) := by
  obtain ⟨h1, h2, h3⟩ := lay_ints xs
  refine ⟨?_, ?_⟩
  · unfold SeqAt.shaped lI
    simp [PyData.canLay0, PyData.depth, h1, h2]
  · unfold lI
    simp [PyData.hasDict, h3]
theorem eqv_ints : ∀ xs ys : List Int, PyData.eqvAll (xs.map PyData.int) (ys.map PyData.int) = decide (xs = ys)
  | [], [] => by simp [PyData.eqvAll]
  | [], _ :: _ => by simp [PyData.eqvAll]
  | _ :: _, [] => by simp [PyData.eqvAll]
  | x :: xs, y :: ys => by
    rw [List.map_cons, List.map_cons, PyData.eqvAll, eqv_int, eqv_ints xs ys]
    by_cases h : x = y <;> simp [h]
theorem eqv_dI (xs ys : List Int) : PyData.eqv (dI xs) (dI ys) = decide (xs = ys) := by unfold dI; rw [PyData.eqv, eqv_ints]
theorem eqv_lI (xs ys : List Int) : PyData.eqv (lI xs) (lI ys) = decide (xs = ys) := by unfold lI; rw [PyData.eqv, eqv_ints]
theorem take_zero {n : Nat} {y : List Int} (h : n ≤ y.length) : y.take n = M.zer n ↔ M.leadOf n y = none := by
  rw [M.lead_none]
  refine ⟨fun e t ht => ?_, fun z => M.ext_at (N := n) (by rw [List.length_take]; omega) M.zer_len fun i hi => by rw [M.at_take hi, z i hi, M.at_zer]⟩
  rw [← M.at_take ht, e, M.at_zer]
theorem tms_neg {p : Int} (hp : 0 < p) (y : List Int) : M.tms p (p - 1) y = M.tms p (-1) y := by
  unfold M.tms
  refine List.map_congr_left fun a _ => M.fm_eq hp ⟨a, by grind⟩
theorem cut_drop1 (xs : List PyData) : cutD xs (some 1) none = xs.drop 1 := cut_drop xs 1
theorem sift_len {p : Int} {n : Nat} (rows : List M.Row) : (M.sift p n (M.lines rows)).2.length ≤ rows.length := by
  have h : ∀ (Ls : List M.Vc) (E : M.Lds) (S : List M.Vc), (Ls.foldl (M.step p n) (E, S)).2.length ≤ S.length + Ls.length := by
    intro Ls
    induction Ls with
    | nil => intro E S; exact Nat.le_refl _
    | cons L Ls ih =>
      intro E S
      rw [List.foldl_cons]
      cases hl : M.leadOf n (M.red p E L) with
      | none => rw [M.step_none hl]; have := ih E (S ++ [M.red p E L]); rw [List.length_append, List.length_singleton] at this; rw [List.length_cons]; omega
      | some l => rw [M.step_some hl, List.length_cons]; exact Nat.le_trans (ih _ S) (by omega)
  have := h (M.lines rows) [] []
  rw [lines_eq, List.length_map, List.length_range, List.length_nil] at this
  unfold M.sift
  rw [lines_eq]
  omega
section
variable {P : Program} {w : World} {K : PySem.W.Frag} {mg : Str → Option Value} {base : Heap} {k : Nat}
def spentD (n : Nat) : List M.Vc → PyData
  | [] => .none
  | s :: _ => dI (s.drop (n + 1))
def a_dependence : AF := fun as Q => ∃ p n rows, as = [.d (hD p n), .d (rsD rows)] ∧ HouseOk p n ∧ M.RowsOk p n rows ∧ rows.length ≤ 90 ∧ Q (spentD n (M.sift p n (M.lines rows)).2) as
def a_are_independent : AF := fun as Q => ∃ p n rows, as = [.d (hD p n), .d (rsD rows)] ∧ HouseOk p n ∧ M.RowsOk p n rows ∧ rows.length ≤ 90 ∧ Q (.bool (M.sift p n (M.lines rows)).2.isEmpty) as
def a_given_by : AF := fun as Q => ∃ p n rows x, as = [.d (hD p n), .d (rsD rows), .d (dI x)] ∧ HouseOk p n ∧ M.RowsOk p n rows ∧ rows.length ≤ 90 ∧ x.length = n ∧ M.Red p x ∧ Q (oD (M.givenC p n rows x)) as
def wD : Option M.Vc → PyData
  | none => .none
  | some w => dI w
def a_world_of : AF := fun as Q => ∃ p n rows, as = [.d (hD p n), .d (rsD rows)] ∧ HouseOk p n ∧ M.RowsOk p n rows ∧ rows.length ≤ 90 ∧ Q (wD (M.worldC p n rows)) as
def a_parting_of : AF := fun as Q => ∃ p n rows x, as = [.d (hD p n), .d (rsD rows), .d (dI x)] ∧ HouseOk p n ∧ M.RowsOk p n rows ∧ rows.length ≤ 80 ∧ x.length = n ∧ M.Red p x ∧ Q (wD (M.worldC p n (M.quiet rows x))) as
end
theorem seq_I {s rest : AS} {P : Post} {sl : Sls} (I : Sls → Prop) (h1 : ∀ R : Sls → Prop, (∀ sl', I sl' → R sl') → s { P with nx := R } sl) (h2 : ∀ sl', I sl' → rest P sl') : aSeq s rest P sl := h1 _ h2
def bagL (a b c : Int) (cells : List Int) : List PyData := [.int a, .int b, .int c, lI cells]
structure Bg (a b c : Int) (cells : List Int) : Prop where
  a0 : 0 ≤ a
  b0 : 0 ≤ b
  b1 : b < 2147483647
  c0 : 0 ≤ c
  len : cells.length ≤ 63
  pos : ∀ x ∈ cells, 0 ≤ x
def BagOk (l : Addr) (s : Slot) : Prop := ∃ a b c cells, s = .m l (bagL a b c cells) ∧ Bg a b c cells
theorem finS_m {l : Addr} {xs ys : List PyData} {as sl : Sls} : finS (.m l xs :: as) (.m l ys :: sl) = .m l ys :: finS as sl := by
  show (if l = l then Slot.m l ys else .un) :: finS as sl = _
  rw [if_pos rfl]
def absI (i : Int) : Int := if i < 0 then -i else i
theorem ixn {n : Nat} {i : Nat} (h : i < n) : ixN n (i : Int) = some i := by
  unfold ixN
  rw [if_pos (by omega), if_pos (by omega)]
  simp
section
variable {P : Program} {w : World} {K : PySem.W.Frag} {mg : Str → Option Value} {base : Heap} {k : Nat}
def a__law_bag : AFn := fun ds Q => ∃ ns, ds = [lI ns] ∧ ns.length ≤ 63 ∧ ∀ cells, Bg 0 1234567891 0 cells → Q (bagL 0 1234567891 0 cells)
def a__law_take : AF := fun as Q => ∃ l s many, as = [s, .d (.int many)] ∧ BagOk l s ∧ 0 < many ∧ many < 1000000 ∧ ∀ v s', BagOk l s' → 0 ≤ v → v < many → Q (.int v) [s', .d (.int many)]
end
section
variable {α : Type} {g : AG} {s : AS} {P : Post}
theorem forO_inv {i : Nat} {l : Addr} {xs : List PyData} {h : α → PyData} (I : List α → Sls → Prop) (own : ∀ zs sl, I zs sl → sl[i]? = some (.m l xs)) (stop : ∀ sl, I [] sl → P.nx sl)
    (step : ∀ z zs sl (R : Sls → Prop), I (z :: zs) sl → (∀ sl', I zs sl' → R sl') → g (h z) sl fun sl2 => s { nx := R, rt := P.rt, bk := P.nx, ct := R } sl2) : ∀ {zs : List α} {sl : Sls}, I zs sl → forO i l xs g s P (zs.map h) sl
  | [], sl, c => ⟨own _ _ c, stop sl c⟩
  | z :: zs, sl, c => ⟨own _ _ c, step z zs sl _ c fun sl' c' => forO_inv I own stop step c'⟩
end
def fD (q : Nat × M.Vc) : PyData := .tuple [.int (q.1 : Nat), lI q.2]
theorem rest_eq (a p : Int) : a - a.fdiv p * p = a.fmod p := by
  have := Int.mul_fdiv_add_fmod a p
  grind
section
variable {P : Program} {w : World} {K : PySem.W.Frag} {mg : Str → Option Value} {base : Heap} {k : Nat}
def Things (t : Slot) (xs : List PyData) : Prop := t = .d (.list xs) ∨ t = .d (.tuple xs) ∨ ∃ l, t = .m l xs
def a__law_one : AF := fun as Q => ∃ l s t xs, as = [s, t] ∧ BagOk l s ∧ Things t xs ∧ 0 < xs.length ∧ xs.length < 100000 ∧ ∀ d s', BagOk l s' → d ∈ xs → Q d [s', t]
def a__law_rest : AF := fun as Q => ∃ a p, as = [.d (.int a), .d (.int p)] ∧ 0 < p ∧ p < 10 ∧ Q (.int (a.fmod p)) as
def a__law_inverse : AF := fun as Q => ∃ p a, as = [.d (.int p), .d (.int a)] ∧ M.Pr p ∧ p < 10 ∧ 0 < a ∧ a < p ∧ Q (.int (M.invOf p a)) as
def a__law_plus : AF := fun as Q => ∃ p n x xs k y ys, as = [.d (hD p n), .d x, .d (.int k), .d y] ∧ HouseOk p n ∧ seqD x = some (xs.map PyData.int) ∧ seqD y = some (ys.map PyData.int) ∧ (-1000000 ≤ k ∧ k ≤ 1000000) ∧ xs.length ≤ 1000 ∧ Q (lI (M.less p xs (-k) ys)) as
def a__law_flat : AF := fun as Q => ∃ r m i, as = [.d (rD r), .d (.int (m : Nat)), .d (.int (i : Nat))] ∧ m ≤ 100 ∧ r.1.length ≤ 100 ∧ Q (lI (M.lineOf m i r)) as
def a__law_comes_to : AF := fun as Q => ∃ p n x y, as = [.d (hD p n), .d (dI y), .d (dI x)] ∧ HouseOk p n ∧ (∀ a ∈ x, 0 ≤ a ∧ a < 10) ∧ x.length ≤ 1000 ∧ Q (.int ((M.dotp x y).fmod p)) as
end
theorem enD_range : ∀ (rows : List M.Row) (i : Nat), enD i (rows.map rD) = (List.range' i rows.length).map fun j => .tuple [.int (j : Nat), rD (rows.getD (j - i) ([], 0))]
  | [], i => rfl
  | r :: rs, i => by
    rw [List.map_cons, enD, enD_range rs (i + 1), List.length_cons, List.range'_succ, List.map_cons, Nat.sub_self]
    congr 1
    refine List.map_congr_left fun j hj => ?_
    have := List.mem_range'_1.mp hj
    rw [show j - i = (j - (i + 1)) + 1 by omega]
    rfl
theorem places_head {n : Nat} {y : M.Vc} : ((List.range n).filter fun i => decide (M.at_ y i ≠ 0)).head? = M.leadOf n y := by
  unfold M.leadOf
  rw [List.head?_filter]
theorem places_none {n : Nat} {y : M.Vc} (h : M.leadOf n y = none) : (List.range n).filter (fun i => decide (M.at_ y i ≠ 0)) = [] := by
  have := places_head (n := n) (y := y)
  rw [h] at this
  exact List.head?_eq_none_iff.mp this
theorem places_some {n : Nat} {y : M.Vc} {l : Nat} (h : M.leadOf n y = some l) : ∃ r, (List.range n).filter (fun i => decide (M.at_ y i ≠ 0)) = l :: r := by
  have := places_head (n := n) (y := y)
  rw [h] at this
  cases e : (List.range n).filter fun i => decide (M.at_ y i ≠ 0) with
  | nil => rw [e] at this; cases this
  | cons a r => rw [e] at this; cases this; exact ⟨r, rfl⟩
theorem rng0 (n : Nat) : rgD 0 n = (List.range n).map fun i : Nat => PyData.int (i : Nat) := by
  unfold rgD
  refine List.map_congr_left fun i _ => by rw [Int.zero_add]
def vD : Option M.Vc → PyData
  | none => .none
  | some v => dI v
section
variable {P : Program} {w : World} {K : PySem.W.Frag} {mg : Str → Option Value} {base : Heap} {k : Nat}
def a__law_echelon : AF := fun as Q => ∃ p n rows t, as = [.d (hD p n), .d t] ∧ HouseOk p n ∧ seqD t = some (rows.map rD) ∧ M.RowsOk p n rows ∧ rows.length ≤ 90 ∧ Q (.tuple [.list ((M.ech p n [] (M.lines rows)).1.map fD), vD (M.ech p n [] (M.lines rows)).2]) as
theorem fLen_seq {t : PyData} {ds : List PyData} {P : PyData → Prop} (h : seqD t = some ds) (q : P (.int ds.length)) : fLen [t] P := by
  cases t <;> simp [seqD] at h <;> subst h <;> exact q
end
theorem noL_ints : ∀ xs : List Int, noLs (xs.map PyData.int) = true
  | [] => by simp [noLs]
  | x :: xs => by simp [noLs, noL, noL_ints xs]
theorem noL_oD (o : Option (Int × M.Vc)) : noL (oD o) = true := by
  cases o with
  | none => simp [oD, noL]
  | some q => obtain ⟨a, v⟩ := q; simp [oD, noL, noLs, dI, noL_ints]
/-- the basis, and whether the others keep it -/
def bp (p : Int) (n : Nat) (s : List M.Row × Bool) (r : M.Row) : List M.Row × Bool := match M.givenL p n s.1 r.1 with
  | none => (s.1 ++ [r], s.2)
  | some q => (s.1, s.2 && decide (q.1 = r.2))
def bpL (p : Int) (n : Nat) (rows : List M.Row) : List M.Row × Bool := rows.foldl (bp p n) ([], true)
theorem bp_fst {p : Int} {n : Nat} : ∀ (rows : List M.Row) (s : List M.Row × Bool), (rows.foldl (bp p n) s).1 = rows.foldl (M.bstep p n) s.1
  | [], _ => rfl
  | r :: rs, s => by
    rw [List.foldl_cons, List.foldl_cons, bp_fst rs]
    congr 1
    unfold bp M.bstep
    cases h : M.givenL p n s.1 r.1 with
    | none => rfl
    | some q => rfl
theorem bpL_fst {p : Int} {n : Nat} (rows : List M.Row) : (bpL p n rows).1 = M.basisL p n rows := bp_fst rows _
section
variable {P : Program} {w : World} {K : PySem.W.Frag} {mg : Str → Option Value} {base : Heap} {k : Nat}
def a__law_given : AF := fun as Q => ∃ p n rows t x, as = [.d (hD p n), .d t, .d (dI x)] ∧ HouseOk p n ∧ seqD t = some (rows.map rD) ∧ M.RowsOk p n rows ∧ M.Ind p n (rows.map (·.1)) ∧ rows.length ≤ 90 ∧ x.length = n ∧ M.Red p x ∧ Q (oD (M.givenL p n rows x)) as
def a__law_made_by : AF := fun as Q => ∃ p n rows ns, as = [.d (hD p n), .d (rsD rows), .d (dI ns)] ∧ HouseOk p n ∧ M.RowsOk p n rows ∧ (∀ a ∈ ns, 0 ≤ a ∧ a < p) ∧ rows.length ≤ 100 ∧
  Q (.tuple [dI ((mb p (M.zer (n + 1)) (rows.zip ns)).take n), .int (M.at_ (mb p (M.zer (n + 1)) (rows.zip ns)) n)]) as
theorem mb_len {p : Int} {n : Nat} : ∀ {zs : List (M.Row × Int)} {y : M.Vc}, y.length = n + 1 → (∀ z ∈ zs, z.1.1.length = n) → (mb p y zs).length = n + 1
  | [], _, h, _ => h
  | z :: zs, y, h, hz => mb_len (zs := zs) (M.less_len h (by rw [List.length_append, hz z (List.mem_cons_self ..)]; rfl)) fun z' h' => hz z' (List.mem_cons_of_mem _ h')
def a__law_is_int : AF := fun as Q => ∃ i, as = [.d (.int i)] ∧ Q (.bool true) as
def a__law_are_numbers : AF := fun as Q => ∃ p n m w, as = [.d (hD p n), .d (.int (m : Nat)), .d (dI w)] ∧ HouseOk p n ∧ w.length = m ∧ w.length ≤ 1000 ∧ M.Red p w ∧ Q (.bool true) as
theorem hasDict_dI (w : List Int) : (dI w).hasDict = false := (pl_dI w).2
def a__law_is_parting : AF := fun as Q => ∃ p n rows x w, as = [.d (hD p n), .d (rsD rows), .d (dI x), .d (dI w)] ∧ HouseOk p n ∧ M.RowsOk p n rows ∧ rows.length ≤ 90 ∧ x.length = n ∧ M.Red p x ∧ w.length = n ∧ M.Red p w ∧ (∀ r ∈ rows, (M.dotp r.1 w).fmod p = 0) ∧ (M.dotp x w).fmod p ≠ 0 ∧ Q (.bool true) as
def a__law_basis : AF := fun as Q => ∃ p n rows, as = [.d (hD p n), .d (rsD rows)] ∧ HouseOk p n ∧ M.RowsOk p n rows ∧ rows.length ≤ 80 ∧ Q (.tuple [.list ((bpL p n rows).1.map rD), .bool (bpL p n rows).2]) as
end
theorem unS_get : ∀ {vs : List Nat} {sl : Sls} {i : Nat}, (unS sl vs)[i]? = if i ∈ vs then (sl[i]?).map (fun _ => Slot.un) else sl[i]?
  | [], sl, i => by simp [unS]
  | v :: vs, sl, i => by
    show ((unS sl vs).set v .un)[i]? = _
    rw [List.getElem?_set]
    by_cases e : v = i
    · subst e
      rw [if_pos rfl, if_pos (List.mem_cons_self ..)]
      by_cases h : v < (unS sl vs).length
      · rw [if_pos h]
        have := unS_get (vs := vs) (sl := sl) (i := v)
        rw [List.getElem?_eq_getElem h] at this
        cases e2 : sl[v]? with
        | none => rw [e2] at this; split at this <;> cases this
        | some x => rfl
      · rw [if_neg h]
        have := unS_get (vs := vs) (sl := sl) (i := v)
        rw [List.getElem?_eq_none (by omega)] at this
        cases e2 : sl[v]? with
        | none => rfl
        | some x => rw [e2] at this; split at this <;> cases this
    · rw [if_neg e, unS_get (vs := vs)]
      have : (i ∈ v :: vs) ↔ (i ∈ vs) := by rw [List.mem_cons]; exact ⟨fun h => h.resolve_left fun x => e x.symm, .inr⟩
      by_cases m : i ∈ vs
      · rw [if_pos m, if_pos (this.mpr m)]
      · rw [if_neg m, if_neg fun h => m (this.mp h)]
theorem unS_idem (sl : Sls) (vs : List Nat) : unS (unS sl vs) vs = unS sl vs := by
  refine List.ext_getElem? fun i => ?_
  rw [unS_get, unS_get]
  by_cases m : i ∈ vs
  · rw [if_pos m, if_pos m]
    cases sl[i]? <;> rfl
  · rw [if_neg m, if_neg m]
section
variable {α : Type} {g : AG} {e : AE} {vs : List Nat} {Q : List PyData → Sls → Prop}
theorem lc_rel {h : α → PyData} (I : Sls → Prop) (Ed : PyData → Prop) : ∀ {zs : List α} {sl : Sls} {acc : List PyData},
    (∀ z ∈ zs, ∀ sl, I sl → unS sl vs = sl → ∀ (Y : PyData → Sls → Prop) (Z : Sls → Prop), (∀ sl' d, I (unS sl' vs) → Ed d → Y d sl') → g (h z) sl fun sl2 => (true = true → e sl2 Y) ∧ (true = false → Z sl2)) →
    I (unS sl vs) → (∀ d ∈ acc, Ed d) → acc.length + zs.length ≤ 100000 → (∀ ds sl', I sl' → ds.length = acc.length + zs.length → (∀ d ∈ ds, Ed d) → Q ds sl') → lcR g aYes e vs Q (zs.map h) sl acc
  | [], sl, acc, _, i, ha, _, q => q acc _ i (by simp) ha
  | z :: zs, sl, acc, st, i, ha, hz, q => by
    have hz' : acc.length + (zs.length + 1) ≤ 100000 := hz
    refine st z (List.mem_cons_self ..) (unS sl vs) i (unS_idem sl vs) (fun y sl4 => acc.length < sizeLine ∧ lcR g aYes e vs Q (zs.map h) (unS sl4 vs) (acc ++ [y])) _ fun sl' d i' hd => ⟨by unfold sizeLine; omega, ?_⟩
    refine lc_rel I Ed (fun z' h' => st z' (List.mem_cons_of_mem _ h')) (by rw [unS_idem]; exact i') (fun d' h' => ?_) (by rw [List.length_append, List.length_singleton]; omega) fun ds sl'' i'' hl hd' => q ds sl'' i'' (by rw [hl, List.length_append, List.length_singleton, List.length_cons]; omega) hd'
    rcases List.mem_append.mp h' with h' | h'
    · exact ha d' h'
    · rw [List.mem_singleton.mp h']; exact hd
end
theorem BagOk.addr {l : Addr} {s : Slot} (h : BagOk l s) : s.addr = some l := by
  obtain ⟨a, b, c, cells, rfl, _⟩ := h
  rfl
theorem finS_bag {l : Addr} {s s' : Slot} {as sl : Sls} (h : BagOk l s) (h' : BagOk l s') : finS (s :: as) (s' :: sl) = s' :: finS as sl := by
  obtain ⟨a, b, c, cells, rfl, _⟩ := h
  obtain ⟨a', b', c', cells', rfl, _⟩ := h'
  exact finS_m
theorem pr2 : M.Pr 2 := ⟨by decide, fun a h0 h1 => ⟨1, by omega, by omega, by have : a = 1 := by omega
                                                                              subst this; decide⟩⟩
theorem pr3 : M.Pr 3 := ⟨by decide, fun a h0 h1 => ⟨a, by omega, by omega, by have : a = 1 ∨ a = 2 := by omega
                                                                              rcases this with rfl | rfl <;> decide⟩⟩
theorem pr5 : M.Pr 5 := ⟨by decide, fun a h0 h1 => by
  have : a = 1 ∨ a = 2 ∨ a = 3 ∨ a = 4 := by omega
  rcases this with rfl | rfl | rfl | rfl
  · exact ⟨1, by decide, by decide, by decide⟩
  · exact ⟨3, by decide, by decide, by decide⟩
  · exact ⟨2, by decide, by decide, by decide⟩
  · exact ⟨4, by decide, by decide, by decide⟩⟩
theorem pr7 : M.Pr 7 := ⟨by decide, fun a h0 h1 => by
  have : a = 1 ∨ a = 2 ∨ a = 3 ∨ a = 4 ∨ a = 5 ∨ a = 6 := by omega
  rcases this with rfl | rfl | rfl | rfl | rfl | rfl
  · exact ⟨1, by decide, by decide, by decide⟩
  · exact ⟨4, by decide, by decide, by decide⟩
  · exact ⟨5, by decide, by decide, by decide⟩
  · exact ⟨2, by decide, by decide, by decide⟩
  · exact ⟨3, by decide, by decide, by decide⟩
  · exact ⟨6, by decide, by decide, by decide⟩⟩
def VecOk (p : Int) (n : Nat) (x : M.Vc) : Prop := x.length = n ∧ M.Red p x
section
variable {P : Program} {w : World} {K : PySem.W.Frag} {mg : Str → Option Value} {base : Heap} {k : Nat}
def a__law_world : AF := fun as Q => ∃ l s p n, as = [s, .d (hD p n)] ∧ BagOk l s ∧ HouseOk p n ∧ ∀ x s', VecOk p n x → BagOk l s' → Q (dI x) [s', .d (hD p n)]
theorem ints_of {p : Int} : ∀ {ds : List PyData}, (∀ d ∈ ds, ∃ v : Int, d = .int v ∧ 0 ≤ v ∧ v < p) → ∃ x : List Int, ds = x.map PyData.int ∧ M.Red p x
  | [], _ => ⟨[], rfl, fun a ha => by simp at ha⟩
  | d :: ds, h => by
    obtain ⟨x, e, r⟩ := ints_of fun d' h' => h d' (List.mem_cons_of_mem _ h')
    obtain ⟨v, e2, v0, v1⟩ := h d (List.mem_cons_self ..)
    refine ⟨v :: x, by rw [e, e2]; rfl, fun a ha => ?_⟩
    rcases List.mem_cons.mp ha with ha | ha
    · rw [ha]; exact ⟨v0, v1⟩
    · exact r a ha
end
theorem fin2 {l : Addr} {s s' t : Slot} {as sl : Sls} (h : BagOk l s) (h' : BagOk l s') (d : PyData) : finS (s :: .d d :: as) (s' :: t :: sl) = s' :: .d d :: finS as sl := by
  rw [finS_bag h h']
  rfl
theorem red_set {p : Int} {x : List Int} {j : Nat} {v : Int} (h : M.Red p x) (h0 : 0 ≤ v) (h1 : v < p) : M.Red p (x.set j v) := fun a ha => by
  rcases List.mem_or_eq_of_mem_set ha with ha | ha
  · exact h a ha
  · rw [ha]; exact ⟨h0, h1⟩
section
variable {P : Program} {w : World} {K : PySem.W.Frag} {mg : Str → Option Value} {base : Heap} {k : Nat}
def a__law_sum : AF := fun as Q => ∃ l s p n, as = [s, .d (hD p n)] ∧ BagOk l s ∧ HouseOk p n ∧ ∀ x s', VecOk p n x → BagOk l s' → Q (dI x) [s', .d (hD p n)]
def a__law_sums : AF := fun as Q => ∃ l s p n m, as = [s, .d (hD p n), .d (.int (m : Nat))] ∧ BagOk l s ∧ HouseOk p n ∧ 1 ≤ m ∧ m ≤ 20 ∧ ∀ (xs : List M.Vc) s', (∀ x ∈ xs, VecOk p n x) → xs.length = m → BagOk l s' → Q (.list (xs.map dI)) [s', .d (hD p n), .d (.int (m : Nat))]
end
def strifeD (n : Nat) : List M.Vc → PyData
  | [] => .none
  | s :: S => if M.at_ s n ≠ 0 then dI (s.drop (n + 1)) else strifeD n S
theorem rows_of {p : Int} {n : Nat} : ∀ {ds : List PyData}, (∀ d ∈ ds, ∃ r, d = rD r ∧ M.RowOk p n r) → ∃ rows, ds = rows.map rD ∧ M.RowsOk p n rows
  | [], _ => ⟨[], rfl, fun a ha => by simp at ha⟩
  | d :: ds, h => by
    obtain ⟨x, e, r⟩ := rows_of fun d' h' => h d' (List.mem_cons_of_mem _ h')
    obtain ⟨v, e2, v0⟩ := h d (List.mem_cons_self ..)
    refine ⟨v :: x, by rw [e, e2]; rfl, fun a ha => ?_⟩
    rcases List.mem_cons.mp ha with ha | ha
    · rw [ha]; exact v0
    · exact r a ha
section
variable {P : Program} {w : World} {K : PySem.W.Frag} {mg : Str → Option Value} {base : Heap} {k : Nat}
def a_strife_of : AF := fun as Q => ∃ p n rows, as = [.d (hD p n), .d (rsD rows)] ∧ HouseOk p n ∧ M.RowsOk p n rows ∧ rows.length ≤ 90 ∧ Q (strifeD n (M.sift p n (M.lines rows)).2) as
def a__law_makes_empty : AF := fun as Q => ∃ p n rows c, as = [.d (hD p n), .d (rsD rows), .d (dI c)] ∧ HouseOk p n ∧ M.RowsOk p n rows ∧ rows.length ≤ 90 ∧ c.length = rows.length ∧ M.Red p c ∧
  Q (.tuple [.bool (decide ((mb p (M.zer (n + 1)) (rows.zip c)).take n = M.zer n)), .int (M.at_ (mb p (M.zer (n + 1)) (rows.zip c)) n)]) as
end
end R

namespace R
open PySem PySem.Spec PyProof.Rows L2 RX

/-! ### draws -/
section
variable {l : Addr} {s t : Slot} {rest : Sls} {Q : PyData → Sls → Prop} {e : AE}
theorem take_I {many : Int} (hs : BagOk l s) (he : ∀ P : PyData → Sls → Prop, P (.int many) (s :: rest) → e (s :: rest) P) (m0 : 0 < many) (m1 : many < 1000000)
    (q : ∀ v s', BagOk l s' → 0 ≤ v → v < many → Q (.int v) (s' :: rest)) : aCall a__law_take (aaO 0 (aaD e aaNil)) (s :: rest) Q :=
  ⟨⟨_, l, rfl, hs.addr⟩, he _ ⟨⟨_, l, rfl, hs.addr⟩, ⟨trivial, trivial⟩, l, _, many, rfl, hs, m0, m1, q⟩⟩
theorem take_I1 {many : Int} (hs : BagOk l s) (he : ∀ P : PyData → Sls → Prop, P (.int many) (t :: s :: rest) → e (t :: s :: rest) P) (m0 : 0 < many) (m1 : many < 1000000)
    (q : ∀ v s', BagOk l s' → 0 ≤ v → v < many → Q (.int v) (t :: s' :: rest)) : aCall a__law_take (aaO 1 (aaD e aaNil)) (t :: s :: rest) Q :=
  ⟨⟨_, l, rfl, hs.addr⟩, he _ ⟨⟨_, l, rfl, hs.addr⟩, ⟨trivial, trivial⟩, l, _, many, rfl, hs, m0, m1, q⟩⟩
theorem one_I {d : PyData} {xs : List PyData} (hs : BagOk l s) (he : ∀ P : PyData → Sls → Prop, P d (s :: rest) → e (s :: rest) P) (hd : seqD d = some xs) (x0 : 0 < xs.length) (x1 : xs.length < 100000)
    (q : ∀ x s', BagOk l s' → x ∈ xs → Q x (s' :: rest)) : aCall a__law_one (aaO 0 (aaD e aaNil)) (s :: rest) Q := by
  refine ⟨⟨_, l, rfl, hs.addr⟩, he _ ⟨⟨_, l, rfl, hs.addr⟩, ⟨trivial, trivial⟩, l, _, .d d, xs, rfl, hs, ?_, x0, x1, q⟩⟩
  cases d with
  | list _ => cases hd; exact .inl rfl
  | tuple _ => cases hd; exact .inr (.inl rfl)
  | _ => cases hd
theorem one_I1 {d : PyData} {xs : List PyData} (hs : BagOk l s) (he : ∀ P : PyData → Sls → Prop, P d (t :: s :: rest) → e (t :: s :: rest) P) (hd : seqD d = some xs) (x0 : 0 < xs.length) (x1 : xs.length < 100000)
    (q : ∀ x s', BagOk l s' → x ∈ xs → Q x (t :: s' :: rest)) : aCall a__law_one (aaO 1 (aaD e aaNil)) (t :: s :: rest) Q := by
  refine ⟨⟨_, l, rfl, hs.addr⟩, he _ ⟨⟨_, l, rfl, hs.addr⟩, ⟨trivial, trivial⟩, l, _, .d d, xs, rfl, hs, ?_, x0, x1, q⟩⟩
  cases d with
  | list _ => cases hd; exact .inl rfl
  | tuple _ => cases hd; exact .inr (.inl rfl)
  | _ => cases hd
/-- one of some whole numbers -/
theorem int_I (ns : List Int) (hs : BagOk l s) (he : ∀ P : PyData → Sls → Prop, P (.list (ns.map .int)) (s :: rest) → e (s :: rest) P) (x0 : 0 < ns.length) (x1 : ns.length < 100000)
    (q : ∀ v s', BagOk l s' → v ∈ ns → Q (.int v) (s' :: rest)) : aCall a__law_one (aaO 0 (aaD e aaNil)) (s :: rest) Q :=
  one_I hs he rfl (by rw [List.length_map]; exact x0) (by rw [List.length_map]; exact x1) fun x s' h m => by
    obtain ⟨v, hv, rfl⟩ := List.mem_map.mp m
    exact q v s' h hv
theorem int_I1 (ns : List Int) (hs : BagOk l s) (he : ∀ P : PyData → Sls → Prop, P (.list (ns.map .int)) (t :: s :: rest) → e (t :: s :: rest) P) (x0 : 0 < ns.length) (x1 : ns.length < 100000)
    (q : ∀ v s', BagOk l s' → v ∈ ns → Q (.int v) (t :: s' :: rest)) : aCall a__law_one (aaO 1 (aaD e aaNil)) (t :: s :: rest) Q :=
  one_I1 hs he rfl (by rw [List.length_map]; exact x0) (by rw [List.length_map]; exact x1) fun x s' h m => by
    obtain ⟨v, hv, rfl⟩ := List.mem_map.mp m
    exact q v s' h hv
end
theorem eqv_str (x y : Str) : PyData.eqv (.str x) (.str y) = decide (x = y) := by
  rw [PyData.eqv]
  by_cases h : x = y <;> simp [h]
theorem pl_str {x : Str} (h : PyData.strOk x = true) : Pl (.str x) := ⟨by unfold SeqAt.shaped; simp [PyData.canLay0, PyData.depth, h], by simp [PyData.hasDict]⟩
theorem pl_none : Pl .none := ⟨by unfold SeqAt.shaped; simp [PyData.canLay0, PyData.depth], by simp [PyData.hasDict]⟩
abbrev sAsk : Str := Str.ofString "ask"
abbrev sTell : Str := Str.ofString "tell"
abbrev sNew : Str := Str.ofString "new"
abbrev sKnown : Str := Str.ofString "known"
abbrev sClash : Str := Str.ofString "clash"
abbrev sOpen : Str := Str.ofString "open"

/-! ### deeds, answers, calls -/
abbrev Dd := M.Vc × Option Int
def ddD : Dd → PyData
  | (x, none) => .tuple [.str sAsk, dI x]
  | (x, some v) => .tuple [.str sTell, dI x, .int v]
structure DdOk (p : Int) (n : Nat) (d : Dd) : Prop where
  v : VecOk p n d.1
  num : ∀ v, d.2 = some v → 0 ≤ v ∧ v < p
inductive An where
  | new | known | clash | opn
  | num (v : Int)
deriving DecidableEq
def anD : An → PyData
  | .new => .str sNew
  | .known => .str sKnown
  | .clash => .str sClash
  | .opn => .str sOpen
  | .num v => .int v
def AnOk (p : Int) (tell : Bool) : An → Prop
  | .num v => tell = false ∧ 0 ≤ v ∧ v < p
  | .opn => tell = false
  | _ => tell = true
def oAn : Option An → PyData
  | none => .none
  | some a => anD a
def oI : Option Int → PyData
  | none => .none
  | some i => .int i
/-- a call: of a plan (no answer), or of a history (an answer, or a hole) -/
structure Cl where
  dd : Dd
  b : Int
  e : Option Int
  a : Option (Option An)
def resD : Option (Option An) → List PyData
  | none => []
  | some a => [oAn a]
def clD (c : Cl) : PyData := .tuple (ddD c.dd :: .int c.b :: oI c.e :: resD c.a)
def csD (cs : List Cl) : PyData := .tuple (cs.map clD)
def whD (p : Int) (n : Nat) (cs : List Cl) : PyData := .tuple [hD p n, csD cs]
structure ClOk (p : Int) (n : Nat) (B : Int) (c : Cl) : Prop where
  dd : DdOk p n c.dd
  b : -B ≤ c.b ∧ c.b ≤ B
  e : ∀ e, c.e = some e → c.b ≤ e ∧ e ≤ B
  an : ∀ a, c.a = some (some a) → AnOk p c.dd.2.isSome a
  hole : c.a = some none → c.e = none ∨ c.dd.2 = none
  plan : c.a = none → c.e ≠ none
theorem ClOk.mono {p : Int} {n : Nat} {B B' : Int} {c : Cl} (h : ClOk p n B c) (hb : B ≤ B') : ClOk p n B' c :=
  ⟨h.dd, ⟨by have := h.b.1; omega, by have := h.b.2; omega⟩, fun e he => ⟨(h.e e he).1, by have := (h.e e he).2; omega⟩, h.an, h.hole, h.plan⟩

theorem noL_an1 (a : An) : noL (anD a) = true := by cases a <;> simp [anD, noL]
theorem noL_an : ∀ as : List An, noLs (as.map anD) = true
  | [] => by simp [noLs]
  | a :: as => by simp [noLs, noL_an1 a, noL_an as]
theorem pl_an (a : An) : Pl (anD a) := by cases a <;> first | exact pl_int _ | exact pl_str (by decide +kernel)
theorem eqv_is (i : Int) (x : Str) : PyData.eqv (.int i) (.str x) = false := by simp [PyData.eqv]
theorem eqv_si (i : Int) (x : Str) : PyData.eqv (.str x) (.int i) = false := by simp [PyData.eqv]
theorem eqv_ns (x : Str) : PyData.eqv .none (.str x) = false := by simp [PyData.eqv]
theorem eqv_sn (x : Str) : PyData.eqv (.str x) .none = false := by simp [PyData.eqv]
theorem eqv_in (x : Int) : PyData.eqv (.int x) .none = false := by simp [PyData.eqv]
theorem eqv_an (a b : An) : PyData.eqv (anD a) (anD b) = decide (a = b) := by
  cases a <;> cases b <;> simp only [anD, eqv_str, eqv_is, eqv_si, eqv_int] <;> first | decide +kernel | (simp; done)
theorem eqv_an_new (a : An) : PyData.eqv (anD a) (.str (Str.ofString "new")) = decide (a = .new) := eqv_an a .new

def kindS (d : Dd) : Str := if d.2.isSome = true then sTell else sAsk
theorem ix_dd0 {d : Dd} {P : PyData → Prop} (q : P (.str (kindS d))) : fIx (ddD d) (.int 0) P := by
  obtain ⟨x, v⟩ := d
  cases v <;> exact ⟨_, rfl, q⟩
theorem ix_dd1 {d : Dd} {P : PyData → Prop} (q : P (dI d.1)) : fIx (ddD d) (.int 1) P := by
  obtain ⟨x, v⟩ := d
  cases v <;> exact ⟨_, rfl, q⟩
theorem ix_dd2 {d : Dd} {v : Int} {P : PyData → Prop} (h : d.2 = some v) (q : P (.int v)) : fIx (ddD d) (.int 2) P := by
  obtain ⟨x, w⟩ := d
  cases h
  exact ⟨_, rfl, q⟩
theorem ix_cl0 {c : Cl} {P : PyData → Prop} (q : P (ddD c.dd)) : fIx (clD c) (.int 0) P := ix_t (i := 0) rfl q
theorem ix_cl1 {c : Cl} {P : PyData → Prop} (q : P (.int c.b)) : fIx (clD c) (.int 1) P := ix_t (i := 1) rfl q
theorem ix_cl2 {c : Cl} {P : PyData → Prop} (q : P (oI c.e)) : fIx (clD c) (.int 2) P := ix_t (i := 2) rfl q
theorem ix_cl3 {c : Cl} {a : Option An} {P : PyData → Prop} (h : c.a = some a) (q : P (oAn a)) : fIx (clD c) (.int 3) P := by
  obtain ⟨d, b, e, a'⟩ := c
  cases h
  exact ⟨_, rfl, q⟩
theorem ix_wh0 {p : Int} {n : Nat} {cs : List Cl} {P : PyData → Prop} (q : P (hD p n)) : fIx (whD p n cs) (.int 0) P := ⟨_, rfl, q⟩
theorem ix_wh1 {p : Int} {n : Nat} {cs : List Cl} {P : PyData → Prop} (q : P (csD cs)) : fIx (whD p n cs) (.int 1) P := ⟨_, rfl, q⟩
theorem ix_cs {cs : List Cl} {i : Nat} {c : Cl} {P : PyData → Prop} (h : cs[i]? = some c) (q : P (clD c)) : fIx (csD cs) (.int i) P := ix_t (by rw [List.getElem?_map, h]; rfl) q
theorem kind_ask {d : Dd} : decide (kindS d = sAsk) = !d.2.isSome := by
  unfold kindS
  cases d.2.isSome <;> decide +kernel
theorem kind_tell {d : Dd} : decide (kindS d = sTell) = d.2.isSome := by
  unfold kindS
  cases d.2.isSome <;> decide +kernel
theorem pl_kind (d : Dd) : Pl (.str (kindS d)) := by
  unfold kindS
  split <;> exact pl_str (by decide +kernel)

/-! ### what a store answers, by the law -/
def ansL (p : Int) (n : Nat) (rows : List M.Row) (d : Dd) : An := match M.givenL p n rows d.1, d.2 with
  | none, none => .opn
  | some q, none => .num q.1
  | none, some _ => .new
  | some q, some v => if q.1 = v then .known else .clash
def rowStep (p : Int) (n : Nat) (rows : List M.Row) (d : Dd) : List M.Row := if ansL p n rows d = .new then rows ++ [(d.1, d.2.getD 0)] else rows
def ansFrom (p : Int) (n : Nat) : List M.Row → List Dd → List An
  | _, [] => []
  | rows, d :: ds => ansL p n rows d :: ansFrom p n (rowStep p n rows d) ds
def rowsFrom (p : Int) (n : Nat) : List M.Row → List Dd → List M.Row
  | rows, [] => rows
  | rows, d :: ds => rowsFrom p n (rowStep p n rows d) ds
theorem ansFrom_len {p : Int} {n : Nat} : ∀ (ds : List Dd) (rows : List M.Row), (ansFrom p n rows ds).length = ds.length
  | [], _ => rfl
  | d :: ds, rows => by show (ansFrom p n _ ds).length + 1 = _; rw [ansFrom_len ds, List.length_cons]
theorem ansFrom_snoc {p : Int} {n : Nat} (d : Dd) : ∀ (ds : List Dd) (rows : List M.Row), ansFrom p n rows (ds ++ [d]) = ansFrom p n rows ds ++ [ansL p n (rowsFrom p n rows ds) d]
  | [], _ => rfl
  | e :: ds, rows => by show _ :: ansFrom p n _ (ds ++ [d]) = _; rw [ansFrom_snoc d ds]; rfl
theorem rowsFrom_snoc {p : Int} {n : Nat} (d : Dd) : ∀ (ds : List Dd) (rows : List M.Row), rowsFrom p n rows (ds ++ [d]) = rowStep p n (rowsFrom p n rows ds) d
  | [], _ => rfl
  | e :: ds, rows => by show rowsFrom p n _ (ds ++ [d]) = _; rw [rowsFrom_snoc d ds]; rfl
/-- rows that a store can hold -/
structure StOk (p : Int) (n : Nat) (rows : List M.Row) : Prop where
  ok : M.RowsOk p n rows
  ind : M.Ind p n (rows.map (·.1))
theorem StOk.nil {p : Int} {n : Nat} : StOk p n [] := ⟨fun r h => by simp at h, M.ind_nil⟩
theorem ansL_new {p : Int} {n : Nat} {rows : List M.Row} {d : Dd} (h : ansL p n rows d = .new) : M.givenL p n rows d.1 = none ∧ ∃ v, d.2 = some v := by
  unfold ansL at h
  cases e1 : M.givenL p n rows d.1 with
  | none => cases e2 : d.2 with
    | none => rw [e1, e2] at h; cases h
    | some v => exact ⟨rfl, v, rfl⟩
  | some q => cases e2 : d.2 with
    | none => rw [e1, e2] at h; cases h
    | some v =>
      rw [e1, e2] at h
      simp only at h
      split at h <;> cases h
theorem StOk.step {p : Int} {n : Nat} {rows : List M.Row} {d : Dd} (hp : M.Pr p) (h : StOk p n rows) (hd : DdOk p n d) : StOk p n (rowStep p n rows d) := by
  unfold rowStep
  by_cases c : ansL p n rows d = .new
  · rw [if_pos c]
    obtain ⟨h1, v, h2⟩ := ansL_new c
    refine ⟨fun r hr => ?_, ?_⟩
    · rcases List.mem_append.mp hr with hr | hr
      · exact h.ok r hr
      · rw [List.mem_singleton.mp hr]
        have := hd.num v h2
        refine ⟨hd.v.1, hd.v.2, ?_⟩
        rw [h2]
        exact this
    · rw [List.map_append]
      exact M.ind_snoc.mpr ⟨h.ind, (M.givenL_none hp h.ok h.ind hd.v.1 hd.v.2).mp h1⟩
  · rw [if_neg c]; exact h
theorem StOk.from_ {p : Int} {n : Nat} (hp : M.Pr p) : ∀ {ds : List Dd} {rows : List M.Row}, StOk p n rows → (∀ d ∈ ds, DdOk p n d) → StOk p n (rowsFrom p n rows ds)
  | [], _, h, _ => h
  | d :: ds, _, h, hd => (h.step hp (hd d (List.mem_cons_self ..))).from_ hp fun e he => hd e (List.mem_cons_of_mem _ he)
theorem at_tms {p k : Int} (hp : 0 < p) (y : M.Vc) (i : Nat) : 0 ≤ M.at_ (M.tms p k y) i ∧ M.at_ (M.tms p k y) i < p := by
  unfold M.at_ M.tms
  rw [List.getD_eq_getElem?_getD, List.getElem?_map]
  cases y[i]? with
  | none => exact ⟨Int.le_refl 0, hp⟩
  | some a => exact ⟨M.fm_lo hp _, M.fm_hi hp _⟩
theorem givenL_num {p : Int} {n : Nat} {rows : List M.Row} {x : M.Vc} {r : Int × M.Vc} (hp : 0 < p) (h : M.givenL p n rows x = some r) : 0 ≤ r.1 ∧ r.1 < p := by
  unfold M.givenL M.out at h
  split at h
  · cases h
    exact at_tms hp _ 0
  · cases h
theorem ansL_ok {p : Int} {n : Nat} (hp : 0 < p) (rows : List M.Row) (d : Dd) : AnOk p d.2.isSome (ansL p n rows d) := by
  unfold ansL
  cases e1 : M.givenL p n rows d.1 with
  | none => cases e2 : d.2 <;> rfl
  | some q =>
    cases e2 : d.2 with
    | none => exact ⟨rfl, givenL_num hp e1⟩
    | some v =>
      simp only
      split <;> rfl
theorem ansFrom_ok {p : Int} {n : Nat} (hp : M.Pr p) : ∀ {ds : List Dd} {rows : List M.Row} {i : Nat} {a : An} {d : Dd}, (ansFrom p n rows ds)[i]? = some a → ds[i]? = some d → AnOk p d.2.isSome a
  | [], _, _, _, _, h, _ => by simp [ansFrom] at h
  | e :: ds, rows, 0, a, d, h, h' => by
    simp [ansFrom] at h h'
    rw [← h, ← h']
    exact ansL_ok (by have := hp.1; omega) rows e
  | e :: ds, rows, i + 1, a, d, h, h' => ansFrom_ok hp (ds := ds) (rows := rowStep p n rows e) (i := i) (by simpa [ansFrom] using h) (by simpa using h')
theorem rowStep_len {p : Int} {n : Nat} {rows : List M.Row} {d : Dd} : (rowStep p n rows d).length ≤ rows.length + 1 := by
  unfold rowStep
  split
  · rw [List.length_append, List.length_singleton]; exact Nat.le_refl _
  · exact Nat.le_succ _
theorem rowsFrom_len {p : Int} {n : Nat} : ∀ (ds : List Dd) (rows : List M.Row), (rowsFrom p n rows ds).length ≤ rows.length + ds.length
  | [], rows => Nat.le_refl _
  | d :: ds, rows => by
    have h1 := rowsFrom_len (p := p) (n := n) ds (rowStep p n rows d)
    have h2 := rowStep_len (p := p) (n := n) (rows := rows) (d := d)
    show (rowsFrom p n (rowStep p n rows d) ds).length ≤ _
    rw [List.length_cons]
    omega
end R

namespace R
open PySem PySem.Spec PyProof.Rows L2 RX

section
variable {l : Addr} {s t u : Slot} {rest : Sls} {Q : PyData → Sls → Prop}
theorem ad (hs : BagOk l s) : ∃ x y, (s :: rest)[0]? = some x ∧ x.addr = some y := ⟨s, l, rfl, hs.addr⟩
theorem ad1 (hs : BagOk l s) : ∃ x y, (t :: s :: rest)[1]? = some x ∧ x.addr = some y := ⟨s, l, rfl, hs.addr⟩
theorem oneL {xs : List PyData} (hs : BagOk l s) (x0 : 0 < xs.length) (x1 : xs.length < 100000) (q : ∀ x s', BagOk l s' → x ∈ xs → Q x [s', .d (.list xs)]) : a__law_one [s, .d (.list xs)] Q :=
  ⟨l, s, _, xs, rfl, hs, .inl rfl, x0, x1, q⟩
theorem oneT {xs : List PyData} (hs : BagOk l s) (x0 : 0 < xs.length) (x1 : xs.length < 100000) (q : ∀ x s', BagOk l s' → x ∈ xs → Q x [s', .d (.tuple xs)]) : a__law_one [s, .d (.tuple xs)] Q :=
  ⟨l, s, _, xs, rfl, hs, .inr (.inl rfl), x0, x1, q⟩
theorem oneN (ns : List Int) (hs : BagOk l s) (x0 : 0 < ns.length) (x1 : ns.length < 100000) (q : ∀ v s', BagOk l s' → v ∈ ns → Q (.int v) [s', .d (.list (ns.map .int))]) : a__law_one [s, .d (.list (ns.map .int))] Q :=
  oneL hs (by rw [List.length_map]; exact x0) (by rw [List.length_map]; exact x1) fun x s' h m => by
    obtain ⟨v, hv, rfl⟩ := List.mem_map.mp m
    exact q v s' h hv
theorem takeN {many : Int} (hs : BagOk l s) (m0 : 0 < many) (m1 : many < 1000000) (q : ∀ v s', BagOk l s' → 0 ≤ v → v < many → Q (.int v) [s', .d (.int many)]) : a__law_take [s, .d (.int many)] Q :=
  ⟨l, s, many, rfl, hs, m0, m1, q⟩
end
section
variable {α : Type} {g : AG} {e : AE} {vs : List Nat} {Q : List PyData → Sls → Prop}
/-- a comprehension that maps, the slots kept by an invariant -/
theorem lc_mapM {h f : α → PyData} (I : Sls → Prop) : ∀ {zs : List α} {sl : Sls},
    (∀ z ∈ zs, ∀ sl, I sl → unS sl vs = sl → ∀ (Y : PyData → Sls → Prop) (Z : Sls → Prop), (∀ sl', I (unS sl' vs) → Y (f z) sl') → g (h z) sl fun sl2 => (true = true → e sl2 Y) ∧ (true = false → Z sl2)) →
    I (unS sl vs) → zs.length ≤ 100000 → (∀ sl', I sl' → Q (zs.map f) sl') → lcR g aYes e vs Q (zs.map h) sl [] := by
  have main : ∀ {zs : List α} {sl : Sls} {acc : List PyData},
    (∀ z ∈ zs, ∀ sl, I sl → unS sl vs = sl → ∀ (Y : PyData → Sls → Prop) (Z : Sls → Prop), (∀ sl', I (unS sl' vs) → Y (f z) sl') → g (h z) sl fun sl2 => (true = true → e sl2 Y) ∧ (true = false → Z sl2)) →
    I (unS sl vs) → acc.length + zs.length ≤ 100000 → (∀ sl', I sl' → Q (acc ++ zs.map f) sl') → lcR g aYes e vs Q (zs.map h) sl acc := fun {zs} => by
    induction zs with
    | nil =>
      intro sl acc _ i _ q
      have := q _ i
      rw [List.map_nil, List.append_nil] at this
      exact this
    | cons z zs ih =>
      intro sl acc st i hz q
      have hz' : acc.length + (zs.length + 1) ≤ 100000 := hz
      refine st z (List.mem_cons_self ..) (unS sl vs) i (unS_idem sl vs) (fun y sl4 => acc.length < sizeLine ∧ lcR g aYes e vs Q (zs.map h) (unS sl4 vs) (acc ++ [y])) _ fun sl' i' => ⟨by unfold sizeLine; omega, ?_⟩
      refine ih (fun z' h' => st z' (List.mem_cons_of_mem _ h')) (by rw [unS_idem]; exact i') (by rw [List.length_append, List.length_singleton]; omega) fun sl'' i'' => ?_
      rw [List.append_assoc]
      exact q sl'' i''
  intro zs sl st i hz q
  exact main st i (by rw [List.length_nil]; omega) q
end
/-! ### arrangements -/
theorem unmapP {m : Nat} {f : Nat → PyData} {g : PyData → Nat} (gf : ∀ i, g (f i) = i) {ds : List PyData} (h : ds.Perm ((List.range m).map f)) : ∃ ps : List Nat, ds = ps.map f ∧ ps.Perm (List.range m) := by
  refine ⟨ds.map g, ?_, ?_⟩
  · rw [List.map_map]
    refine (List.map_id ds).symm.trans (List.map_congr_left fun d hd => ?_)
    obtain ⟨i, _, rfl⟩ := List.mem_map.mp (h.mem_iff.mp hd)
    show f i = f (g (f i))
    rw [gf]
  · have := h.map g
    rw [List.map_map, show (g ∘ f) = id from funext gf, List.map_id] at this
    exact this
def natOf : PyData → Nat
  | .int z => z.toNat
  | _ => 0
def natsD (ns : List Nat) : List PyData := ns.map fun i => .int (i : Nat)
theorem rgD0 (m : Nat) : rgD 0 m = natsD (List.range m) := by
  unfold rgD natsD
  exact List.map_congr_left fun i _ => by rw [Int.zero_add]
theorem nats_of {m : Nat} {ds : List PyData} (h : ds.Perm (rgD 0 m)) : ∃ ps : List Nat, ds = natsD ps ∧ ps.Perm (List.range m) :=
  unmapP (g := natOf) (fun i => by show ((i : Int)).toNat = i; omega) (by rw [rgD0] at h; exact h)
theorem ord_of {m : Nat} {ps : List Nat} (h : ps.Perm (List.range m)) : ((List.range m).map fun k => ps.idxOf k).Perm (List.range m) ∧ ∀ k i : Nat, ((List.range m).map fun k => ps.idxOf k)[k]? = some i → k < m ∧ ps[i]? = some k := by
  have nd : ps.Nodup := h.symm.nodup List.nodup_range
  have hl : ps.length = m := by rw [h.length_eq, List.length_range]
  have mem : ∀ {k : Nat}, k < m → k ∈ ps := fun {k} hk => h.mem_iff.mpr (List.mem_range.mpr hk)
  have at_ : ∀ {k : Nat}, k < m → ps.idxOf k < m ∧ ps[ps.idxOf k]? = some k := fun {k} hk => by
    have hi := List.idxOf_lt_length_of_mem (mem hk)
    exact ⟨by omega, by rw [List.getElem?_eq_getElem hi, List.getElem_idxOf hi]⟩
  refine ⟨(List.perm_ext_iff_of_nodup ?_ List.nodup_range).mpr fun i => ?_, fun k i e => ?_⟩
  · refine List.pairwise_map.mpr (List.Pairwise.imp_of_mem (fun {a b} ha hb ne e => ne ?_) (List.nodup_range (n := m)))
    have h1 := (at_ (List.mem_range.mp ha)).2
    have h2 := (at_ (List.mem_range.mp hb)).2
    rw [e] at h1
    exact Option.some.inj (h1.symm.trans h2)
  · refine ⟨fun hi => ?_, fun hi => ?_⟩
    · obtain ⟨k, hk, rfl⟩ := List.mem_map.mp hi
      exact List.mem_range.mpr (at_ (List.mem_range.mp hk)).1
    · have hi' := List.mem_range.mp hi
      refine List.mem_map.mpr ⟨ps[i], h.mem_iff.mp (List.getElem_mem (by omega)), nd.idxOf_getElem i (by omega)⟩
  · rw [List.getElem?_map] at e
    by_cases hk : k < m
    · rw [List.getElem?_range hk] at e
      cases e
      exact ⟨hk, (at_ hk).2⟩
    · rw [List.getElem?_eq_none (by rw [List.length_range]; omega)] at e
      cases e
theorem flat_nats (ps : List Nat) : (natsD ps).all flD = true := List.all_eq_true.mpr fun d hd => by
  obtain ⟨i, _, rfl⟩ := List.mem_map.mp hd
  rfl
/-- l.index(k) of an arrangement -/
theorem index_nats {m k : Nat} {ps : List Nat} {P : PyData → Prop} (h : ps.Perm (List.range m)) (hk : k < m) (q : P (.int ((ps.idxOf k : Nat)))) : fIndex (.list (natsD ps)) (.int (k : Nat)) P := by
  have nd : ps.Nodup := h.symm.nodup List.nodup_range
  have mem : k ∈ ps := h.mem_iff.mpr (List.mem_range.mpr hk)
  have hi := List.idxOf_lt_length_of_mem mem
  refine ⟨_, ps.idxOf k, .int (k : Nat), rfl, rfl, flat_nats ps, ?_, by rw [eqv_int]; exact decide_eq_true rfl, fun j y hj hy => ?_, q⟩
  · unfold natsD
    rw [List.getElem?_map, List.getElem?_eq_getElem hi, List.getElem_idxOf hi]
    rfl
  · unfold natsD at hy
    rw [List.getElem?_map, List.getElem?_eq_getElem (by omega)] at hy
    cases hy
    rw [eqv_int]
    refine decide_eq_false fun e => ?_
    have e' : ps[j] = k := by omega
    have := nd.idxOf_getElem j (by omega)
    rw [e'] at this
    omega
/-! ### what the law's defs of histories do -/
def a__law_mixed : AF := fun as Q => ∃ l s ds, as = [s, .d (.list ds)] ∧ BagOk l s ∧ ds.length ≤ 1000 ∧ ∀ (ds' : List PyData) s', ds'.Perm ds → BagOk l s' → Q (.list ds') [s', .d (.list ds)]
def a__law_alike : AF := fun as Q => ∃ d e h w, as = [.d d, .d e] ∧ Fit h w d ∧ Fit h w e ∧ h ≤ 40 ∧ w ≤ 2 ^ 20 ∧ Q (.bool (PyData.eqv d e && decide (d.shown = e.shown))) as
theorem alike_same {d : PyData} {h w : Nat} {Q : PyData → Sls → Prop} (f : Fit h w d) (h40 : h ≤ 40) (hw : w ≤ 2 ^ 20) (q : Q (.bool true) [.d d, .d d]) : a__law_alike [.d d, .d d] Q :=
  ⟨d, d, h, w, rfl, f, f, h40, hw, by rw [f.refl, decide_eq_true rfl]; exact q⟩
def a__law_house : AF := fun as Q => ∃ l s, ∃ m : Nat, as = [s, .d (.int m)] ∧ BagOk l s ∧ m ≤ 8 ∧ ∀ p n s', HouseOk p n → n ≤ m → BagOk l s' → Q (hD p n) [s', .d (.int m)]
def a__law_answer : AF := fun as Q => ∃ p n rows t d, as = [.d (hD p n), .d t, .d (ddD d)] ∧ HouseOk p n ∧ seqD t = some (rows.map rD) ∧ StOk p n rows ∧ rows.length ≤ 80 ∧ DdOk p n d ∧ Q (anD (ansL p n rows d)) as
def a__law_answers_by : AF := fun as Q => ∃ p n, ∃ ds : List Dd, as = [.d (hD p n), .d (.list (ds.map ddD))] ∧ HouseOk p n ∧ (∀ d ∈ ds, DdOk p n d) ∧ ds.length ≤ 60 ∧ Q (.list ((ansFrom p n [] ds).map anD)) as
def a__law_deed : AF := fun as Q => ∃ l s p n, ∃ xs : List M.Vc, ∃ w, as = [s, .d (hD p n), .d (.list (xs.map dI)), .d (dI w)] ∧ BagOk l s ∧ HouseOk p n ∧ (∀ x ∈ xs, VecOk p n x) ∧ 0 < xs.length ∧ xs.length ≤ 100 ∧ VecOk p n w ∧
  ∀ d s', DdOk p n d → BagOk l s' → Q (ddD d) [s', .d (hD p n), .d (.list (xs.map dI)), .d (dI w)]
def StrOk (m b : Int) (e : Option Int) : Prop := m - 300 ≤ b ∧ b ≤ m ∧ ∀ e', e = some e' → m ≤ e' ∧ e' ≤ m + 300
def a__law_stretch : AF := fun as Q => ∃ l s m way, as = [s, .d (.int m), .d (.int way)] ∧ BagOk l s ∧ ∀ b e s', StrOk m b e → BagOk l s' → Q (.tuple [.int b, oI e]) [s', .d (.int m), .d (.int way)]
structure HistR (p : Int) (n most : Nat) (cs : List Cl) (ord : List Nat) : Prop where
  len : cs.length ≤ most
  perm : ord.Perm (List.range cs.length)
  ok : ∀ c ∈ cs, ClOk p n 1000 c ∧ ∃ a, c.a = some (some a)
  true_ : ∃ ds : List Dd, ds.length = cs.length ∧ (∀ d ∈ ds, DdOk p n d) ∧ ∀ (k i : Nat), ord[k]? = some i → ∃ c, cs[i]? = some c ∧ ds[k]? = some c.dd ∧ c.a = some ((ansFrom p n [] ds)[k]?) ∧ StrOk (10 * k) c.b c.e
def ordD (ns : List Nat) : PyData := .tuple (natsD ns)
def a__law_history : AF := fun as Q => ∃ l s p n, ∃ most : Nat, as = [s, .d (hD p n), .d (.int most)] ∧ BagOk l s ∧ HouseOk p n ∧ 1 ≤ most ∧ most ≤ 50 ∧ ∀ cs ord s', HistR p n most cs ord → BagOk l s' → Q (.tuple [whD p n cs, ordD ord]) [s', .d (hD p n), .d (.int most)]
def a__law_put : AF := fun as Q => ∃ xs, ∃ i : Nat, ∃ d, as = [.d (.tuple xs), .d (.int i), .d d] ∧ i < xs.length ∧ xs.length ≤ 1000 ∧ Q (.tuple (xs.set i d)) as
def a__law_other_answer : AF := fun as Q => ∃ l s p n c, ∃ a : Option An, as = [s, .d (hD p n), .d (clD c)] ∧ BagOk l s ∧ HouseOk p n ∧ c.a = some a ∧ (∀ b, a = some b → AnOk p c.dd.2.isSome b) ∧ ∀ a' s', AnOk p c.dd.2.isSome a' → a ≠ some a' → BagOk l s' → Q (anD a') [s', .d (hD p n), .d (clD c)]
def WholeOk (p : Int) (n : Nat) (B : Int) (cs : List Cl) : Prop := ∀ c ∈ cs, ClOk p n B c ∧ ∃ a, c.a = some (some a)
def HistOk (p : Int) (n : Nat) (B : Int) (cs : List Cl) : Prop := ∀ c ∈ cs, ClOk p n B c ∧ c.a ≠ none
def PlanOk (p : Int) (n : Nat) (B : Int) (cs : List Cl) : Prop := ∀ c ∈ cs, ClOk p n B c ∧ c.a = none
theorem WholeOk.hist {p : Int} {n : Nat} {B : Int} {cs : List Cl} (h : WholeOk p n B cs) : HistOk p n B cs := fun c hc => ⟨(h c hc).1, by obtain ⟨a, e⟩ := (h c hc).2; rw [e]; simp⟩
def a__law_bent_history : AF := fun as Q => ∃ l s p n B cs, as = [s, .d (whD p n cs)] ∧ BagOk l s ∧ HouseOk p n ∧ WholeOk p n B cs ∧ 0 ≤ B ∧ B ≤ 1000000 ∧ cs.length ≤ 100 ∧ ∀ cs' s', WholeOk p n (B + 19) cs' → cs'.length = cs.length → BagOk l s' → Q (whD p n cs') [s', .d (whD p n cs)]
def a__law_some_history : AF := fun as Q => ∃ l s p n, ∃ most : Nat, as = [s, .d (hD p n), .d (.int most)] ∧ BagOk l s ∧ HouseOk p n ∧ 1 ≤ most ∧ most ≤ 50 ∧ ∀ cs s', WholeOk p n 1100 cs → cs.length ≤ most → BagOk l s' → Q (whD p n cs) [s', .d (hD p n), .d (.int most)]
def a__law_holed_history : AF := fun as Q => ∃ l s p n B cs, ∃ most : Nat, as = [s, .d (whD p n cs), .d (.int most)] ∧ BagOk l s ∧ HouseOk p n ∧ HistOk p n B cs ∧ B ≤ 1000000 ∧ most ≤ 50 ∧ cs.length ≤ 100 ∧ ∀ cs' s', HistOk p n B cs' → cs'.length = cs.length → BagOk l s' → Q (whD p n cs') [s', .d (whD p n cs), .d (.int most)]
structure PlanR (p : Int) (n most : Nat) (cs : List Cl) : Prop where
  len : cs.length ≤ most
  ok : PlanOk p n 1000 cs
  peace : ∃ w, VecOk p n w ∧ ∀ c ∈ cs, ∀ v, c.dd.2 = some v → v = (M.dotp c.dd.1 w).fmod p
def a__law_plan : AF := fun as Q => ∃ l s p n, ∃ most : Nat, as = [s, .d (hD p n), .d (.int most)] ∧ BagOk l s ∧ HouseOk p n ∧ 1 ≤ most ∧ most ≤ 50 ∧ ∀ cs s', PlanR p n most cs → BagOk l s' → Q (whD p n cs) [s', .d (hD p n), .d (.int most)]
def shift (by_ : Int) (c : Cl) : Cl := { c with b := c.b + by_, e := c.e.map (· + by_) }
def a__law_far : AF := fun as Q => ∃ l s p n cs, as = [s, .d (whD p n cs)] ∧ BagOk l s ∧ cs.length ≤ 100 ∧ ∀ by_ s', -999999000 ≤ by_ → by_ ≤ 999999000 → BagOk l s' → Q (whD p n (cs.map (shift by_))) [s', .d (whD p n cs)]
def aheadB (c d : Cl) : Bool := match c.e with
  | none => false
  | some e => decide (e < d.b)
def a__law_is_ahead : AF := fun as Q => ∃ cs, ∃ i j : Nat, ∃ c d, as = [.d (csD cs), .d (.int i), .d (.int j)] ∧ cs[i]? = some c ∧ cs[j]? = some d ∧ Q (.bool (aheadB c d)) as
end R

namespace R
open PySem PySem.Spec PyProof.Rows L2 RX
theorem log2_lt {m : Nat} (h : m < 10 ^ 12) : m.log2 < 40 := by
  by_cases z : m = 0
  · subst z; decide
  · exact (Nat.log2_lt z).mpr (Nat.lt_of_lt_of_le h (by decide))
theorem fit_big {i : Int} (h : i.natAbs < 10 ^ 12) : Fit 0 41 (.int i) := by
  have hl := log2_lt h
  refine ⟨by simp [PyData.canLay0], ?_, by simp [PyData.hasDict], ?_, by simp [PyData.depth], ?_⟩
  · simp only [PyData.showable]
    exact decide_eq_true (by omega)
  · have := PyData.intsShortAll_ints [i] fun n hn => by rw [List.mem_singleton.mp hn]; exact h
    simpa [PyData.intsShortAll] using this
  · simp only [PyData.weight]
    split <;> omega
theorem fit_str {x : Str} {w : Nat} (h : PyData.strOk x = true) (hw : x.cps.size ≤ w) : Fit 0 w (.str x) := ⟨by simp [PyData.canLay0, h], by simp [PyData.showable], by simp [PyData.hasDict], by simp [PyData.intsShort], by simp [PyData.depth], by simpa [PyData.weight] using hw⟩
theorem fit_an {p : Int} {b : Bool} {a : An} (h : AnOk p b a) (h10 : p < 10) : Fit 0 41 (anD a) := by
  cases a with
  | num v => exact fit_big (by have := h.2; omega)
  | _ => exact fit_str (by decide +kernel) (by decide +kernel)
theorem fit_oI {e : Option Int} (h : ∀ i, e = some i → i.natAbs < 10 ^ 12) : Fit 0 41 (oI e) := by
  cases e with
  | none => exact fit_none
  | some i => exact fit_big (h i rfl)
theorem fit_vec {p : Int} {n : Nat} {x : M.Vc} (hh : HouseOk p n) (h : VecOk p n x) : Fit 1 336 (dI x) := by
  refine Fit.mono (h := 0 + 1) (w := 8 * (41 + 1)) (fit_tupN 8 (fun d hd => ?_) (by rw [List.length_map, h.1]; exact hh.n6)) (by decide) (by decide)
  obtain ⟨a, ha, rfl⟩ := List.mem_map.mp hd
  have := h.2 a ha
  have := hh.p10
  exact fit_big (by omega)
theorem fit_hD {p : Int} {n : Nat} (hh : HouseOk p n) : Fit 1 84 (hD p n) := by
  have h1 := hh.pos
  have h2 := hh.p10
  have h3 := hh.n6
  refine Fit.mono (h := 0 + 1) (w := 2 * (41 + 1)) (fit_tupN 2 (fun d hd => ?_) (by simp)) (by decide) (by decide)
  simp only [List.mem_cons, List.not_mem_nil, or_false] at hd
  rcases hd with rfl | rfl
  · exact fit_big (by omega)
  · exact fit_big (by omega)
theorem fit_dd {p : Int} {n : Nat} {d : Dd} (hh : HouseOk p n) (h : DdOk p n d) : Fit 2 1011 (ddD d) := by
  have h2 := hh.p10
  obtain ⟨x, v⟩ := d
  have hx := fit_vec hh h.v
  cases v with
  | none =>
    refine fit_tupN 3 (w := 336) (fun d hd => ?_) (by simp)
    simp only [List.mem_cons, List.not_mem_nil, or_false] at hd
    rcases hd with rfl | rfl
    · exact (fit_str (w := 5) (by decide +kernel) (by decide +kernel)).mono (by decide) (by decide)
    · exact hx
  | some v =>
    have hv := h.num v rfl
    refine fit_tupN 3 (w := 336) (fun d hd => ?_) (by simp)
    simp only [List.mem_cons, List.not_mem_nil, or_false] at hd
    rcases hd with rfl | rfl | rfl
    · exact (fit_str (w := 5) (by decide +kernel) (by decide +kernel)).mono (by decide) (by decide)
    · exact hx
    · exact (fit_big (by omega)).mono (by decide) (by decide)
theorem fit_cl {p : Int} {n : Nat} {B : Int} {c : Cl} (hh : HouseOk p n) (h : ClOk p n B c) (hB : B ≤ 100000000000) : Fit 3 4048 (clD c) := by
  have h2 := hh.p10
  have hb := h.b
  have he := h.e
  refine fit_tupN 4 (w := 1011) (fun d hd => ?_) ?_
  · rcases List.mem_cons.mp hd with rfl | hd
    · exact fit_dd hh h.dd
    rcases List.mem_cons.mp hd with rfl | hd
    · exact (fit_big (by omega)).mono (by decide) (by decide)
    rcases List.mem_cons.mp hd with rfl | hd
    · refine (fit_oI fun i hi => ?_).mono (by decide) (by decide)
      have := he i hi
      omega
    · cases ha : c.a with
      | none => rw [ha] at hd; simp [resD] at hd
      | some a =>
        rw [ha] at hd
        rw [List.mem_singleton.mp hd]
        cases a with
        | none => exact fit_none
        | some a => exact (fit_an (h.an a ha) h2).mono (by decide) (by decide)
  · cases c.a <;> simp [resD]
theorem fit_cs {p : Int} {n : Nat} {B : Int} {cs : List Cl} (hh : HouseOk p n) (h : ∀ c ∈ cs, ClOk p n B c) (hB : B ≤ 100000000000) (hl : cs.length ≤ 100) : Fit 4 404900 (csD cs) :=
  fit_tupN 100 (fun d hd => by
    obtain ⟨c, hc, rfl⟩ := List.mem_map.mp hd
    exact fit_cl hh (h c hc) hB) (by rw [List.length_map]; exact hl)
theorem fit_wh {p : Int} {n : Nat} {B : Int} {cs : List Cl} (hh : HouseOk p n) (h : ∀ c ∈ cs, ClOk p n B c) (hB : B ≤ 100000000000) (hl : cs.length ≤ 100) : Fit 5 809802 (whD p n cs) := by
  refine fit_tupN 2 (w := 404900) (fun d hd => ?_) (by simp)
  simp only [List.mem_cons, List.not_mem_nil, or_false] at hd
  rcases hd with rfl | rfl
  · exact (fit_hD hh).mono (by decide) (by decide)
  · exact fit_cs hh h hB hl
theorem eqv_cs_nil (cs : List Cl) : PyData.eqv (csD cs) (.tuple []) = cs.isEmpty := by
  unfold csD
  cases cs <;> simp [PyData.eqv, PyData.eqvAll]
theorem pl_nilT : Pl (.tuple []) := ⟨by unfold SeqAt.shaped; simp [PyData.canLay0, PyData.canLayAll0, PyData.depth, PyData.depthAll], by simp [PyData.hasDict, PyData.hasDictAll]⟩
theorem eqv_oan (a : An) (b : Option An) : PyData.eqv (anD a) (oAn b) = decide (b = some a) := by
  cases b with
  | none => cases a <;> simp [anD, oAn, PyData.eqv]
  | some b =>
    show PyData.eqv (anD a) (anD b) = _
    rw [eqv_an]
    by_cases h : a = b <;> simp [h, eq_comm]
/-- _law_alike of two answers -/
theorem alike_an {p : Int} {t t' : Bool} {a : An} {b : Option An} {Q : PyData → Sls → Prop} (h10 : p < 10) (ha : AnOk p t a) (hb : ∀ c, b = some c → AnOk p t' c) (q : Q (.bool (decide (b = some a))) [.d (anD a), .d (oAn b)]) : a__law_alike [.d (anD a), .d (oAn b)] Q := by
  refine ⟨_, _, 0, 41, rfl, fit_an ha h10, ?_, by decide, by decide, ?_⟩
  · cases b with
    | none => exact fit_none
    | some b => exact fit_an (hb b rfl) h10
  · rw [eqv_oan]
    by_cases c : b = some a
    · have e : decide (PyData.shown (anD a) = PyData.shown (oAn b)) = true := by rw [c]; exact decide_eq_true rfl
      rw [e, Bool.and_true]
      exact q
    · rw [decide_eq_false c, Bool.false_and]
      rw [decide_eq_false c] at q
      exact q
theorem cs_get {cs : List Cl} {i : Nat} (h : i < cs.length) : ∃ c, cs[i]? = some c ∧ c ∈ cs := ⟨cs[i], List.getElem?_eq_getElem h, List.getElem_mem h⟩
theorem csD_set {cs : List Cl} {i : Nat} {c : Cl} : PyData.tuple ((cs.map clD).set i (clD c)) = csD (cs.set i c) := by
  unfold csD
  rw [List.map_set]
end R

namespace R
open PySem PySem.Spec PyProof.Rows L2 RX

/-! ### the calls by their stretches -/
def c0 : Cl := ⟨([], none), 0, none, none⟩
def clAt (cs : List Cl) (i : Nat) : Cl := cs.getD i c0
theorem clAt_get {cs : List Cl} {i : Nat} (h : i < cs.length) : cs[i]? = some (clAt cs i) := by
  unfold clAt
  rw [List.getD_eq_getElem?_getD, List.getElem?_eq_getElem h]
  rfl
theorem clAt_mem {cs : List Cl} {i : Nat} (h : i < cs.length) : clAt cs i ∈ cs := List.mem_of_getElem? (clAt_get h)
theorem clAt_of {cs : List Cl} {i : Nat} {c : Cl} (h : cs[i]? = some c) : clAt cs i = c := by
  unfold clAt
  rw [List.getD_eq_getElem?_getD, h]
  rfl
def idxL (q : Cl → Bool) (cs : List Cl) : List Nat := (List.range cs.length).filter fun i => q (clAt cs i)
def aheadIx (cs : List Cl) (i j : Nat) : Bool := aheadB (clAt cs i) (clAt cs j)
def aheadL (cs : List Cl) (j : Nat) : List Nat := (List.range cs.length).filter fun i => aheadIx cs i j
def behindL (cs : List Cl) (i : Nat) : List Nat := (List.range cs.length).filter fun j => aheadIx cs i j
theorem enD_cs (cs : List Cl) : enD 0 (cs.map clD) = (List.range cs.length).map fun i : Nat => .tuple [.int (i : Nat), clD (clAt cs i)] := by
  refine List.ext_getElem? fun i => ?_
  by_cases h : i < cs.length
  · rw [List.getElem?_map, List.getElem?_range h]
    have hl : i < (enD 0 (cs.map clD)).length := by rw [enD_len, List.length_map]; exact h
    obtain ⟨y, hy, e⟩ := enD_get (List.getElem?_eq_getElem hl)
    rw [List.getElem?_map, clAt_get h] at hy
    cases hy
    rw [List.getElem?_eq_getElem hl, e, Nat.zero_add]
    rfl
  · rw [List.getElem?_eq_none (by rw [enD_len, List.length_map]; omega), List.getElem?_eq_none (by rw [List.length_map, List.length_range]; omega)]
def tellB (c : Cl) : Bool := c.dd.2.isSome
def newB (c : Cl) : Bool := decide (c.a = some (some .new))
def lostB (c : Cl) : Bool := c.e.isNone && decide (c.a = some none)
def unheardB (c : Cl) : Bool := c.e.isSome && decide (c.a = some none)
def a_is_ahead : AF := fun as Q => ∃ p n cs, ∃ i j : Nat, as = [.d (whD p n cs), .d (.int i), .d (.int j)] ∧ i < cs.length ∧ j < cs.length ∧ Q (.bool (aheadIx cs i j)) as
def a_ahead_of : AF := fun as Q => ∃ p n cs, ∃ j : Nat, as = [.d (whD p n cs), .d (.int j)] ∧ j < cs.length ∧ cs.length ≤ 1000 ∧ Q (ordD (aheadL cs j)) as
def a_behind_of : AF := fun as Q => ∃ p n cs, ∃ j : Nat, as = [.d (whD p n cs), .d (.int j)] ∧ j < cs.length ∧ cs.length ≤ 1000 ∧ Q (ordD (behindL cs j)) as
def a_told_calls : AF := fun as Q => ∃ p n cs, as = [.d (whD p n cs)] ∧ cs.length ≤ 1000 ∧ Q (ordD (idxL tellB cs)) as
def a_asked_calls : AF := fun as Q => ∃ p n cs, as = [.d (whD p n cs)] ∧ cs.length ≤ 1000 ∧ Q (ordD (idxL (fun c => !tellB c) cs)) as
def a_new_calls : AF := fun as Q => ∃ p n cs, as = [.d (whD p n cs)] ∧ cs.length ≤ 1000 ∧ (∀ c ∈ cs, c.a ≠ none) ∧ Q (ordD (idxL newB cs)) as
def a_lost_calls : AF := fun as Q => ∃ p n cs, as = [.d (whD p n cs)] ∧ cs.length ≤ 1000 ∧ (∀ c ∈ cs, c.a ≠ none) ∧ Q (ordD (idxL lostB cs)) as
def a_unheard_calls : AF := fun as Q => ∃ p n cs, as = [.d (whD p n cs)] ∧ cs.length ≤ 1000 ∧ (∀ c ∈ cs, c.a ≠ none) ∧ Q (ordD (idxL unheardB cs)) as
theorem rgD_cs (cs : List Cl) : rgD 0 ((cs.map clD).length : Int).toNat = (List.range cs.length).map fun i : Nat => PyData.int (i : Nat) := by
  rw [List.length_map, show ((cs.length : Int)).toNat = cs.length by omega, rgD0]
  rfl
theorem isNone_oI (e : Option Int) : isNone (oI e) = e.isNone := by cases e <;> rfl
theorem isNone_oAn (a : Option An) : isNone (oAn a) = a.isNone := by
  cases a with
  | none => rfl
  | some a => cases a <;> rfl
theorem pl_oan (a : Option An) : Pl (oAn a) := by
  cases a with
  | none => exact pl_none
  | some a => exact pl_an a
theorem eqv_oan_new (a : Option An) : PyData.eqv (oAn a) (.str (Str.ofString "new")) = decide (a = some .new) := by
  cases a with
  | none => simp [oAn, PyData.eqv]
  | some a =>
    show PyData.eqv (anD a) _ = _
    rw [eqv_an_new]
    by_cases h : a = .new <;> simp [h]
theorem fit_nats {ns : List Nat} (h : ∀ i ∈ ns, i < 1000) (hl : ns.length ≤ 100) : Fit 1 4200 (.list (natsD ns)) ∧ Fit 1 4200 (ordD ns) := by
  have a : ∀ d ∈ natsD ns, Fit 0 41 d := fun d hd => by
    obtain ⟨i, hi, rfl⟩ := List.mem_map.mp hd
    have := h i hi
    exact fit_big (by omega)
  have l : (natsD ns).length ≤ 100 := by unfold natsD; rw [List.length_map]; exact hl
  exact ⟨fit_lstN 100 a l, fit_tupN 100 a l⟩
theorem has_nats (ns : List Nat) (i : Nat) : hasD (natsD ns) (.int (i : Nat)) = decide (i ∈ ns) := by
  unfold hasD natsD
  rw [List.any_map]
  by_cases h : i ∈ ns
  · rw [decide_eq_true h, List.any_eq_true]
    exact ⟨i, h, by show PyData.eqv _ _ = true; rw [eqv_int]; exact decide_eq_true rfl⟩
  · rw [decide_eq_false h, List.any_eq_false]
    intro j hj
    show ¬ PyData.eqv _ _ = true
    rw [eqv_int]
    intro e
    have := of_decide_eq_true e
    exact h (by have : j = i := by omega
                rw [← this]; exact hj)
theorem seqD_nats {ns : List Nat} {d : PyData} (h : d = .list (natsD ns) ∨ d = ordD ns) : seqD d = some (natsD ns) := by rcases h with rfl | rfl <;> rfl
theorem ClOk.shift {p : Int} {n : Nat} {B by_ : Int} {c : Cl} (h : ClOk p n B c) (h0 : -999999000 ≤ by_) (h1 : by_ ≤ 999999000) : ClOk p n (B + 999999000) (shift by_ c) := by
  refine ⟨h.dd, ?_, fun e he => ?_, h.an, fun hh => ?_, fun hp => ?_⟩
  · have := h.b
    show -(B + 999999000) ≤ c.b + by_ ∧ c.b + by_ ≤ B + 999999000
    omega
  · obtain ⟨e', e1, e2⟩ := Option.map_eq_some_iff.mp he
    have := h.e e' e1
    show c.b + by_ ≤ e ∧ e ≤ B + 999999000
    omega
  · rcases h.hole hh with e | e
    · exact .inl (by show c.e.map _ = none; rw [e]; rfl)
    · exact .inr e
  · intro e
    exact h.plan hp (by
      have e' : c.e.map (· + by_) = none := e
      cases hc : c.e with
      | none => rfl
      | some x => rw [hc] at e'; cases e')
end R

namespace RX
open PySem PySem.Spec PyProof.Rows L2
/-! ### sorted of a list of pairs that may stand anywhere, of a tuple of whole numbers -/
def lexLe (p q : Int × Int) : Prop := p.1 < q.1 ∨ (p.1 = q.1 ∧ p.2 ≤ q.2)
def rSortedPQ (K : PySem.W.Frag) : List V → Hp → VK → Prop := fun vs H Q => ∃ (a : Addr) (xs : List V) (prs : List (Int × Int)), vs = [V.ref a] ∧ SqL K H a xs ∧ xs.length = prs.length ∧
  (∀ (i : Nat) (x : V) (q : Int × Int), xs[i]? = some x → prs[i]? = some q → ∃ t, x = V.ref t ∧ SqT K H t [.int q.1, .int q.2]) ∧
  ∀ (zs : List (V × (Int × Int))) (p : Addr), zs.Perm (xs.zip prs) → zs.Pairwise (fun u v => lexLe u.2 v.2) → H p = none → Q (.ref p) (upd H p (.lst (zs.map (·.1))))
def numsOf (h : Heap) (u : Value) : Int × Int := ((TS.intsOf h u).getD 0 0, (TS.intsOf h u).getD 1 0)
theorem zip_as {α β γ : Type} {f : α → β} {g : α → γ} : ∀ {us : List α} {xs : List β} {ps : List γ}, xs = us.map f → ps = us.map g → xs.zip ps = us.map fun u => (f u, g u)
  | [], _, _, rfl, rfl => rfl
  | u :: us, _, _, rfl, rfl => by
    show _ :: (us.map f).zip (us.map g) = _ :: _
    rw [zip_as (us := us) rfl rfl]
theorem cr_sortedPQ {X : Cx} : CallR X (.builtin "sorted") (rSortedPQ X.K) := by
  intro pins s σ H vs us Q I r h
  obtain ⟨a, xs, prs, rfl, hs, hlen, hx, q⟩ := h
  obtain ⟨its, rv, hl, hz⟩ := I.list hs
  rw [Vals.ref1 r]
  have hlv := rv.length
  have hall : ∀ x ∈ xs, ∃ t, x = V.ref t := fun x m => by
    obtain ⟨i, hi, e⟩ := List.mem_iff_getElem.mp m
    obtain ⟨t, e', _⟩ := hx i x (prs[i]'(by omega)) (by rw [List.getElem?_eq_getElem hi, e]) (List.getElem?_eq_getElem (by omega))
    exact ⟨t, e'⟩
  obtain ⟨e1, e2⟩ := refs_back rv hall
  have num : ∀ (i : Nat) (u : Value), its[i]? = some u → ∃ q, prs[i]? = some q ∧ numsOf s.heap u = q ∧ Srt.IsPair s.heap u q.1 q.2 := fun i u hu => by
    have hi : i < its.length := (List.getElem?_eq_some_iff.mp hu).1
    have hxi : xs[i]? = some (backV u) := by rw [e1, List.getElem?_map, hu]; rfl
    obtain ⟨q, hq⟩ : ∃ q, prs[i]? = some q := ⟨prs[i]'(by omega), List.getElem?_eq_getElem (by omega)⟩
    obtain ⟨t, et, ht⟩ := hx i (backV u) q hxi hq
    obtain ⟨b, rfl⟩ := e2 u (List.mem_of_getElem? hu)
    cases et
    refine ⟨q, hq, ?_, ?_⟩
    · have := (tupI_raw (ns := [q.1, q.2]) I ht).ints
      unfold numsOf
      rw [this]
      rfl
    · obtain ⟨its2, r2, ⟨o, ho, hc, n, hd⟩, _⟩ := I.tuple ht
      cases r2 with
      | cons ri r2 =>
        cases r2 with
        | cons rj r2 =>
          cases r2
          obtain ⟨t1, rfl⟩ := ri
          obtain ⟨t2, rfl⟩ := rj
          exact ⟨_, o, t1, t2, n, rfl, ho, hc, hd⟩
  have eprs : prs = its.map (numsOf s.heap) := by
    refine List.ext_getElem? fun i => ?_
    rw [List.getElem?_map]
    cases hu : its[i]? with
    | none =>
      have := List.getElem?_eq_none_iff.mp hu
      rw [List.getElem?_eq_none (by omega)]
      rfl
    | some u =>
      obtain ⟨q, hq, e, _⟩ := num i u hu
      rw [hq, ← e]
      rfl
  refine SrtO.sorted_pairsO (k := numsOf s.heap) hl.isList (by rw [← rv.length]; exact hz) (fun v hv => ?_) fun h' d out h1 h2 kp hd hn => ?_
  · obtain ⟨i, hi, e⟩ := List.mem_iff_getElem.mp hv
    obtain ⟨q, _, e', pr⟩ := num i v (by rw [List.getElem?_eq_getElem hi, e])
    rw [e']
    exact pr
  · have h3 : ∀ u ∈ out, ∃ a, u = Value.ref a := fun u hu => e2 u (h2.perm.mem_iff.mp hu)
    obtain ⟨n, hn⟩ := hn
    have pm : (out.map fun u => (backV u, numsOf s.heap u)).Perm (xs.zip prs) := by
      rw [zip_as e1 eprs]
      exact h2.perm.map _
    have em : (out.map fun u => (backV u, numsOf s.heap u)).map (·.1) = out.map backV := by rw [List.map_map]; rfl
    have qq := q _ d pm ?_ (I.hok.fresh hd)
    · rw [em] at qq
      have hz2 : (out.map backV).length ≤ sizeLine := by rw [List.length_map, h2.perm.length_eq]; omega
      exact ⟨.ref d, upd H d (.lst (out.map backV)), I.laid (t' := s.toks) kp hd ⟨hz2, out, n, vals_back h3, hn⟩, rfl, qq⟩
    · refine List.pairwise_map.mpr (h1.imp fun {u v} hlt => ?_)
      have := SrtO.lexB_no.mp hlt
      show lexLe (numsOf s.heap u) (numsOf s.heap v)
      unfold lexLe
      omega
/-! sorted(t), t a tuple -/
section
variable {prog : Program} {w : World} {A : Around} {E : Value → Shared → Prop} {s : Shared}
theorem gather_tup {t : Addr} {us : List Value} {R : List Value → Shared → Prop} (ht : IsTup s.heap t us.toArray) (hus : us.length ≤ sizeLine)
    (h : R us { s with heap := (s.heap.push (seqObj "list" #[] 0)).update s.heap.objs.size (Obj.mapSeq (· ++ us.toArray)) }) : wpAny (model prog w) A (collect (.ref t)) R E s := by
  obtain ⟨ob, hob, hcl, m, hdat⟩ := ht
  have hnew : (s.heap.push (seqObj "list" #[] 0)).get? s.heap.objs.size = some (seqObj "list" #[] 0) := Heap.get?_push_size _ rfl
  have hold : (s.heap.push (seqObj "list" #[] 0)).get? t = some ob := Heap.get?_push_of_some _ hob
  have hlen : us.toArray.size ≤ sizeLine := hus
  unfold collect
  refine wpAny_bind (wpAny_runValue (codeAny_builtin entry_proto_collect' (show wpAny _ _ (do again (.builtin "list.__iadd__" ⟨[← newList [], .ref t], []⟩)) _ _ s from ?_)))
  refine wpAny_bind (wpAny_newList (wpAny_pure ⟨Code.quiet_builtin _ (by decide +kernel), codeAny_builtin entry_list_iadd' (show wpAny _ _ (Builtin.List.listExtendWith (.ref s.heap.objs.size) (.ref t) (.ref s.heap.objs.size)) _ _ { s with heap := s.heap.push (seqObj "list" #[] 0) } from ?_)⟩))
  unfold Builtin.List.listExtendWith
  refine wpAny_bind (wpAny_typeOf (v := .ref t) (T := "tuple") ⟨ob, hold, hcl⟩ ?_)
  have isT : (Value.type "tuple" == Value.type "tuple") = true := rfl
  rw [if_pos (by rw [isT, Bool.or_true])]
  refine wpAny_bind (listItems_at hold hdat (wpAny_bind (listItems_at (n := 0) hnew rfl ?_)))
  rw [if_neg (by simp)]
  refine wpAny_bind (listUpdate_at (n := 0) hnew rfl (wpAny_pure (show wpAny (model prog w) A (do
      let o ← load s.heap.objs.size
      match o.data with
      | .seq ys _ => pure ys.toList
      | _ => unsupported "internal:collect") R E { s with heap := (s.heap.push (seqObj "list" #[] 0)).update s.heap.objs.size (Obj.mapSeq (· ++ us.toArray)) } from wpAny_bind (wpAny_load (get?_update_seq hnew _) ?_))) (Nat.zero_le _) ?_)
  · have eu : ((#[] : Array Value) ++ us.toArray).toList = us := by simp
    show wpAny _ _ (pure ((#[] : Array Value) ++ us.toArray).toList) R E _
    rw [eu]
    exact wpAny_pure h
  · have ez : ((#[] : Array Value) ++ us.toArray).size = us.length := by simp
    show ((#[] : Array Value) ++ us.toArray).size ≤ sizeLine + 1
    omega
theorem sorted_tup {t : Addr} {us : List Value} {ns : List Int} {R : Value → Shared → Prop} (ht : IsTup s.heap t us.toArray) (hI : IntsAre us ns) (hus : us.length ≤ sizeLine)
    (h : ∀ out : List Value, SrtO.Srtd SrtO.ltIv out → SrtO.Stb SrtO.ltIv out us → R (.ref (s.heap.objs.size + 1)) { s with heap := sortedAll s.heap us out.toArray }) :
    wpAny (model prog w) A (call (.builtin "sorted") [.ref t]) R E s := by
  let h1 : Heap := (s.heap.push (seqObj "list" #[] 0)).update s.heap.objs.size (Obj.mapSeq (· ++ us.toArray))
  have size1 : h1.objs.size = s.heap.objs.size + 1 := (congrArg (·) (Heap.size_update ..)).trans (size_push' ..)
  have at1 : (h1.push (seqObj "list" us.toArray 0)).get? (s.heap.objs.size + 1) = some (seqObj "list" us.toArray 0) := (congrArg _ size1.symm).trans (Heap.get?_push_size _ rfl)
  refine Calls.call_function_entry kind_sorted plain_sorted entry_sorted (args_sorted1 _) ?_
  unfold Builtin.«sorted»
  refine wpAny_bind (m := checkCount "sorted" 1 1 _) (wpAny_pure (wpAny_bind (gather_tup ht hus (wpAny_bind (wpAny_newList ?_ hus)))))
  show wpAny _ _ _ _ _ { s with heap := h1.push (seqObj "list" us.toArray 0) }
  rw [show ((s.heap.push (seqObj "list" #[] 0)).update s.heap.objs.size (Obj.mapSeq (· ++ us.toArray))).objs.size = s.heap.objs.size + 1 from size1]
  refine wpAny_bind (wpAny_holding (wpAny_call_entry slot_list_sort ⟨_, at1, rfl⟩ entry_list_sort (SrtO.list_sort_ord SrtO.swo_int at1 hus (fun two => SrtO.ints_sortable hI two) fun out hs hb => ⟨_, rfl, wpAny_pure ⟨_, rfl, h out hs hb⟩⟩) (args_list_sort _)))
/-- sorted of a list or of a tuple of whole numbers -/
def rSortedQ (K : PySem.W.Frag) : List V → Hp → VK → Prop := fun vs H Q => ∃ (a : Addr) (ns : List Int), vs = [V.ref a] ∧ (SqL K H a (ns.map V.int) ∨ SqT K H a (ns.map V.int)) ∧
  ∀ (ns' : List Int) (p : Addr), ns'.Perm ns → ns'.Pairwise (· ≤ ·) → H p = none → Q (.ref p) (upd H p (.lst (ns'.map V.int)))
theorem cr_sortedQ {X : Cx} : CallR X (.builtin "sorted") (rSortedQ X.K) := by
  intro pins s σ H vs us Q I r h
  obtain ⟨a, ns, rfl, hs | hs, q⟩ := h
  · exact cr_sortedI pins s σ H _ us Q I r ⟨a, ns, rfl, hs, q⟩
  obtain ⟨its, rv, ht, hz⟩ := I.tuple hs
  rw [Vals.ref1 r]
  have hi := rv.ints
  have hl := rv.length
  refine sorted_tup ht hi (by omega) fun out h1 h2 => ?_
  obtain ⟨k1, k2, k3⟩ := SrtO.ints_out hi h1 h2
  obtain ⟨ep, he⟩ := PyProof.Rows.sortedAll_at s.heap its out.toArray
  have hlen : ((out.map SrtO.iv).map V.int).length ≤ sizeLine := by
    have := k2.length_eq
    rw [List.length_map] at hz ⊢
    omega
  refine ⟨.ref _, upd H (s.heap.objs.size + 1) (.lst ((out.map SrtO.iv).map V.int)), ?_, rfl, q _ _ k2 k3 (I.hok.fresh (Nat.le_succ _))⟩
  exact I.laid (t' := s.toks) (fun _ _ => PyProof.Rows.sortedAll_old) (Nat.le_succ _) ⟨hlen, out, ep, vals_of_ints k1, he⟩
end
end RX
namespace R
open PySem PySem.Spec PyProof.Rows L2 RX
theorem b_sorted : bootBuiltins (Str.ofString "sorted") = some (.builtin "sorted") := by decide +kernel
section
variable {K : Frag} {ta tb te tc : TE} {a b c : AE} {G H : Hp} {σ : L2.St}
/-- sorted of whole numbers: the same, ascending -/
def fSortI : FC := fun ds P => ∃ (d : PyData) (ns : List Int), ds = [d] ∧ seqD d = some (ns.map PyData.int) ∧ ∀ out : List Int, out.Perm ns → out.Pairwise (· ≤ ·) → P (.list (out.map PyData.int))
theorem lc_sortI : LC K (rSortedQ K) fSortI := fun σ G H sl vs ds P E hd ⟨d, ns, e, es, p⟩ Q q => by
  subst e
  obtain ⟨v, rfl, dv⟩ := dq1 hd
  obtain ⟨tp, x, xs, rfl, sq, al⟩ := dv.seq es
  have ex := al.ints_inv
  subst ex
  refine ⟨x, ns, rfl, ?_, fun out p' h1 h2 hp => q _ _ _ _ (E.new hp) (Grow.new E hp) (.lst (SqL.of upd_same) DqAll.ints) (p out h1 h2)⟩
  cases tp with
  | true => exact .inr (E.le.sqT sq)
  | false => exact .inl (E.le.sqL sq)
def prI (q : Int × Int) : PyData := .tuple [.int q.1, .int q.2]
def fSortP : FC := fun ds P => ∃ prs : List (Int × Int), ds = [.list (prs.map prI)] ∧ ∀ out : List (Int × Int), out.Perm prs → out.Pairwise lexLe → P (.list (out.map prI))
theorem dqAll_of : ∀ {vs : List V} {ds : List PyData}, vs.length = ds.length → (∀ (i : Nat) v d, vs[i]? = some v → ds[i]? = some d → Dq K G v d) → DqAll K G vs ds
  | [], [], _, _ => .nil
  | [], _ :: _, h, _ => by simp at h
  | _ :: _, [], h, _ => by simp at h
  | v :: vs, d :: ds, h, f => .cons (f 0 v d rfl rfl) (dqAll_of (by simpa using h) fun i v' d' h1 h2 => f (i + 1) v' d' (by simpa using h1) (by simpa using h2))
theorem lc_sortP : LC K (rSortedPQ K) fSortP := fun σ G H sl vs ds P E hd ⟨prs, e, p⟩ Q q => by
  subst e
  obtain ⟨v, rfl, dv⟩ := dq1 hd
  cases dv with
  | lst sq al =>
    rename_i a xs
    have hl : xs.length = prs.length := by rw [al.length, List.length_map]
    have at_ : ∀ (i : Nat) (x : V) (pr : Int × Int), xs[i]? = some x → prs[i]? = some pr → Dq K G x (prI pr) := fun i x pr h1 h2 => by
      obtain ⟨d, hd1, hd2⟩ := al.getV h1
      rw [List.getElem?_map, h2] at hd1
      cases hd1
      exact hd2
    refine ⟨a, xs, prs, rfl, E.le.sqL sq, hl, fun i x pr h1 h2 => ?_, fun zs p' h1 h2 hp => ?_⟩
    · have dx := at_ i x pr h1 h2
      unfold prI at dx
      cases dx with
      | tup s2 al2 =>
        have e2 := DqAll.ints_inv (ns := [pr.1, pr.2]) al2
        subst e2
        exact ⟨_, rfl, E.le.sqT s2.sqT⟩
    · have mem : ∀ z ∈ zs, Dq K G z.1 (prI z.2) := fun z hz => by
        obtain ⟨i, hi, e⟩ := List.mem_iff_getElem.mp (h1.mem_iff.mp hz)
        rw [List.length_zip] at hi
        rw [List.getElem_zip] at e
        rw [← e]
        exact at_ i _ _ (List.getElem?_eq_getElem (by omega)) (List.getElem?_eq_getElem (by omega))
      have all : DqAll K G (zs.map (·.1)) ((zs.map (·.2)).map prI) := by
        refine dqAll_of (by rw [List.length_map, List.length_map, List.length_map]) fun i v d h3 h4 => ?_
        rw [List.getElem?_map] at h3
        rw [List.getElem?_map, List.getElem?_map] at h4
        cases hz : zs[i]? with
        | none => rw [hz] at h3; cases h3
        | some z =>
          rw [hz] at h3 h4
          cases h3; cases h4
          exact mem z (List.mem_of_getElem? hz)
      have pm : (zs.map (·.2)).Perm prs := by
        have := h1.map (·.2)
        rw [List.map_snd_zip (by omega)] at this
        exact this
      exact q _ _ _ _ (E.new hp) (Grow.new E hp) (.lst (SqL.of upd_same) (all.mono (Le.new (E.gnone hp)))) (p _ pm (List.pairwise_map.mpr h2))
end
end R

namespace R
open PySem PySem.Spec PyProof.Rows L2 RX

theorem if_no {b : Bool} {A C : Prop} (hb : b = false) (h : C) : (b = true → A) ∧ (b = false → C) := ⟨(fun c => by rw [hb] at c; cases c), fun _ => h⟩
theorem if_yes {b : Bool} {A C : Prop} (hb : b = true) (h : A) : (b = true → A) ∧ (b = false → C) := ⟨(fun _ => h), fun c => by rw [hb] at c; cases c⟩
/-! ### sorted, and by begins -/
def lexB' (p q : Int × Int) : Bool := decide (p.1 < q.1) || (decide (p.1 = q.1) && decide (p.2 ≤ q.2))
theorem lexB'_iff {p q : Int × Int} : lexB' p q = true ↔ lexLe p q := by
  unfold lexB' lexLe
  simp only [Bool.or_eq_true, Bool.and_eq_true, decide_eq_true_eq]
def srtP (prs : List (Int × Int)) : List (Int × Int) := prs.mergeSort lexB'
theorem srtP_perm (prs : List (Int × Int)) : (srtP prs).Perm prs := List.mergeSort_perm _ _
theorem srtP_le (prs : List (Int × Int)) : (srtP prs).Pairwise lexLe := by
  refine List.Pairwise.imp (fun {a b} h => lexB'_iff.mp h) (List.pairwise_mergeSort (le := lexB') (fun a b c h1 h2 => ?_) (fun a b => ?_) prs)
  · have h1 := lexB'_iff.mp h1
    have h2 := lexB'_iff.mp h2
    refine lexB'_iff.mpr ?_
    unfold lexLe at *
    omega
  · rw [Bool.or_eq_true, lexB'_iff, lexB'_iff]
    unfold lexLe
    omega
theorem srtP_uniq {out prs : List (Int × Int)} (h1 : out.Perm prs) (h2 : out.Pairwise lexLe) : out = srtP prs := by
  refine List.Perm.eq_of_pairwise (le := lexLe) (fun a b _ _ h h' => ?_) h2 (srtP_le prs) (h1.trans (srtP_perm prs).symm)
  obtain ⟨a1, a2⟩ := a
  obtain ⟨b1, b2⟩ := b
  unfold lexLe at h h'
  simp only at h h'
  have e1 : a1 = b1 := by omega
  have e2 : a2 = b2 := by omega
  rw [e1, e2]
def byB (cs : List Cl) (lot : List Nat) : List Nat := (srtP (lot.map fun i => ((clAt cs i).b, (i : Int)))).map fun q => q.2.toNat
theorem byB_perm (cs : List Cl) (lot : List Nat) : (byB cs lot).Perm lot := by
  have := (srtP_perm (lot.map fun i => ((clAt cs i).b, (i : Int)))).map fun q => q.2.toNat
  rw [List.map_map] at this
  refine this.trans (List.Perm.of_eq ?_)
  refine (List.map_congr_left fun i _ => ?_).trans (List.map_id lot)
  show ((i : Int)).toNat = i
  omega
theorem srtP_mem {cs : List Cl} {lot : List Nat} {q : Int × Int} (h : q ∈ srtP (lot.map fun i => ((clAt cs i).b, (i : Int)))) : ∃ i ∈ lot, q = ((clAt cs i).b, (i : Int)) := by
  obtain ⟨i, hi, rfl⟩ := List.mem_map.mp ((srtP_perm _).mem_iff.mp h)
  exact ⟨i, hi, rfl⟩
theorem byB_le (cs : List Cl) (lot : List Nat) : (byB cs lot).Pairwise fun x y => (clAt cs x).b ≤ (clAt cs y).b := by
  refine List.pairwise_map.mpr (List.Pairwise.imp_of_mem (fun {a b} ha hb h => ?_) (srtP_le _))
  obtain ⟨i, _, rfl⟩ := srtP_mem ha
  obtain ⟨j, _, rfl⟩ := srtP_mem hb
  show (clAt cs ((i : Int)).toNat).b ≤ (clAt cs ((j : Int)).toNat).b
  rw [show ((i : Int)).toNat = i by omega, show ((j : Int)).toNat = j by omega]
  unfold lexLe at h
  simp only at h
  omega
theorem byB_data (cs : List Cl) (lot : List Nat) : (srtP (lot.map fun i => ((clAt cs i).b, (i : Int)))).map (fun q => PyData.int q.2) = natsD (byB cs lot) := by
  unfold natsD byB
  rw [List.map_map]
  refine List.map_congr_left fun q hq => ?_
  obtain ⟨i, _, rfl⟩ := srtP_mem hq
  show PyData.int (i : Int) = .int ((((i : Int)).toNat : Nat) : Int)
  rw [show ((i : Int)).toNat = i by omega]
/-! ### orders -/
def pairB (cs : List Cl) : List Nat → Bool
  | [] => true
  | x :: xs => (x :: xs).all (fun y => !aheadIx cs y x) && pairB cs xs
def isOrd (cs : List Cl) (ns : List Nat) : Bool := decide (ns.Perm (List.range cs.length)) && pairB cs ns
theorem pairB_of {cs : List Cl} : ∀ {ns : List Nat}, (∀ x ∈ ns, aheadIx cs x x = false) → ns.Pairwise (fun x y => aheadIx cs y x = false) → pairB cs ns = true
  | [], _, _ => rfl
  | x :: xs, h, hp => by
    have hp' := List.pairwise_cons.mp hp
    show ((x :: xs).all (fun y => !aheadIx cs y x) && pairB cs xs) = true
    rw [Bool.and_eq_true]
    refine ⟨List.all_eq_true.mpr fun y hy => ?_, pairB_of (fun y hy => h y (List.mem_cons_of_mem _ hy)) hp'.2⟩
    rcases List.mem_cons.mp hy with rfl | hy
    · rw [h y (List.mem_cons_self ..)]; rfl
    · rw [hp'.1 y hy]; rfl
/-- calls end when they begin, or later -/
def Fwd (cs : List Cl) : Prop := ∀ c ∈ cs, ∀ e, c.e = some e → c.b ≤ e
theorem fwd_at {cs : List Cl} (h : Fwd cs) {i : Nat} {e : Int} (he : (clAt cs i).e = some e) : (clAt cs i).b ≤ e := by
  by_cases hi : i < cs.length
  · exact h _ (clAt_mem hi) e he
  · unfold clAt at he
    rw [List.getD_eq_getElem?_getD, List.getElem?_eq_none (by omega)] at he
    cases he
theorem ah_iff {cs : List Cl} {i j : Nat} : aheadIx cs i j = true ↔ ∃ e, (clAt cs i).e = some e ∧ e < (clAt cs j).b := by
  unfold aheadIx aheadB
  cases he : (clAt cs i).e with
  | none => exact ⟨fun h => (nomatch h), fun ⟨e, h, _⟩ => (nomatch h)⟩
  | some e => exact ⟨fun h => ⟨e, rfl, of_decide_eq_true h⟩, fun ⟨e', h, h'⟩ => by cases h; exact decide_eq_true h'⟩
theorem ah_no {cs : List Cl} {i j : Nat} : aheadIx cs i j = false ↔ ¬ ∃ e, (clAt cs i).e = some e ∧ e < (clAt cs j).b := by
  rw [← ah_iff]
  cases aheadIx cs i j <;> simp
theorem ah_irr {cs : List Cl} (h : Fwd cs) (i : Nat) : aheadIx cs i i = false := ah_no.mpr fun ⟨e, h1, h2⟩ => by
  have := fwd_at h h1
  omega
theorem ah_trans {cs : List Cl} (h : Fwd cs) {i j k : Nat} (h1 : aheadIx cs i j = true) (h2 : aheadIx cs j k = true) : aheadIx cs i k = true := by
  obtain ⟨e, a1, a2⟩ := ah_iff.mp h1
  obtain ⟨e', b1, b2⟩ := ah_iff.mp h2
  have := fwd_at h b1
  exact ah_iff.mpr ⟨e, a1, by omega⟩
theorem ah_asym {cs : List Cl} (h : Fwd cs) {i j : Nat} (h1 : aheadIx cs i j = true) : aheadIx cs j i = false := by
  cases c : aheadIx cs j i with
  | false => rfl
  | true => have := ah_trans h h1 c; rw [ah_irr h] at this; cases this
theorem ah_begin {cs : List Cl} (h : Fwd cs) {x y : Nat} (hb : (clAt cs x).b ≤ (clAt cs y).b) : aheadIx cs y x = false := ah_no.mpr fun ⟨e, h1, h2⟩ => by
  have := fwd_at h h1
  omega
def othersL (cs : List Cl) (i : Nat) : List Nat := (List.range cs.length).filter fun j => !decide (j = i)
def aroundL (cs : List Cl) (A : Nat → Bool) (i : Nat) : List Nat := byB cs ((othersL cs i).filter A) ++ [i] ++ byB cs ((othersL cs i).filter fun j => !A j)
theorem around_perm {cs : List Cl} {A : Nat → Bool} {i : Nat} (hi : i < cs.length) : (aroundL cs A i).Perm (List.range cs.length) := by
  unfold aroundL
  have h1 : (byB cs ((othersL cs i).filter A) ++ [i] ++ byB cs ((othersL cs i).filter fun j => !A j)).Perm ((othersL cs i).filter A ++ [i] ++ (othersL cs i).filter fun j => !A j) := ((byB_perm _ _).append_right _).append (byB_perm _ _)
  refine h1.trans ?_
  rw [List.append_assoc]
  refine List.perm_middle.trans ?_
  refine ((List.filter_append_perm A (othersL cs i)).cons i).trans ?_
  have h2 := List.filter_append_perm (fun j => decide (j = i)) (List.range cs.length)
  refine List.Perm.trans ?_ h2
  have e : (List.range cs.length).filter (fun j => decide (j = i)) = [i] := by
    have : ∀ n, i < n → (List.range n).filter (fun j => decide (j = i)) = [i] := fun n => by
      induction n with
      | zero => intro h; omega
      | succ n ih =>
        intro h
        rw [List.range_succ, List.filter_append]
        by_cases c : i < n
        · rw [ih c]
          have : decide (n = i) = false := decide_eq_false (by omega)
          simp [this]
        · have e : n = i := by omega
          subst e
          have : (List.range n).filter (fun j => decide (j = n)) = [] := List.filter_eq_nil_iff.mpr fun j hj => by
            have := List.mem_range.mp hj
            simp only [decide_eq_true_eq]
            omega
          rw [this]
          simp
    exact this _ hi
  rw [e]
  exact .refl _
theorem around_pair {cs : List Cl} {A : Nat → Bool} {i : Nat} (hf : Fwd cs) (h1 : ∀ x, A x = true → x ≠ i → aheadIx cs i x = false) (h2 : ∀ y, A y = false → y ≠ i → aheadIx cs y i = false) (h3 : ∀ x y, A x = true → A y = false → x ≠ i → y ≠ i → aheadIx cs y x = false) :
    pairB cs (aroundL cs A i) = true := by
  have m1 : ∀ x ∈ byB cs ((othersL cs i).filter A), A x = true ∧ x ≠ i := fun x hx => by
    have := List.mem_filter.mp ((byB_perm _ _).mem_iff.mp hx)
    exact ⟨this.2, by have := (List.mem_filter.mp this.1).2; simpa using this⟩
  have m2 : ∀ x ∈ byB cs ((othersL cs i).filter fun j => !A j), A x = false ∧ x ≠ i := fun x hx => by
    have := List.mem_filter.mp ((byB_perm _ _).mem_iff.mp hx)
    exact ⟨by simpa using this.2, by have := (List.mem_filter.mp this.1).2; simpa using this⟩
  refine pairB_of (fun x _ => ah_irr hf x) ?_
  have srt : ∀ lot, (byB cs lot).Pairwise fun x y => aheadIx cs y x = false := fun lot => (byB_le cs lot).imp fun {x y} h => ah_begin hf h
  unfold aroundL
  rw [List.append_assoc]
  refine List.pairwise_append.mpr ⟨srt _, List.pairwise_cons.mpr ⟨fun y hy => h2 y (m2 y hy).1 (m2 y hy).2, srt _⟩, fun x hx y hy => ?_⟩
  obtain ⟨a1, a2⟩ := m1 x hx
  rcases List.mem_cons.mp hy with rfl | hy
  · exact h1 x a1 a2
  · obtain ⟨b1, b2⟩ := m2 y hy
    exact h3 x y a1 b1 a2 b2
def earlyL (cs : List Cl) (i : Nat) : List Nat := aroundL cs (fun j => aheadIx cs j i) i
def lateL (cs : List Cl) (i : Nat) : List Nat := aroundL cs (fun j => !aheadIx cs i j) i
theorem early_ord {cs : List Cl} {i : Nat} (hf : Fwd cs) (hi : i < cs.length) : isOrd cs (earlyL cs i) = true := by
  unfold isOrd earlyL
  rw [decide_eq_true (around_perm hi), Bool.true_and]
  refine around_pair hf (fun x hx _ => ah_asym hf hx) (fun y hy _ => hy) fun x y hx hy _ _ => ?_
  cases c : aheadIx cs y x with
  | false => rfl
  | true => have := ah_trans hf c hx; rw [hy] at this; cases this
theorem late_ord {cs : List Cl} {i : Nat} (hf : Fwd cs) (hi : i < cs.length) : isOrd cs (lateL cs i) = true := by
  unfold isOrd lateL
  rw [decide_eq_true (around_perm hi), Bool.true_and]
  refine around_pair hf (fun x hx _ => by simpa using hx) (fun y hy _ => ah_asym hf (by simpa using hy)) fun x y hx hy _ _ => ?_
  have hy' : aheadIx cs i y = true := by simpa using hy
  have hx' : aheadIx cs i x = false := by simpa using hx
  cases c : aheadIx cs y x with
  | false => rfl
  | true => have := ah_trans hf hy' c; rw [hx'] at this; cases this
def a__by_begins : AF := fun as Q => ∃ p n cs lot d, as = [.d (whD p n cs), .d d] ∧ seqD d = some (natsD lot) ∧ (∀ i ∈ lot, i < cs.length) ∧ lot.length ≤ 1000 ∧ Q (ordD (byB cs lot)) as
def a__order_around : AF := fun as Q => ∃ p n cs A, ∃ i : Nat, ∃ d, as = [.d (whD p n cs), .d d, .d (.int i)] ∧ seqD d = some (natsD A) ∧ cs.length ≤ 100 ∧ Q (ordD (aroundL cs (fun j => decide (j ∈ A)) i)) as
def a_early_order : AF := fun as Q => ∃ p n cs, ∃ i : Nat, as = [.d (whD p n cs), .d (.int i)] ∧ i < cs.length ∧ cs.length ≤ 100 ∧ Q (ordD (earlyL cs i)) as
def a_late_order : AF := fun as Q => ∃ p n cs, ∃ i : Nat, as = [.d (whD p n cs), .d (.int i)] ∧ i < cs.length ∧ cs.length ≤ 100 ∧ Q (ordD (lateL cs i)) as
def a__law_by_begins : AF := fun as Q => ∃ cs lot d, as = [.d (csD cs), .d d] ∧ seqD d = some (natsD lot) ∧ (∀ i ∈ lot, i < cs.length) ∧ lot.length ≤ 1000 ∧ Q (ordD (byB cs lot)) as
def a__law_is_order : AF := fun as Q => ∃ cs ns, as = [.d (csD cs), .d (ordD ns)] ∧ cs.length ≤ 100 ∧ ns.length ≤ 1000 ∧ Q (.bool (isOrd cs ns)) as
theorem around_congr {cs : List Cl} {A A' : Nat → Bool} {i : Nat} (h : ∀ j, j < cs.length → A j = A' j) : aroundL cs A i = aroundL cs A' i := by
  unfold aroundL
  have e1 : (othersL cs i).filter A = (othersL cs i).filter A' := List.filter_congr fun j hj => h j (List.mem_range.mp (List.mem_filter.mp hj).1)
  have e2 : (othersL cs i).filter (fun j => !A j) = (othersL cs i).filter fun j => !A' j := List.filter_congr fun j hj => by rw [h j (List.mem_range.mp (List.mem_filter.mp hj).1)]
  rw [e1, e2]
theorem enD_map {α : Type} (f : α → PyData) (d : α) (xs : List α) : enD 0 (xs.map f) = (List.range xs.length).map fun i : Nat => .tuple [.int (i : Nat), f (xs.getD i d)] := by
  refine List.ext_getElem? fun i => ?_
  by_cases h : i < xs.length
  · rw [List.getElem?_map, List.getElem?_range h]
    have hl : i < (enD 0 (xs.map f)).length := by rw [enD_len, List.length_map]; exact h
    obtain ⟨y, hy, e⟩ := enD_get (List.getElem?_eq_getElem hl)
    rw [List.getElem?_map, List.getElem?_eq_getElem h] at hy
    cases hy
    rw [List.getElem?_eq_getElem hl, e, Nat.zero_add]
    have : xs.getD i d = xs[i] := by rw [List.getD_eq_getElem?_getD, List.getElem?_eq_getElem h]; rfl
    show some (PyData.tuple [.int (i : Nat), f xs[i]]) = some (PyData.tuple [.int (i : Nat), f (xs.getD i d)])
    rw [this]
  · rw [List.getElem?_eq_none (by rw [enD_len, List.length_map]; omega), List.getElem?_eq_none (by rw [List.length_map, List.length_range]; omega)]
theorem sorted_range {ns : List Nat} {m : Nat} {out : List Int} (h1 : out.Perm (ns.map fun i : Nat => (i : Int))) (h2 : out.Pairwise (· ≤ ·)) : decide (out = (List.range m).map fun i : Nat => (i : Int)) = decide (ns.Perm (List.range m)) := by
  have hr : ((List.range m).map fun i : Nat => (i : Int)).Pairwise (· ≤ ·) := List.pairwise_map.mpr ((List.pairwise_lt_range (n := m)).imp fun {a b} h => by omega)
  by_cases c : ns.Perm (List.range m)
  · rw [decide_eq_true c]
    refine decide_eq_true (List.Perm.eq_of_pairwise (le := (· ≤ ·)) (fun a b _ _ h h' => by omega) h2 hr (h1.trans (c.map _)))
  · rw [decide_eq_false c]
    refine decide_eq_false fun e => c ?_
    have h3 := (h1.symm.trans (List.Perm.of_eq e)).map Int.toNat
    rw [List.map_map, List.map_map] at h3
    have id1 : ∀ xs : List Nat, xs.map (Int.toNat ∘ fun i : Nat => (i : Int)) = xs := fun xs => (List.map_congr_left fun i _ => by show ((i : Int)).toNat = i; omega).trans (List.map_id xs)
    rw [id1, id1] at h3
    exact h3
end R

namespace RX
open PySem PySem.Spec PyProof.Rows L2
/-! ### objects, where no repr is under way and nothing is raised -/
section
variable {X : Cx} {k : Nat} {f C : Addr} {fd : FuncData} {ps : List Str} {sp : SpG} {x m : Str} {p pos apos : Pos} {e o : Expr} {es : List Expr} {ta : TE} {t : TA}
/-- o.m(..) of an instance of the class at C -/
def tMthG (C : Addr) (m : Str) (sp : SpG) (ta : TE) (t : TA) : TE := fun σ H Q => ta σ H fun x H1 => ∃ a dx fs, x = .ref a ∧ H1 a = some (.ins C dx fs) ∧ fs.lookup m = none ∧ t σ H1 fun vs H2 => sp (x :: vs) H2 Q
theorem pe_mthG {pl : Sem Bool} (he : PE X o ta) (c : Cls X.K C) (hm : Meth X.K C m f) (F : FnG X.prog X.w X.K X.mg X.base k f fd ps sp) (hr : Room k X.A) (hgu : X.A.guards = some []) (hb : Binds X.K fd ps []) (ha : PA X (e :: es) t)
    (hst : starEach (e :: es) X.env = (false, eval e X.env) :: starEach es X.env := by rfl) (hpl : (backTo pos (starEach es X.env)).any (·.1) = false := by rfl)
    (ht : eval (.Call (.Attribute o m apos) (e :: es) [] pos) X.env = (do
      let ov ← eval o X.env
      standAt apos.atName
      let (f, first) ← holding [ov] (getMethod ov m pl)
      callWith pos f first (backTo pos (starEach (e :: es) X.env)) (backToKw pos (keywordEach [] X.env))) := by rfl) :
    PE X (.Call (.Attribute o m apos) (e :: es) [] pos) (tMthG C m sp ta t) := by
  refine ⟨fun pins s σ H Q I h => ?_⟩
  refine PySem.W.methodCall_KW (pl := pl) (thn (he.run pins s σ H _ I h) fun u s1 ⟨x, H1, I1, rx, a, dx, fs, ex, ea, l, q⟩ => ?_) ht
  subst ex
  obtain rfl : u = Value.ref a := rx
  refine getmeth_ok I1 ea c hm l ?_
  refine PySem.W.callWith_K (first := [.ref a]) (h₀ := X.base) I.ok.mod.kin hm.kp (thn (ha.run pos pins s1 σ H1 _ I1 q) fun us s2 ⟨vs, H2, I2, r, q2⟩ => ⟨I2.kIn, ?_⟩) hst hpl
  exact run_fnG (us := .ref a :: us) (vs := .ref a :: vs) F hr hgu hb I2 (.cons rfl r) q2
theorem pe_mthG0 {pl : Sem Bool} (he : PE X o ta) (c : Cls X.K C) (hm : Meth X.K C m f) (F : FnG X.prog X.w X.K X.mg X.base k f fd ps sp) (hr : Room k X.A) (hgu : X.A.guards = some []) (hb : Binds X.K fd ps [])
    (ht : eval (.Call (.Attribute o m apos) [] [] pos) X.env = (do
      let ov ← eval o X.env
      standAt apos.atName
      let (f, first) ← holding [ov] (getMethod ov m pl)
      callWith pos f first (backTo pos (starEach [] X.env)) (backToKw pos (keywordEach [] X.env))) := by rfl) :
    PE X (.Call (.Attribute o m apos) [] [] pos) (tMthG C m sp ta tNil) := by
  refine ⟨fun pins s σ H Q I h => ?_⟩
  refine PySem.W.methodCall_KW (pl := pl) (thn (he.run pins s σ H _ I h) fun u s1 ⟨x, H1, I1, rx, a, dx, fs, ex, ea, l, q⟩ => ?_) ht
  subst ex
  obtain rfl : u = Value.ref a := rx
  refine getmeth_ok I1 ea c hm l ?_
  exact PySem.W.callWith_K0 (first := [.ref a]) I1.kIn hm.kp (run_fnG (us := [.ref a]) (vs := [.ref a]) F hr hgu hb I1 (.cons rfl .nil) q)
/-- C(..) -/
def tMkG (C : Addr) (sp : SpG) (t : TA) : TE := fun σ H Q => t σ H fun vs H1 => ∀ x dx, H1 x = none → H1 dx = none → dx ≠ x → sp (.ref x :: vs) (upd (upd H1 dx (.own x)) x (.ins C dx [])) (fun v H2 => v = .non ∧ Q (.ref x) H2)
theorem run_makeG {pins : List (Addr × Obj)} {σ : L2.St} {H : Hp} {s : Shared} {Q : VK} {us : List Value} {vs : List V} (M : Mk X.K C f) (F : FnG X.prog X.w X.K X.mg X.base k f fd ps sp) (hr : Room (k + 1) X.A) (hgu : X.A.guards = some []) (hb : Binds X.K fd ps [])
    (I : Inv X pins σ H s) (r : Vals vs us)
    (h : ∀ x dx, H x = none → H dx = none → dx ≠ x → sp (.ref x :: vs) (upd (upd H dx (.own x)) x (.ins C dx [])) (fun v H2 => v = .non ∧ Q (.ref x) H2)) :
    wpAny (model X.prog X.w) X.A (call (.ref C) us) (EP X pins σ Q) X.xe s := by
  have hq := h (s.heap.objs.size + 1) s.heap.objs.size (I.hok.fresh (Nat.le_succ _)) (I.hok.fresh (Nat.le_refl _)) (Nat.ne_of_lt (Nat.lt_succ_self _))
  have I2 := Inv.made (C := C) I
  have r2 : Vals (V.ref (s.heap.objs.size + 1) :: vs) (Value.ref (s.heap.objs.size + 1) :: us) := .cons rfl r
  have hl : (Value.ref (s.heap.objs.size + 1) :: us ++ []).length = ps.length := by
    have e := r2.length
    rw [F.many _ _ _ hq] at e
    rw [List.append_nil]
    exact e.symm
  have bt := hb _ (Value.ref (s.heap.objs.size + 1) :: us) I2.kIn hl
  rw [List.append_nil] at bt
  refine wpAny_call (make_map (f := f) I.kIn M.makes M.init (beq_iff_eq.mp M.fn) (codeAny_mono (F.runs _ X.stack _ _ ⟨Value.ref (s.heap.objs.size + 1) :: us, []⟩ (Value.ref (s.heap.objs.size + 1) :: us) _ _ (hr.make C us []) hgu
    (I2.env0.make C us []) bt r2 hq) fun r s' hq' => ?_))
  cases r with
  | error e => exact (show False from hq').elim
  | ok fl =>
    cases fl with
    | ret u =>
      obtain ⟨v, H', I3, rv, ev, q3⟩ := I2.after hq'
      subst ev
      exact ⟨rv, ⟨V.ref (s.heap.objs.size + 1), H', I3, rfl, q3⟩⟩
    | next => exact False.elim hq'
    | brk => exact False.elim hq'
    | cont => exact False.elim hq'
theorem pe_mkG (M : Mk X.K C f) (F : FnG X.prog X.w X.K X.mg X.base k f fd ps sp) (hr : Room (k + 1) X.A) (hgu : X.A.guards = some []) (hg : Gl X x) (hm : X.mg x = some (.ref C)) (hb : Binds X.K fd ps [])
    (ha : PA X (e :: es) t) (hdb : (x == ("__debug__" : Str)) = false := by decide) (he : starEach (e :: es) X.env = (false, eval e X.env) :: starEach es X.env := by rfl) (hpl : (backTo pos (starEach es X.env)).any (·.1) = false := by rfl) :
    PE X (.Call (.Name x p) (e :: es) [] pos) (tMkG C sp t) := by
  refine ⟨fun pins s σ H Q I h => ?_⟩
  refine wpAny_Call_Name_kw (ld_glob I hg hm ?_ hdb)
  refine PySem.W.callWith_K (h₀ := X.base) I.ok.mod.kin M.kp (thn (ha.run pos pins s σ H _ I h) fun us s1 ⟨vs, H1, I1, r, q⟩ => ⟨I1.kIn, ?_⟩) he hpl
  exact run_makeG M F hr hgu hb I1 r q
/-- a statement that is never reached -/
def tNvr : TS := fun _ _ _ => False
theorem ps_nvr {s : Stmt} : PS X s tNvr := ⟨fun _ _ _ _ _ _ h => h.elim⟩
end
end RX
namespace R
open PySem PySem.Spec PyProof.Rows L2 RX
section
variable {K : Frag} {ta tb te tc : TE} {a b c : AE} {G H : Hp} {σ : L2.St} {tt tu : TT} {t u : AT} {tas : TA} {as : AL} {ts us : TS} {s r : AS} {C : Addr}
def aNever : AS := fun _ _ => False
theorem ls_never : LS K tNvr aNever := fun σ G H sl P D E p k => p.elim
/-! ### fields -/
def putFD (f : Str) (d : PyData) : List (Str × PyData) → List (Str × PyData)
  | [] => [(f, d)]
  | (g, x) :: r => if g = f then (g, d) :: r else (g, x) :: putFD f d r
theorem DqFs.length : ∀ {vs : List (Str × V)} {ds : List (Str × PyData)}, DqFs K G vs ds → vs.length = ds.length
  | _, _, .nil => rfl
  | _, _, .cons _ b => by rw [List.length_cons, List.length_cons, DqFs.length b]
theorem DqFs.lookup {f : Str} : ∀ {vs : List (Str × V)} {ds : List (Str × PyData)} {d : PyData}, DqFs K G vs ds → ds.lookup f = some d → ∃ v, vs.lookup f = some v ∧ Dq K G v d
  | _, _, _, .nil, h => by cases h
  | (g, v) :: vs, (_, e) :: ds, d, .cons a b, h => by
    rw [List.lookup_cons] at h ⊢
    cases hc : (f == g) with
    | true => rw [hc] at h; cases h; exact ⟨v, rfl, a⟩
    | false => rw [hc] at h; exact DqFs.lookup b h
theorem DqFs.lookup_none {f : Str} : ∀ {vs : List (Str × V)} {ds : List (Str × PyData)}, DqFs K G vs ds → ds.lookup f = none → vs.lookup f = none
  | _, _, .nil, _ => rfl
  | (g, v) :: vs, (_, e) :: ds, .cons a b, h => by
    rw [List.lookup_cons] at h ⊢
    cases hc : (f == g) with
    | true => rw [hc] at h; cases h
    | false => rw [hc] at h; exact DqFs.lookup_none b h
theorem DqFs.put {f : Str} {v : V} {d : PyData} (hd : Dq K G v d) : ∀ {vs : List (Str × V)} {ds : List (Str × PyData)}, DqFs K G vs ds → DqFs K G (putF f v vs) (putFD f d ds)
  | _, _, .nil => .cons hd .nil
  | (g, x) :: vs, (_, e) :: ds, .cons a b => by
    unfold putF putFD
    by_cases h : g = f
    · rw [if_pos h, if_pos h]; exact .cons hd b
    · rw [if_neg h, if_neg h]; exact .cons a (DqFs.put hd b)
/-- what the text says of a class: its fields are no attributes of the class -/
structure ClsF (K : Frag) (C : Addr) (ns : List Str) : Prop where
  cl : Cls K C
  no : ∀ f ∈ ns, NoAttr K C f
def aFld (C : Addr) (i : Nat) (f : Str) : AE := fun sl Q => ∃ l fs d, sl[i]? = some (.ob l C fs) ∧ fs.lookup f = some d ∧ Q d sl
theorem le_fld {ns : List Str} (T : ClsF K C ns) (i : Nat) (f : Str) (hf : f ∈ ns) : LE K (tFld K (tVar i) f) (aFld C i f) := fun σ G H sl P E ⟨l, fs, d, h, hl, p⟩ Q q => by
  obtain ⟨v, hv, rfl, gl, vs, ⟨dx, hx⟩, hd⟩ := E.slot h
  obtain ⟨w, hw, dw⟩ := hd.lookup hl
  exact ⟨_, hv, l, C, dx, vs, w, rfl, hx, T.cl, T.no f hf, hw, q w d G H sl E .refl dw p⟩
def aFldSet (C : Addr) (i : Nat) (f : Str) (a : AE) : AS := fun P sl => a sl fun d sl' => ∃ l fs, sl'[i]? = some (.ob l C fs) ∧ fs.length < 1000 ∧ P.nx (sl'.set i (.ob l C (putFD f d fs)))
theorem ls_fld {ns : List Str} (T : ClsF K C ns) (i : Nat) (f : Str) (hf : f ∈ ns) (ha : LE K ta a) : LS K (sFld K (tVar i) ta f) (aFldSet C i f a) := fun σ G H sl P D E p k =>
  ha σ G H sl _ E p _ fun y d G1 H1 sl1 E1 g1 d1 ⟨l, fs, h1, hz, p1⟩ => by
    obtain ⟨v, hv, rfl, gl, vs, ⟨dx, hx⟩, hd⟩ := E1.slot h1
    refine ⟨_, hv, l, C, dx, vs, rfl, hx, T.cl, T.no f hf, by rw [hd.length]; exact hz, ?_⟩
    exact k.nx σ G1 _ _ (E1.own_put (s' := .ob l C (putFD f d fs)) h1 rfl rfl ⟨rfl, gl, _, ⟨dx, upd_same⟩, hd.put d1⟩) (g1.trans (Grow.own_put E1 ⟨i, _, h1, rfl⟩ rfl)) p1
/-- o.m(..) -/
def aMeth (C : Addr) (i : Nat) (m : Str) (fa : AF) (args : AA) : AE := fun sl Q => (∃ l fs, sl[i]? = some (.ob l C fs) ∧ fs.lookup m = none) ∧ aCall fa (aaO i args) sl Q
theorem le_meth {aas : AA} {fa : AF} {m : Str} (i : Nat) (has : LA K tas aas) : LE K (tMthG C m (SpD K fa) (tVar i) tas) (aMeth C i m fa aas) := fun σ G H sl P E ⟨⟨l, fs, h, hm⟩, p⟩ Q q => by
  obtain ⟨v, hv, rfl, gl, vs, ⟨dx, hx⟩, hd⟩ := E.slot h
  obtain ⟨w, hw, r⟩ := le_call (la_o i has) σ G H sl P E p Q q
  rw [hv] at hw
  cases hw
  exact ⟨_, hv, l, dx, vs, rfl, hx, hd.lookup_none hm, r⟩
/-! ### new objects -/
abbrev AOb := Sls → (List (Str × PyData) → Sls → Prop) → Prop
def LOb (K : Frag) (C : Addr) (te : TE) (ao : AOb) : Prop := ∀ (σ : L2.St) (G H : Hp) (sl : Sls) (P : List (Str × PyData) → Sls → Prop), Env K G H σ sl → ao sl P →
  ∀ Q : VK, (∀ l fs G' H' sl', Env K G' H' σ sl' → Grow sl sl' G H G' H' → SlotOk K G' H' (some (.ref l)) (.ob l C fs) → ¬ Own sl' l → H l = none → P fs sl' → Q (.ref l) H') → te σ H Q
def aNewOb (C : Addr) (fa : AF) (as : AL) : AOb := fun sl Q => as sl fun ds sl1 => ∀ l, fa (.ob l C [] :: ds.map .d) fun d as' => d = .none ∧ ∃ fs, as'[0]? = some (.ob l C fs) ∧ Q fs sl1
theorem lob_new {fa : AF} (has : LD K tas as) : LOb K C (tMkG C (SpD K fa) tas) (aNewOb C fa as) := fun σ G H sl P E p Q q =>
  has σ G H sl _ E p _ fun vs ds G1 H1 sl1 E1 g1 hd p1 x dx hx hdx ne => by
    have gx := E1.gnone hx
    have gdx := E1.gnone hdx
    have le2 : Le G1 (upd (upd H1 dx (.own x)) x (.ins C dx [])) := (E1.le.out gdx).out gx
    have E0 := env_data hd le2
    have Ec : Env K G1 (upd (upd H1 dx (.own x)) x (.ins C dx [])) ((V.ref x :: vs).map some) (.ob x C [] :: ds.map .d) := by
      refine ⟨le2, by rw [List.length_map, List.length_cons, List.length_cons, List.length_map, hd.length], fun i v s h1 h2 => ?_, fun i j s t l h1 h2 h3 h4 => ?_⟩
      · cases i with
        | zero =>
          cases h1; cases h2
          exact ⟨rfl, gx, [], ⟨dx, upd_same⟩, .nil⟩
        | succ i => exact E0.ok i v s (by simpa using h1) (by simpa using h2)
      · have only : ∀ {i : Nat} {s : Slot}, (Slot.ob x C [] :: ds.map Slot.d)[i]? = some s → s.addr = some l → i = 0 := fun {i s} h e => by
          cases i with
          | zero => rfl
          | succ i =>
            have h' : (ds.map Slot.d)[i]? = some s := by simpa using h
            rw [List.getElem?_map] at h'
            cases e2 : ds[i]? with
            | none => rw [e2] at h'; cases h'
            | some d => rw [e2] at h'; cases h'; cases e
        rw [only h1 h3, only h2 h4]
    have own0 : ∀ y, Own (.ob x C [] :: ds.map .d) y → y = x := fun y ⟨i, s, h1, h2⟩ => by
      cases i with
      | zero => cases h1; cases h2; rfl
      | succ i =>
        have h' : (ds.map Slot.d)[i]? = some s := by simpa using h1
        rw [List.getElem?_map] at h'
        cases e2 : ds[i]? with
        | none => rw [e2] at h'; cases h'
        | some d => rw [e2] at h'; cases h'; cases h2
    refine ⟨G1, _, _, Ec, p1 x, fun v d G' H' as' E' g' dv ⟨ed, fs, h0, pq⟩ => ?_⟩
    subst ed
    cases dv
    refine ⟨rfl, ?_⟩
    have kept : ∀ y o, H1 y = some o → H' y = some o := fun y o e => by
      have nx : y ≠ x := ne_of_none e hx
      have nd : y ≠ dx := ne_of_none e hdx
      exact g'.keep y o (fun z => nx (own0 y z)) (by rw [upd_ne nx, upd_ne nd]; exact e)
    have off : ∀ y, H1 y ≠ none → G1 y = none → G' y = none := fun y h1 h2 => by
      cases e : H1 y with
      | none => exact absurd e h1
      | some o =>
        have nx : y ≠ x := ne_of_none e hx
        have nd : y ≠ dx := ne_of_none e hdx
        exact g'.ap y (fun z => nx (own0 y z)) (by rw [upd_ne nx, upd_ne nd, e]; simp) h2
    have E3 : Env K G' H' σ sl1 := E1.step g'.le E'.le fun y hy => by
      obtain ⟨nn, gn⟩ := E1.own hy
      refine ⟨?_, off y nn gn⟩
      cases e : H1 y with
      | none => exact absurd e nn
      | some o => exact kept y o e
    have at0 := E'.at_own h0 rfl
    refine q x fs G' H' sl1 E3 (g1.trans ⟨fun y o _ e => kept y o e, g'.le, fun y _ h1 h2 => off y h1 h2, fun y h => .inl h, fun y h => ?_⟩) ?_ (fun o => (E1.own o).1 hx) (g1.back hx) pq
    · cases e : H1 y with
      | none => exact absurd e h
      | some o => rw [kept y o e]; simp
    · exact E'.ok 0 _ _ rfl h0
/-- x = C(..) -/
def aSetO (C : Addr) (i : Nat) (a : AOb) : AS := fun P sl => a sl fun fs sl' => ∀ l, P.nx (sl'.set i (.ob l C fs))
theorem ls_setO {ao : AOb} (i : Nat) (ha : LOb K C ta ao) : LS K (tAsg ta (gName i)) (aSetO C i ao) := fun σ G H sl P D E p k =>
  ha σ G H sl _ E p _ fun l fs G1 H1 sl1 E1 g1 ok no nl p1 => k.nx _ _ _ _ (E1.set (s := .ob l C fs) ok fun x e => by cases e; exact no)
    ⟨g1.keep, g1.le, g1.ap, fun x h => (Own.of_set h).elim (g1.own x) fun e => .inr (by cases e; exact nl), g1.there⟩ (p1 l)
end
/-! ### methods of the text -/
section
variable {P : Program} {w : World} {K : PySem.W.Frag} {mg : Str → Option Value} {base : Heap}
def OkM (P : Program) (w : World) (K : PySem.W.Frag) (mg : Str → Option Value) (base : Heap) (k : Nat) (C : Addr) (m : Str) (ps : List Str) (fa : AF) : Prop :=
  ∃ f fd, FnG P w K mg base k f fd ps (SpD K fa) ∧ Cls K C ∧ Meth K C m f ∧ Binds K fd ps []
def DefM (K : PySem.W.Frag) (C : Addr) (m qual : Str) (ps : List Str) (st : Stmt) : Prop := ∃ f fd, Fun K m qual st f fd ∧ Cls K C ∧ Meth K C m f ∧ Binds K fd ps []
theorem OkM.of {C : Addr} {m qual : Str} {ps N : List Str} {st : Stmt} {k : Nat} {fa : AF} {t : TS} {a : AS} (D : DefM K C m qual ps st) (S : FnScope N ps (defScope st)) (hps : ps.length ≤ N.length) (many : ∀ as Q, fa as Q → as.length = ps.length)
    (body : ∀ (f : Addr) (cdv : Value) (A : Around) (outer : List PySem.Env) (s : Shared) (H : Hp), Room k (A.deeper (envOfC qual (defScope st) s.heap.objs.size f cdv)) → A.guards = some [] → PSs (cxOf CX0 P w K mg base N qual (defScope st) f cdv A outer s H E0).nox (defBody st) t) (read : LS K t a)
    (does : ∀ as Q, fa as Q → a { nx := fun sl' => Q .none (finS as sl'), rt := fun d sl' => Q d (finS as sl') } (startS N.length as)) : OkM P w K mg base (k + 1) C m ps fa := by
  obtain ⟨f, fd, F, hc, hm, hb⟩ := D
  exact ⟨f, fd, def_ok F S hps many (body f) read does, hc, hm, hb⟩
theorem OkM.mono {j k : Nat} {C : Addr} {m : Str} {ps : List Str} {fa : AF} (O : OkM P w K mg base j C m ps fa) (h : j ≤ k) : OkM P w K mg base k C m ps fa := by
  obtain ⟨f, fd, F, r⟩ := O
  exact ⟨f, fd, F.mono h, r⟩
def OkI (P : Program) (w : World) (K : PySem.W.Frag) (mg : Str → Option Value) (base : Heap) (k : Nat) (x : Str) (C : Addr) (ps : List Str) (fa : AF) : Prop :=
  ∃ f fd, FnG P w K mg base k f fd ps (SpD K fa) ∧ Mk K C f ∧ mg x = some (.ref C) ∧ Binds K fd ps []
def DefI (K : PySem.W.Frag) (mg : Str → Option Value) (x : Str) (C : Addr) (qual : Str) (ps : List Str) (st : Stmt) : Prop := ∃ f fd, Fun K "__init__" qual st f fd ∧ Mk K C f ∧ mg x = some (.ref C) ∧ Binds K fd ps []
theorem OkI.of {x : Str} {C : Addr} {qual : Str} {ps N : List Str} {st : Stmt} {k : Nat} {fa : AF} {t : TS} {a : AS} (D : DefI K mg x C qual ps st) (S : FnScope N ps (defScope st)) (hps : ps.length ≤ N.length) (many : ∀ as Q, fa as Q → as.length = ps.length)
    (body : ∀ (f : Addr) (cdv : Value) (A : Around) (outer : List PySem.Env) (s : Shared) (H : Hp), Room k (A.deeper (envOfC qual (defScope st) s.heap.objs.size f cdv)) → A.guards = some [] → PSs (cxOf CX0 P w K mg base N qual (defScope st) f cdv A outer s H E0).nox (defBody st) t) (read : LS K t a)
    (does : ∀ as Q, fa as Q → a { nx := fun sl' => Q .none (finS as sl'), rt := fun d sl' => Q d (finS as sl') } (startS N.length as)) : OkI P w K mg base (k + 1) x C ps fa := by
  obtain ⟨f, fd, F, hm, hx, hb⟩ := D
  exact ⟨f, fd, def_ok F S hps many (body f) read does, hm, hx, hb⟩
theorem OkI.mono {j k : Nat} {x : Str} {C : Addr} {ps : List Str} {fa : AF} (O : OkI P w K mg base j x C ps fa) (h : j ≤ k) : OkI P w K mg base k x C ps fa := by
  obtain ⟨f, fd, F, r⟩ := O
  exact ⟨f, fd, F.mono h, r⟩
end
section
variable {X : Cx} {k : Nat} {C : Addr} {ps : List Str} {fa : AF} {x m : Str} {p pos apos : Pos} {e o : Expr} {es : List Expr} {ta : TE} {t : TA}
theorem pe_okM {pl : Sem Bool} (O : OkM X.prog X.w X.K X.mg X.base k C m ps fa) (hr : Room k X.A) (hgu : X.A.guards = some []) (he : PE X o ta) (ha : PA X (e :: es) t)
    (hst : starEach (e :: es) X.env = (false, eval e X.env) :: starEach es X.env := by rfl) (hpl : (backTo pos (starEach es X.env)).any (·.1) = false := by rfl)
    (ht : eval (.Call (.Attribute o m apos) (e :: es) [] pos) X.env = (do
      let ov ← eval o X.env
      standAt apos.atName
      let (f, first) ← holding [ov] (getMethod ov m pl)
      callWith pos f first (backTo pos (starEach (e :: es) X.env)) (backToKw pos (keywordEach [] X.env))) := by rfl) :
    PE X (.Call (.Attribute o m apos) (e :: es) [] pos) (tMthG C m (SpD X.K fa) ta t) := by
  obtain ⟨f, fd, F, hc, hm, hb⟩ := O
  exact pe_mthG (pl := pl) he hc hm F hr hgu hb ha hst hpl ht
theorem pe_okM0 {pl : Sem Bool} (O : OkM X.prog X.w X.K X.mg X.base k C m ps fa) (hr : Room k X.A) (hgu : X.A.guards = some []) (he : PE X o ta)
    (ht : eval (.Call (.Attribute o m apos) [] [] pos) X.env = (do
      let ov ← eval o X.env
      standAt apos.atName
      let (f, first) ← holding [ov] (getMethod ov m pl)
      callWith pos f first (backTo pos (starEach [] X.env)) (backToKw pos (keywordEach [] X.env))) := by rfl) :
    PE X (.Call (.Attribute o m apos) [] [] pos) (tMthG C m (SpD X.K fa) ta tNil) := by
  obtain ⟨f, fd, F, hc, hm, hb⟩ := O
  exact pe_mthG0 (pl := pl) he hc hm F hr hgu hb ht
theorem pe_okI {j : Nat} (O : OkI X.prog X.w X.K X.mg X.base j x C ps fa) (hj : j + 1 ≤ k) (hr : Room k X.A) (hgu : X.A.guards = some []) (hg : Gl X x)
    (ha : PA X (e :: es) t) (hdb : (x == ("__debug__" : Str)) = false := by decide) (he : starEach (e :: es) X.env = (false, eval e X.env) :: starEach es X.env := by rfl) (hpl : (backTo pos (starEach es X.env)).any (·.1) = false := by rfl) :
    PE X (.Call (.Name x p) (e :: es) [] pos) (tMkG C (SpD X.K fa) t) := by
  obtain ⟨f, fd, F, M, hm, hb⟩ := O
  exact pe_mkG M F (hr.mono hj) hgu hg hm hb ha hdb he hpl
end
end R
namespace R
open PySem PySem.Spec PyProof.Rows L2 RX
section
variable {K : Frag} {ta tb te tc : TE} {a b c : AE} {G H : Hp} {σ : L2.St}
theorem ints_inj : ∀ {a b : List Int}, a.map PyData.int = b.map PyData.int → a = b
  | [], [], _ => rfl
  | [], _ :: _, h => by simp at h
  | _ :: _, [], h => by simp at h
  | x :: xs, y :: ys, h => by
    rw [List.map_cons, List.map_cons] at h
    injection h with h1 h2
    injection h1 with h1
    rw [h1, ints_inj h2]
/-! ### t.index(x), t a tuple of whole numbers -/
def aTupIndex (o a : AE) : AE := fun sl Q => o sl fun d sl1 => (∃ ns : List Int, d = .tuple (ns.map .int)) ∧ a sl1 fun e sl2 => ∃ (ns : List Int) (z : Int), d = .tuple (ns.map .int) ∧ e = .int z ∧ z ∈ ns ∧ Q (.int (ns.idxOf z : Nat)) sl2
theorem le_tupIndex {to : TE} {o : AE} (ho : LE K to o) (ha : LE K ta a) : LE K (tBMK K (rTupIndexI K) to (tCons ta tNil)) (aTupIndex o a) := fun σ G H sl P E p Q q =>
  ho σ G H sl _ E p _ fun x d G1 H1 sl1 E1 g1 d1 ⟨⟨ns, e0⟩, p1⟩ => by
    subst e0
    cases d1 with
    | tup sq al =>
      have ex := al.ints_inv
      subst ex
      rename_i l
      refine ⟨⟨l, _, rfl, E1.le.tupK sq⟩, ?_⟩
      refine ha σ G1 H1 sl1 _ E1 p1 _ fun y e G2 H2 sl2 E2 g2 d2 ⟨ns', z, e1, e2, hz, p2⟩ => ?_
      subst e2
      have en : ns' = ns := by
        have h := PyData.tuple.inj e1
        exact ints_inj h.symm
      subst en
      cases d2
      exact ⟨l, ns', z, rfl, rfl, (g2.le.trans E2.le).sqT sq.sqT, hz, q _ _ G2 H2 sl2 E2 (g1.trans g2) (.int _) p2⟩
/-! ### a constant of the module -/
def GlobOk (K : Frag) (mg : Str → Option Value) (x : Str) (d : PyData) : Prop := ∃ a, mg x = some (.ref a) ∧ ∀ G, Dq K G (.ref a) d
theorem le_glob {a : Addr} {d : PyData} (h : ∀ G, Dq K G (.ref a) d) : LE K (tC (.ref a)) (aC d) := fun σ G H sl P E p Q q => q _ _ G H sl E .refl (h G) p
end
end R

namespace R
open PySem PySem.Spec PyProof.Rows L2 RX
section
variable {K : Frag} {ta tb te tc : TE} {a b c : AE} {G H : Hp} {σ : L2.St} {tt tu tt1 : TT} {t u t1 : AT} {tas : TA} {as : AL} {ts us : TS} {s r : AS}
/-! ### [e for .. for ..] -/
def lcIn (g : AG) (t : AT) (e : AE) (vs : List Nat) (Nx : Sls → List PyData → Prop) : List PyData → Sls → List PyData → Prop
  | [], sl, acc => Nx (unS sl vs) acc
  | d :: ds, sl, acc => g d (unS sl vs) fun sl2 => t sl2 fun b sl3 => (b = true → e sl3 fun y sl4 => acc.length < sizeLine ∧ lcIn g t e vs Nx ds (unS sl4 vs) (acc ++ [y])) ∧ (b = false → lcIn g t e vs Nx ds (unS sl3 vs) acc)
def lc2R (g : AG) (t : AT) (it1 : AI) (g1 : AG) (t1 : AT) (e : AE) (vs vs1 : List Nat) (Q : List PyData → Sls → Prop) : List PyData → Sls → List PyData → Prop
  | [], sl, acc => Q acc (unS sl vs)
  | d :: ds, sl, acc => g d (unS sl vs) fun sl2 => t sl2 fun b sl3 => (b = true → it1 sl3 fun es sl4 => lcIn g1 t1 e vs1 (fun sl5 acc' => lc2R g t it1 g1 t1 e vs vs1 Q ds (unS sl5 vs) acc') es sl4 acc) ∧ (b = false → lc2R g t it1 g1 t1 e vs vs1 Q ds (unS sl3 vs) acc)
def aLc2 (it : AI) (g : AG) (t : AT) (it1 : AI) (g1 : AG) (t1 : AT) (e : AE) (vs vs1 : List Nat) : AL := fun sl Q => it sl fun ds sl1 => lc2R g t it1 g1 t1 e vs vs1 Q ds sl1 []
/-- a walk that asks nothing but that what could be read can be read -/
structure WkL (K : Frag) (J : It) (G : Hp) (ds : List PyData) : Prop where
  go : ∀ i G' H', Le G G' → Le G' H' → i < ds.length → J.go i H'
  stop : ∀ G' H', Le G G' → Le G' H' → J.stop ds.length H'
  yld : ∀ i G' H' x H'' σ sl d, Le G G' → Env K G' H' σ sl → ds[i]? = some d → J.yld i H' x H'' → ∃ G'', Env K G'' H'' σ sl ∧ Grow sl sl G' H' G'' H'' ∧ Dq K G'' x d
def LIL (K : Frag) (wi : TI) (a : AI) : Prop := ∀ (σ : L2.St) (G H : Hp) (sl : Sls) (P : List PyData → Sls → Prop), Env K G H σ sl → a sl P →
  ∀ R : It → Hp → Prop, (∀ J ds G' H' sl', Env K G' H' σ sl' → Grow sl sl' G H G' H' → WkL K J G' ds → P ds sl' → R J H') → wi σ H R
theorem wkl_seq {tp : Bool} {x : Addr} {xs : List V} {ds : List PyData} (s : SqA K tp G x xs) (al : DqAll K G xs ds) : WkL K (ItA' K tp x) G ds := by
  have hl := al.length
  have one : ∀ (i : Nat) (G' H' : Hp) (y : V) (σ : L2.St) (sl : Sls) (d : PyData), Le G G' → Env K G' H' σ sl → ds[i]? = some d → (∀ ys, SqA K tp H' x ys → ys[i]? = some y) → ∃ G'', Env K G'' H' σ sl ∧ Grow sl sl G' H' G'' H' ∧ Dq K G'' y d := fun i G' H' y σ sl d g E e f => by
    obtain ⟨v, hv, dv⟩ := al.get e
    have := (f xs ((g.trans E.le).sqA s)).symm.trans hv
    cases this
    exact ⟨G', E, .refl, dv.mono g⟩
  cases tp with
  | true =>
    refine ⟨fun i G' H' g g' hi => ⟨xs, xs[i], (g.trans g').sqT s, List.getElem?_eq_getElem (by omega)⟩, fun G' H' g g' => ⟨xs, (g.trans g').sqT s, by omega⟩, fun i G' H' y H'' σ sl d g E e hy => ?_⟩
    obtain ⟨rfl, f⟩ := hy
    exact one i G' _ y σ sl d g E e f
  | false =>
    refine ⟨fun i G' H' g g' hi => ⟨xs, xs[i], (g.trans g').sqL s, List.getElem?_eq_getElem (by omega)⟩, fun G' H' g g' => ⟨xs, (g.trans g').sqL s, by omega⟩, fun i G' H' y H'' σ sl d g E e hy => ?_⟩
    obtain ⟨rfl, f⟩ := hy
    exact one i G' _ y σ sl d g E e f
theorem lil_seq (ha : LE K ta a) : LIL K (iSeq K ta) (aSeqI a) := fun σ G H sl P E p R r =>
  ha σ G H sl _ E p _ fun v d G1 H1 sl1 E1 g1 d1 ⟨ds, e, p1⟩ => by
    obtain ⟨tp, x, xs, rfl, s, al⟩ := d1.seq e
    exact ⟨tp, x, xs, rfl, E1.le.sqA s, r _ ds G1 H1 sl1 E1 g1 (wkl_seq s al) p1⟩
theorem wkl_rg (lo : Int) (n : Nat) : WkL K (Itr lo n) G (rgD lo n) := by
  have hl : (rgD lo n).length = n := by unfold rgD; rw [List.length_map, List.length_range]
  refine ⟨fun i _ _ _ _ hi => by rw [hl] at hi; exact hi, fun _ _ _ _ => by rw [hl]; exact Nat.le_refl _, fun i G' H' v H'' σ sl d g E e hy => ?_⟩
  obtain ⟨rfl, rfl⟩ := hy
  obtain ⟨_, rfl⟩ := rgD_get e
  exact ⟨G', E, .refl, .int _⟩
theorem lil_rng1 (ha : LE K ta a) : LIL K (iRng1 (tCons ta tNil)) (aRng1 a) := fun σ G H sl P E p R r =>
  ha σ G H sl _ E p _ fun v d G1 H1 sl1 E1 g1 d1 p1 => by
    cases d1 with
    | int j => exact ⟨j, rfl, p1.1.1, p1.1.2, r _ _ G1 H1 sl1 E1 g1 (wkl_rg 0 _) p1.2⟩
    | _ => exact p1.elim
theorem ln_lc2 {w : Bool} {wi wi1 : TI} {it it1 : AI} {ix ix1 : List Nat} {g g1 : TG} {ag ag1 : AG} {vs vs1 : List Nat} (hi : LI K w wi it) (hg : LG K w ix g ag) (ht : LT K tt t) (hi1 : LIL K wi1 it1) (hg1 : LG K false ix1 g1 ag1) (ht1 : LT K tt1 t1) (he : LE K te a)
    (hv : ∀ j ∈ ix, j ∈ vs := by decide) (hv1 : ∀ j ∈ ix1, j ∈ vs1 := by decide) : LN K (tLc2 wi g tt wi1 g1 tt1 te vs vs1) (aLc2 it ag t it1 ag1 t1 a vs vs1) := by
  intro σ G H sl P E p Q q
  refine hi σ G H sl _ E p _ fun J ds G1 H1 sl1 E1 gr1 wk p1 => ?_
  intro D hD
  have gD := E1.gnone hD
  -- the state ahead of turn i
  let S : Nat → Hp → Prop := fun i Hi => ∃ Gi sli acc, i ≤ ds.length ∧ Env K Gi Hi σ sli ∧ Mine K Gi Hi sli D acc ∧ Grow sl1 sli G1 H1 Gi Hi ∧ lc2R ag t it1 ag1 t1 a vs vs1 P (ds.drop i) sli acc
  refine ⟨fun i m Hi => m = ds.length - i ∧ S i Hi, ⟨_, rfl, G1, sl1, [], Nat.zero_le _, E1.newO hD, ⟨⟨[], upd_same, .nil⟩, gD, fun o => (E1.own o).1 hD⟩, Grow.newO hD, p1⟩, ?_⟩
  rintro i m Hi ⟨rfl, Gi, sli, acc, hle, Ei, mi, ki, pi⟩
  by_cases hlt : i < ds.length
  · obtain ⟨d, hd⟩ : ∃ d, ds[i]? = some d := ⟨_, List.getElem?_eq_getElem hlt⟩
    have hdrop : ds.drop i = d :: ds.drop (i + 1) := by
      rw [List.drop_eq_getElem_cons hlt]
      rw [List.getElem?_eq_getElem hlt] at hd
      rw [Option.some.inj hd]
    rw [hdrop] at pi
    refine .inr ⟨wk.go i Gi Hi sli ki Ei.le hlt, S (i + 1), fun H' s' => ⟨ds.length - (i + 1), by omega, rfl, s'⟩, fun x H2 hy => ?_⟩
    obtain ⟨G2, E2, g2, d2⟩ := wk.yld i Gi Hi x H2 σ sli d ki Ei hd hy
    have m2 := mi.grow g2
    refine hg (wipe σ vs) G2 H2 (unS sli vs) x d _ (E2.wiped vs) d2 pi _ fun σ3 sl3 E3 g3 w3 p3 => ⟨(w3 vs hv).trans (wipe_wipe vs), ?_⟩
    have ew : wipe σ3 vs = wipe σ vs := (w3 vs hv).trans (wipe_wipe vs)
    refine ht σ3 G2 H2 sl3 _ E3 p3 _ fun k G4 H4 sl4 E4 g4 p4 => ?_
    have g24 : Grow sli sl4 G2 H2 G4 H4 := ((Grow.less fun x h => own_unS h).trans g3).trans g4
    have backE : ∀ {G' H' : Hp} {sl' : Sls}, Env K G' H' σ3 sl' → Env K G' H' σ (unS sl' vs) := fun {G' H' sl'} E' => by
      have z := E'.wiped vs
      rw [ew] at z
      exact z.back
    cases k with
    | false =>
      refine ite_ff ?_
      have g5 : Grow sli (unS sl4 vs) G2 H2 G4 H4 := g24.trans (.less fun x h => own_unS h)
      exact ⟨G4, unS sl4 vs, acc, hlt, backE E4, m2.grow g5, (ki.trans g2).trans g5, p4.2 rfl⟩
    | true =>
      refine ite_tt ?_
      refine hi1 σ3 G4 H4 sl4 _ E4 (p4.1 rfl) _ fun J1 es G6 H6 sl6 E6 g6 wk1 p6 => ?_
      have g26 : Grow sli sl6 G2 H2 G6 H6 := g24.trans g6
      have m6 := m2.grow g26
      -- the state ahead of the inner turn j
      let S1 : Nat → Hp → Prop := fun j Hj => ∃ Gj slj accj, j ≤ es.length ∧ Env K Gj Hj σ3 slj ∧ Mine K Gj Hj slj D accj ∧ Le G6 Gj ∧ Grow sl1 slj G1 H1 Gj Hj ∧
        lcIn ag1 t1 a vs1 (fun sl5 acc' => lc2R ag t it1 ag1 t1 a vs vs1 P (ds.drop (i + 1)) (unS sl5 vs) acc') (es.drop j) slj accj
      refine ⟨fun j m Hj => m = es.length - j ∧ S1 j Hj, ⟨_, rfl, G6, sl6, acc, Nat.zero_le _, E6, m6, Le.refl _, (ki.trans g2).trans g26, p6⟩, ?_⟩
      rintro j m Hj ⟨rfl, Gj, slj, accj, hlej, Ej, mj, leJ, kj, pj⟩
      by_cases hltj : j < es.length
      · obtain ⟨e, hee⟩ : ∃ e, es[j]? = some e := ⟨_, List.getElem?_eq_getElem hltj⟩
        have hdropj : es.drop j = e :: es.drop (j + 1) := by
          rw [List.drop_eq_getElem_cons hltj]
          rw [List.getElem?_eq_getElem hltj] at hee
          rw [Option.some.inj hee]
        rw [hdropj] at pj
        refine .inr ⟨wk1.go j Gj Hj leJ Ej.le hltj, S1 (j + 1), fun H' s' => ⟨es.length - (j + 1), by omega, rfl, s'⟩, fun x H7 hy1 => ?_⟩
        obtain ⟨G7, E7, g7, d7⟩ := wk1.yld j Gj Hj x H7 σ3 slj e leJ Ej hee hy1
        have m7 := mj.grow g7
        refine hg1 (wipe σ3 vs1) G7 H7 (unS slj vs1) x e _ (E7.wiped vs1) (.inl d7) pj _ fun σ8 sl8 E8 g8 w8 p8 => ⟨(w8 vs1 hv1).trans (wipe_wipe vs1), ?_⟩
        have ew1 : wipe σ8 vs1 = wipe σ3 vs1 := (w8 vs1 hv1).trans (wipe_wipe vs1)
        have backI : ∀ {G' H' : Hp} {sl' : Sls}, Env K G' H' σ8 sl' → Env K G' H' σ3 (unS sl' vs1) := fun {G' H' sl'} E' => by
          have z := E'.wiped vs1
          rw [ew1] at z
          exact z.back
        refine ht1 σ8 G7 H7 sl8 _ E8 p8 _ fun k1 G9 H9 sl9 E9 g9 p9 => ?_
        have g79 : Grow slj sl9 G7 H7 G9 H9 := ((Grow.less fun x h => own_unS h).trans g8).trans g9
        cases k1 with
        | false =>
          refine ite_ff ?_
          have g5 : Grow slj (unS sl9 vs1) G7 H7 G9 H9 := g79.trans (.less fun x h => own_unS h)
          exact ⟨G9, unS sl9 vs1, accj, hltj, backI E9, m7.grow g5, (leJ.trans g7.le).trans g5.le, (kj.trans g7).trans g5, p9.2 rfl⟩
        | true =>
          refine ite_tt ?_
          refine he σ8 G9 H9 sl9 _ E9 (p9.1 rfl) _ fun y dy G10 H10 sl10 E10 g10 d10 ⟨hz, p10⟩ => ?_
          have g710 : Grow slj (unS sl10 vs1) G7 H7 G10 H10 := (g79.trans g10).trans (.less fun x h => own_unS h)
          have m10 := m7.grow g710
          obtain ⟨avs, hav, dav⟩ := m10.at_
          exact ⟨avs, hav, by rw [dav.length]; exact hz, G10, unS sl10 vs1, accj ++ [dy], hltj, (backI E10).mine m10.gn m10.no, ⟨⟨_, upd_same, dav.append (.cons d10 .nil)⟩, m10.gn, m10.no⟩, (leJ.trans g7.le).trans g710.le, ((kj.trans g7).trans g710).mine hD, p10⟩
      · have e : j = es.length := by omega
        subst e
        rw [List.drop_length] at pj
        have E11 : Env K Gj Hj σ3 (unS slj vs1) := (Ej.wiped vs1).back
        have g11 : Grow sl1 (unS (unS slj vs1) vs) G1 H1 Gj Hj := kj.trans (.less fun x h => own_unS (own_unS h))
        refine .inl ⟨wk1.stop Gj Hj leJ Ej.le, Gj, unS (unS slj vs1) vs, accj, hlt, backE E11, mj.less fun x h => own_unS (own_unS h), g11, pj⟩
  · have e : i = ds.length := by omega
    subst e
    rw [List.drop_length] at pi
    refine .inl ⟨wk.stop Gi Hi sli ki Ei.le, ?_⟩
    obtain ⟨avs, hav, dav⟩ := mi.at_
    exact q D avs acc Gi Hi (unS sli vs) (Ei.wiped vs).back ((gr1.trans ki).trans (.less fun x h => own_unS h)) hav mi.gn (fun o => mi.no (own_unS o)) (gr1.back hD) dav pi
end
section
variable {α β : Type} {g g1 : AG} {it1 : AI} {e : AE} {vs vs1 : List Nat} {Q : List PyData → Sls → Prop} {sl0 : Sls} {Nx : Sls → List PyData → Prop}
theorem lcIn_map {h f : β → PyData} (h1 : unS sl0 vs1 = sl0) : ∀ {zs : List β} {sl : Sls} {acc : List PyData}, unS sl vs1 = sl0 →
    (∀ z ∈ zs, ∀ (Y : PyData → Sls → Prop) (Z : Sls → Prop), (∀ sl', unS sl' vs1 = sl0 → Y (f z) sl') → g (h z) sl0 fun sl2 => (true = true → e sl2 Y) ∧ (true = false → Z sl2)) →
    acc.length + zs.length ≤ 100000 → Nx sl0 (acc ++ zs.map f) → lcIn g aYes e vs1 Nx (zs.map h) sl acc
  | [], sl, acc, hs, _, _, q => by
    rw [List.map_nil, List.append_nil] at q
    show Nx (unS sl vs1) acc
    rw [hs]; exact q
  | z :: zs, sl, acc, hs, st, hz, q => by
    have hz' : acc.length + (zs.length + 1) ≤ 100000 := hz
    show g (h z) (unS sl vs1) fun sl2 => _
    rw [hs]
    refine st z (List.mem_cons_self ..) (fun y sl4 => acc.length < sizeLine ∧ lcIn g aYes e vs1 Nx (zs.map h) (unS sl4 vs1) (acc ++ [y])) (fun sl3 => lcIn g aYes e vs1 Nx (zs.map h) (unS sl3 vs1) acc) fun sl' hs' => ⟨by unfold sizeLine; omega, ?_⟩
    rw [List.map_cons] at q
    exact lcIn_map h1 (by rw [hs', h1]) (fun z' hz' => st z' (List.mem_cons_of_mem _ hz')) (by rw [List.length_append, List.length_singleton]; omega) (by rw [List.append_assoc]; exact q)
theorem lc2_map {h : α → PyData} {F : α → List PyData} (h1 : unS sl0 vs = sl0) : ∀ {zs : List α} {sl : Sls} {acc : List PyData}, unS sl vs = sl0 →
    (∀ z ∈ zs, ∀ (acc : List PyData) (Nx : Sls → List PyData → Prop) (Z : Sls → Prop), acc.length + (F z).length ≤ 100000 → (∀ sl', unS sl' vs = sl0 → Nx sl' (acc ++ F z)) →
      g (h z) sl0 fun sl2 => (true = true → it1 sl2 fun es sl4 => lcIn g1 aYes e vs1 Nx es sl4 acc) ∧ (true = false → Z sl2)) →
    acc.length + (zs.flatMap F).length ≤ 100000 → Q (acc ++ zs.flatMap F) sl0 → lc2R g aYes it1 g1 aYes e vs vs1 Q (zs.map h) sl acc
  | [], sl, acc, hs, _, _, q => by
    rw [List.flatMap_nil, List.append_nil] at q
    show Q acc (unS sl vs)
    rw [hs]; exact q
  | z :: zs, sl, acc, hs, st, hz, q => by
    rw [List.flatMap_cons, List.length_append] at hz
    show g (h z) (unS sl vs) fun sl2 => _
    rw [hs]
    refine st z (List.mem_cons_self ..) acc (fun sl5 acc' => lc2R g aYes it1 g1 aYes e vs vs1 Q (zs.map h) (unS sl5 vs) acc') _ (by omega) fun sl' hs' => ?_
    rw [List.flatMap_cons, ← List.append_assoc] at q
    exact lc2_map h1 (by rw [hs', h1]) (fun z' hz' => st z' (List.mem_cons_of_mem _ hz')) (by rw [List.length_append]; omega) q
end
end R

namespace R
open PySem PySem.Spec PyProof.Rows L2 RX

/-! ### forms of any value -/
def isIntD : PyData → Bool
  | .int _ => true
  | _ => false
def a_is_integer : AF := fun as Q => ∃ d, as = [.d d] ∧ Q (.bool (isIntD d)) as
def numB (p : Int) : PyData → Bool
  | .int v => decide (0 ≤ v) && decide (v < p)
  | _ => false
def a__is_number : AF := fun as Q => ∃ p n d, as = [.d (hD p n), .d d] ∧ Q (.bool (numB p d)) as
def partsB (m : Int) : PyData → Bool
  | .tuple xs => decide ((xs.length : Int) = m)
  | _ => false
def a__has_parts : AF := fun as Q => ∃ m d, as = [.d (.int m), .d d] ∧ Q (.bool (partsB m d)) as
def sumB (p : Int) (n : Nat) : PyData → Bool
  | .tuple xs => decide (xs.length = n) && xs.all (numB p)
  | _ => false
def a_is_sum : AF := fun as Q => ∃ p n d, as = [.d (hD p n), .d d] ∧ n ≤ 1000 ∧ Q (.bool (sumB p n d)) as
def rowB (p : Int) (n : Nat) : PyData → Bool
  | .tuple [a, b] => sumB p n a && numB p b
  | _ => false
def a_is_row : AF := fun as Q => ∃ p n d, as = [.d (hD p n), .d d] ∧ n ≤ 1000 ∧ Q (.bool (rowB p n d)) as
def houseB : PyData → Bool
  | .tuple [.int p, .int n] => (decide (p = 2) || decide (p = 3) || decide (p = 5) || decide (p = 7)) && decide (0 ≤ n)
  | _ => false
def a_is_house : AF := fun as Q => ∃ d, as = [.d d] ∧ Q (.bool (houseB d)) as
theorem pr_four {p : Int} (h : M.Pr p) (h10 : p < 10) : p = 2 ∨ p = 3 ∨ p = 5 ∨ p = 7 := by
  have h1 := h.1
  have no : ∀ a q : Int, p = q → 0 < a → a < q → (∀ b, 1 ≤ b → b < q → (a * b).fmod q ≠ 1) → False := fun a q e a0 a1 f => by
    subst e
    obtain ⟨b, b1, b2, e⟩ := h.2 a a0 a1
    exact f b b1 b2 e
  have c4 : p ≠ 4 := fun e => no 2 4 e (by decide) (by decide) fun b b1 b2 => by
    rw [Int.fmod_eq_emod_of_nonneg _ (by decide)]; omega
  have c6 : p ≠ 6 := fun e => no 2 6 e (by decide) (by decide) fun b b1 b2 => by
    rw [Int.fmod_eq_emod_of_nonneg _ (by decide)]; omega
  have c8 : p ≠ 8 := fun e => no 2 8 e (by decide) (by decide) fun b b1 b2 => by
    rw [Int.fmod_eq_emod_of_nonneg _ (by decide)]; omega
  have c9 : p ≠ 9 := fun e => no 3 9 e (by decide) (by decide) fun b b1 b2 => by
    rw [Int.fmod_eq_emod_of_nonneg _ (by decide)]; omega
  omega
theorem houseB_ok {p : Int} {n : Nat} (h : HouseOk p n) : houseB (hD p n) = true := by
  unfold houseB hD
  rcases pr_four h.pr h.p10 with e | e | e | e <;> simp [e]
theorem numB_ok {p v : Int} (h0 : 0 ≤ v) (h1 : v < p) : numB p (.int v) = true := by
  show (decide (0 ≤ v) && decide (v < p)) = true
  rw [decide_eq_true h0, decide_eq_true h1]
  rfl
theorem sumB_ok {p : Int} {n : Nat} {x : M.Vc} (h : VecOk p n x) : sumB p n (dI x) = true := by
  unfold sumB dI
  simp only
  rw [decide_eq_true (by rw [List.length_map]; exact h.1), Bool.true_and, List.all_map]
  exact List.all_eq_true.mpr fun a ha => numB_ok (h.2 a ha).1 (h.2 a ha).2
theorem rowB_ok {p : Int} {n : Nat} {x : M.Vc} {v : Int} (h : VecOk p n x) (h0 : 0 ≤ v) (h1 : v < p) : rowB p n (.tuple [dI x, .int v]) = true := by
  show (sumB p n (dI x) && numB p (.int v)) = true
  rw [sumB_ok h, numB_ok h0 h1]
  rfl

theorem parts2 {d : PyData} (h : partsB 2 d = true) : ∃ a b, d = .tuple [a, b] := by
  match d, h with
  | .tuple [a, b], _ => exact ⟨a, b, rfl⟩
  | .tuple [], h => simp [partsB] at h
  | .tuple [_], h => simp [partsB] at h
  | .tuple (_ :: _ :: _ :: _), h => simp [partsB] at h; omega
theorem houseB_no {d : PyData} (h : partsB 2 d = false) : houseB d = false := by
  unfold houseB
  split
  · simp [partsB] at h
  · rfl
theorem houseB_na {a b : PyData} (h : isIntD a = false) : houseB (.tuple [a, b]) = false := by
  unfold houseB
  split
  · rename_i e
    injection e with e
    injection e with e1 e2
    subst e1
    cases h
  · rfl
theorem houseB_nb {a b : PyData} (h : isIntD b = false) : houseB (.tuple [a, b]) = false := by
  unfold houseB
  split
  · rename_i e
    injection e with e
    injection e with e1 e2
    injection e2 with e2 e3
    subst e2
    cases h
  · rfl
theorem isInt_of {d : PyData} (h : isIntD d = true) : ∃ i, d = .int i := by
  cases d with
  | int i => exact ⟨i, rfl⟩
  | _ => cases h
theorem lc_mapD {g : AG} {e : AE} {vs : List Nat} {Q : List PyData → Sls → Prop} {sl0 : Sls} {f : PyData → PyData} (h1 : unS sl0 vs = sl0) {zs : List PyData} {sl : Sls} (hs : unS sl vs = sl0)
    (st : ∀ z ∈ zs, ∀ (Y : PyData → Sls → Prop) (Z : Sls → Prop), (∀ sl', unS sl' vs = sl0 → Y (f z) sl') → g z sl0 fun sl2 => (true = true → e sl2 Y) ∧ (true = false → Z sl2))
    (hz : zs.length ≤ 100000) (q : Q (zs.map f) sl0) : lcR g aYes e vs Q zs sl [] := by
  have := lc_map (h := id) (f := f) (g := g) (e := e) (Q := Q) h1 hs st hz q
  rwa [List.map_id] at this
/-! ### stores -/
def stF (h r : PyData) : List (Str × PyData) := [("_house", h), ("_rows", r)]
theorem st_house (h r : PyData) : (stF h r).lookup ("_house" : Str) = some h := by
  unfold stF
  rw [List.lookup_cons]
  rfl
theorem st_rows (h r : PyData) : (stF h r).lookup ("_rows" : Str) = some r := by
  unfold stF
  rw [List.lookup_cons, show (("_rows" : Str) == ("_house" : Str)) = false by decide +kernel]
  simp only
  rw [List.lookup_cons]
  rfl
theorem st_no {h r : PyData} {m : Str} (h1 : (m == ("_house" : Str)) = false) (h2 : (m == ("_rows" : Str)) = false) : (stF h r).lookup m = none := by
  unfold stF
  rw [List.lookup_cons, h1]
  simp only
  rw [List.lookup_cons, h2]
  rfl
theorem st_put1 (h : PyData) : putFD "_house" h [] = [(("_house" : Str), h)] := rfl
theorem st_put2 (h r : PyData) : putFD "_rows" r [(("_house" : Str), h)] = stF h r := by
  unfold putFD
  rw [if_neg (by decide +kernel)]
  rfl
theorem st_put (h r r' : PyData) : putFD "_rows" r' (stF h r) = stF h r' := by
  unfold stF putFD
  rw [if_neg (by decide +kernel)]
  unfold putFD
  rw [if_pos rfl]
def stO (l C : Addr) (p : Int) (n : Nat) (rows : List M.Row) : Slot := .ob l C (stF (hD p n) (rsD rows))
def a_Store___init__ (C : Addr) : AF := fun as Q => ∃ l p n, as = [.ob l C [], .d (hD p n)] ∧ HouseOk p n ∧ Q .none [stO l C p n [], .d (hD p n)]
def a_Store_tell (C : Addr) : AF := fun as Q => ∃ l p n rows x v, as = [stO l C p n rows, .d (dI x), .d (.int v)] ∧ HouseOk p n ∧ StOk p n rows ∧ rows.length ≤ 80 ∧ VecOk p n x ∧ 0 ≤ v ∧ v < p ∧
  Q (anD (ansL p n rows (x, some v))) [stO l C p n (rowStep p n rows (x, some v)), .d (dI x), .d (.int v)]
def a_Store_ask (C : Addr) : AF := fun as Q => ∃ l p n rows x, as = [stO l C p n rows, .d (dI x)] ∧ HouseOk p n ∧ StOk p n rows ∧ rows.length ≤ 80 ∧ VecOk p n x ∧
  Q (anD (ansL p n rows (x, none))) as
def a_Store_rows (C : Addr) : AF := fun as Q => ∃ l p n rows, as = [stO l C p n rows] ∧ Q (rsD rows) as
def a__answer_of (C : Addr) : AF := fun as Q => ∃ l p n rows d, as = [stO l C p n rows, .d (ddD d)] ∧ HouseOk p n ∧ StOk p n rows ∧ rows.length ≤ 80 ∧ DdOk p n d ∧
  Q (anD (ansL p n rows d)) [stO l C p n (rowStep p n rows d), .d (ddD d)]

/-! ### orders -/
def ddsOf (cs : List Cl) (ns : List Nat) : List Dd := ns.map fun i => (clAt cs i).dd
/-- the answers by place of the order -/
def ansO (p : Int) (n : Nat) (cs : List Cl) (ns : List Nat) : List An := ansFrom p n [] (ddsOf cs ns)
/-- .. by call -/
def ansAt (p : Int) (n : Nat) (cs : List Cl) (ns : List Nat) : List An := (List.range cs.length).map fun i => (ansO p n cs ns).getD (ns.idxOf i) .opn
def a_answers_by : AF := fun as Q => ∃ p n cs ns, as = [.d (whD p n cs), .d (ordD ns)] ∧ HouseOk p n ∧ (∀ c ∈ cs, DdOk p n c.dd) ∧ cs.length ≤ 60 ∧ ns.Perm (List.range cs.length) ∧ Q (.tuple ((ansAt p n cs ns).map anD)) as
def wrongK (p : Int) (n : Nat) (cs : List Cl) (ns : List Nat) : Option Nat := (List.range ns.length).find? fun k => !decide ((clAt cs (ns.getD k 0)).a = some (some ((ansO p n cs ns).getD k .opn)))
def a_first_wrong : AF := fun as Q => ∃ p n cs ns, as = [.d (whD p n cs), .d (ordD ns)] ∧ HouseOk p n ∧ (∀ c ∈ cs, DdOk p n c.dd) ∧ (∀ c ∈ cs, ∃ a, c.a = some (some a)) ∧ cs.length ≤ 60 ∧ ns.Perm (List.range cs.length) ∧
  Q (oI ((wrongK p n cs ns).map fun k : Nat => (k : Int))) as
def a_run_by : AF := fun as Q => ∃ p n cs ns, as = [.d (whD p n cs), .d (ordD ns)] ∧ HouseOk p n ∧ (∀ c ∈ cs, DdOk p n c.dd) ∧ cs.length ≤ 60 ∧ ns.Perm (List.range cs.length) ∧
  Q (whD p n ((List.zip cs (ansAt p n cs ns)).map fun q => { q.1 with a := some (some q.2) })) as
def a_store_at : AF := fun as Q => ∃ p n cs ns, ∃ m : Nat, as = [.d (whD p n cs), .d (ordD ns), .d (.int m)] ∧ HouseOk p n ∧ (∀ c ∈ cs, DdOk p n c.dd) ∧ cs.length ≤ 60 ∧ ns.Perm (List.range cs.length) ∧ m ≤ ns.length ∧
  Q (rsD (rowsFrom p n [] ((ddsOf cs ns).take m))) as
/-- a tuple of whole numbers -/
def intsB : PyData → Option (List Int)
  | .tuple xs => if xs.all isIntD then some (xs.map fun d => match d with | .int i => i | _ => 0) else none
  | _ => none
def natsOf (is : List Int) : List Nat := is.map Int.toNat
/-- is_order of any value -/
def ordB (cs : List Cl) (d : PyData) : Bool := match intsB d with
  | none => false
  | some is => decide (is.Perm ((List.range cs.length).map fun i : Nat => (i : Int))) && isOrd cs (natsOf is)
def a_is_order : AF := fun as Q => ∃ p n cs d, as = [.d (whD p n cs), .d d] ∧ Fwd cs ∧ cs.length ≤ 100 ∧ (∀ xs, d = .tuple xs → xs.length ≤ 1000) ∧ Q (.bool (ordB cs d)) as
theorem ordB_ordD {cs : List Cl} {ns : List Nat} : ordB cs (ordD ns) = isOrd cs ns := by
  have e : intsB (ordD ns) = some (ns.map fun i : Nat => (i : Int)) := by
    unfold intsB ordD natsD
    simp only
    rw [if_pos (by rw [List.all_map]; exact List.all_eq_true.mpr fun _ _ => rfl), List.map_map]
    rfl
  unfold ordB
  rw [e]
  simp only
  have e2 : natsOf (ns.map fun i : Nat => (i : Int)) = ns := by
    unfold natsOf
    rw [List.map_map]
    exact (List.map_congr_left fun i _ => by show (i : Int).toNat = i; omega).trans (List.map_id ns)
  rw [e2]
  by_cases h : ns.Perm (List.range cs.length)
  · rw [decide_eq_true (h.map _), Bool.true_and]
  · unfold isOrd
    rw [decide_eq_false h, Bool.false_and, Bool.and_false]
def weavB (p : Int) (n : Nat) (cs : List Cl) (d : PyData) : Bool := ordB cs d && match intsB d with
  | none => false
  | some is => (wrongK p n cs (natsOf is)).isNone
def a_is_weaving : AF := fun as Q => ∃ p n cs d, as = [.d (whD p n cs), .d d] ∧ HouseOk p n ∧ Fwd cs ∧ (∀ c ∈ cs, DdOk p n c.dd) ∧ (∀ c ∈ cs, ∃ a, c.a = some (some a)) ∧ cs.length ≤ 60 ∧ (∀ xs, d = .tuple xs → xs.length ≤ 1000) ∧ Q (.bool (weavB p n cs d)) as
end R

namespace R
open PySem PySem.Spec PyProof.Rows L2 RX

theorem finS_ob {l C C' : Addr} {fs fs' : List (Str × PyData)} {as sl : Sls} : finS (.ob l C fs :: as) (.ob l C' fs' :: sl) = .ob l C' fs' :: finS as sl := by
  show (if l = l then _ else _) :: _ = _
  rw [if_pos rfl]
theorem finS_st {l C : Addr} {p : Int} {n : Nat} {rows rows' : List M.Row} {as sl : Sls} : finS (stO l C p n rows :: as) (stO l C p n rows' :: sl) = stO l C p n rows' :: finS as sl := finS_ob
theorem ansFrom_get {p : Int} {n : Nat} {d : Dd} : ∀ {ds : List Dd} {rows : List M.Row} {k : Nat}, ds[k]? = some d → (ansFrom p n rows ds)[k]? = some (ansL p n (rowsFrom p n rows (ds.take k)) d)
  | [], _, _, h => by simp at h
  | e :: ds, rows, 0, h => by
    have h : some e = some d := by simpa using h
    cases h
    rfl
  | e :: ds, rows, k + 1, h => by
    have h : ds[k]? = some d := by simpa using h
    show (ansFrom p n (rowStep p n rows e) ds)[k]? = some (ansL p n (rowsFrom p n (rowStep p n rows e) (ds.take k)) d)
    exact ansFrom_get h
theorem ansO_len {p : Int} {n : Nat} {cs : List Cl} {ns : List Nat} : (ansO p n cs ns).length = ns.length := by
  unfold ansO ddsOf
  rw [ansFrom_len, List.length_map]
theorem dds_get {cs : List Cl} {ns : List Nat} {k : Nat} (h : k < ns.length) : (ddsOf cs ns)[k]? = some (clAt cs ns[k]).dd := by
  unfold ddsOf
  rw [List.getElem?_map, List.getElem?_eq_getElem h]
  rfl
theorem ansO_get {p : Int} {n : Nat} {cs : List Cl} {ns : List Nat} {k : Nat} (h : k < ns.length) : (ansO p n cs ns).getD k .opn = ansL p n (rowsFrom p n [] ((ddsOf cs ns).take k)) (clAt cs ns[k]).dd := by
  rw [List.getD_eq_getElem?_getD, show (ansO p n cs ns)[k]? = _ from ansFrom_get (dds_get h)]
  rfl
theorem rows_step {p : Int} {n : Nat} {cs : List Cl} {ns : List Nat} {k : Nat} (h : k < ns.length) : rowsFrom p n [] ((ddsOf cs ns).take (k + 1)) = rowStep p n (rowsFrom p n [] ((ddsOf cs ns).take k)) (clAt cs ns[k]).dd := by
  rw [List.take_succ, dds_get h]
  exact rowsFrom_snoc _ _ _
theorem dds_ok {p : Int} {n : Nat} {cs : List Cl} (h : ∀ c ∈ cs, DdOk p n c.dd) {ns : List Nat} (hn : ∀ i ∈ ns, i < cs.length) : ∀ d ∈ ddsOf cs ns, DdOk p n d := fun d hd => by
  obtain ⟨i, hi, rfl⟩ := List.mem_map.mp hd
  exact h _ (clAt_mem (hn i hi))
theorem rows_ok {p : Int} {n : Nat} {cs : List Cl} (hp : M.Pr p) (h : ∀ c ∈ cs, DdOk p n c.dd) {ns : List Nat} (hn : ∀ i ∈ ns, i < cs.length) (k : Nat) : StOk p n (rowsFrom p n [] ((ddsOf cs ns).take k)) :=
  StOk.nil.from_ hp fun d hd => dds_ok h hn d (List.mem_of_mem_take hd)
theorem rows_len {p : Int} {n : Nat} {cs : List Cl} {ns : List Nat} (k : Nat) : (rowsFrom p n [] ((ddsOf cs ns).take k)).length ≤ ns.length := by
  have h1 := rowsFrom_len (p := p) (n := n) ((ddsOf cs ns).take k) []
  have h2 : (ddsOf cs ns).length = ns.length := by unfold ddsOf; rw [List.length_map]
  rw [List.length_take, List.length_nil] at h1
  omega
/-- the answers when k calls of the order are through -/
def ansP (p : Int) (n : Nat) (cs : List Cl) (ns : List Nat) (k : Nat) : List PyData := (List.range cs.length).map fun i => if ns.idxOf i < k then anD ((ansO p n cs ns).getD (ns.idxOf i) .opn) else .none
theorem ansP_len {p : Int} {n : Nat} {cs : List Cl} {ns : List Nat} {k : Nat} : (ansP p n cs ns k).length = cs.length := by unfold ansP; rw [List.length_map, List.length_range]
theorem ansP_zero {p : Int} {n : Nat} {cs : List Cl} {ns : List Nat} : ansP p n cs ns 0 = List.replicate cs.length .none := by
  unfold ansP
  refine List.ext_getElem (by rw [List.length_map, List.length_range, List.length_replicate]) fun i h1 h2 => ?_
  rw [List.getElem_map, List.getElem_replicate, if_neg (by omega)]
theorem ansP_get {p : Int} {n : Nat} {cs : List Cl} {ns : List Nat} {k i : Nat} (hi : i < cs.length) : (ansP p n cs ns k)[i]? = some (if ns.idxOf i < k then anD ((ansO p n cs ns).getD (ns.idxOf i) .opn) else .none) := by
  unfold ansP
  rw [List.getElem?_map, List.getElem?_range hi]
  rfl
theorem ansP_step {p : Int} {n : Nat} {cs : List Cl} {ns : List Nat} {k : Nat} (nd : ns.Nodup) (h : k < ns.length) : (ansP p n cs ns k).set ns[k] (anD ((ansO p n cs ns).getD k .opn)) = ansP p n cs ns (k + 1) := by
  refine List.ext_getElem? fun i => ?_
  by_cases hi : i < cs.length
  · rw [List.getElem?_set, ansP_get hi, ansP_get hi, ansP_len]
    by_cases e : ns[k] = i
    · rw [if_pos e, if_pos (by omega)]
      subst e
      rw [nd.idxOf_getElem k h, if_pos (Nat.lt_succ_self k)]
    · rw [if_neg e]
      by_cases c : ns.idxOf i < k
      · rw [if_pos c, if_pos (by omega)]
      · rw [if_neg c, if_neg fun c2 => e ?_]
        have e2 : ns.idxOf i = k := by omega
        have hl : ns.idxOf i < ns.length := by omega
        have := List.getElem_idxOf hl
        simp only [e2] at this
        exact this
  · rw [List.getElem?_eq_none (by rw [List.length_set, ansP_len]; omega), List.getElem?_eq_none (by rw [ansP_len]; omega)]
theorem ansP_all {p : Int} {n : Nat} {cs : List Cl} {ns : List Nat} (pm : ns.Perm (List.range cs.length)) : ansP p n cs ns ns.length = (ansAt p n cs ns).map anD := by
  unfold ansP ansAt
  rw [List.map_map]
  refine List.map_congr_left fun i hi => ?_
  rw [if_pos (List.idxOf_lt_length_of_mem (pm.mem_iff.mpr hi))]
  rfl
theorem ansAt_get {p : Int} {n : Nat} {cs : List Cl} {ns : List Nat} {k : Nat} (pm : ns.Perm (List.range cs.length)) (h : k < ns.length) : (ansAt p n cs ns)[ns[k]]? = some ((ansO p n cs ns).getD k .opn) := by
  have nd : ns.Nodup := pm.symm.nodup List.nodup_range
  have hi : ns[k] < cs.length := List.mem_range.mp (pm.mem_iff.mp (List.getElem_mem h))
  unfold ansAt
  rw [List.getElem?_map, List.getElem?_range hi]
  show some ((ansO p n cs ns).getD (ns.idxOf ns[k]) .opn) = _
  rw [nd.idxOf_getElem k h]
/-! is_order -/
theorem pairB_at {cs : List Cl} (irr : ∀ i, aheadIx cs i i = false) : ∀ {ns : List Nat}, pairB cs ns = true ↔ ∀ i j : Nat, j < ns.length → i < j → aheadIx cs (ns.getD j 0) (ns.getD i 0) = false
  | [] => ⟨fun _ i j hj => by simp at hj, fun _ => rfl⟩
  | x :: xs => by
    have ih := pairB_at irr (ns := xs)
    show ((x :: xs).all (fun y => !aheadIx cs y x) && pairB cs xs) = true ↔ _
    rw [Bool.and_eq_true, ih, List.all_eq_true]
    refine ⟨fun ⟨h1, h2⟩ i j hj hi => ?_, fun h => ⟨fun y hy => ?_, fun i j hj hi => ?_⟩⟩
    · cases j with
      | zero => omega
      | succ j =>
        have hj' : j < xs.length := by simpa using hj
        cases i with
        | zero =>
          have := h1 xs[j] (List.mem_cons_of_mem _ (List.getElem_mem _))
          simpa [List.getD_eq_getElem?_getD, List.getElem?_eq_getElem hj'] using this
        | succ i => simpa using h2 i j hj' (by omega)
    · rcases List.mem_cons.mp hy with rfl | hy
      · rw [irr]; rfl
      · obtain ⟨j, hj, rfl⟩ := List.mem_iff_getElem.mp hy
        have := h 0 (j + 1) (by simpa using hj) (by omega)
        simpa [List.getD_eq_getElem?_getD, List.getElem?_eq_getElem hj] using this
    · have := h (i + 1) (j + 1) (by simpa using hj) (by omega)
      simpa using this
theorem any_ahead {cs : List Cl} {ns : List Nat} (irr : ∀ i, aheadIx cs i i = false) :
    (!(((List.range ns.length).flatMap fun j => (List.range j).map fun i => aheadIx cs (ns.getD j 0) (ns.getD i 0)).any id)) = pairB cs ns := by
  cases hb : pairB cs ns with
  | true =>
    have h := (pairB_at irr).mp hb
    rw [Bool.not_eq_true', List.any_eq_false]
    intro b hm
    obtain ⟨j, hj, hm⟩ := List.mem_flatMap.mp hm
    obtain ⟨i, hi, rfl⟩ := List.mem_map.mp hm
    rw [h i j (List.mem_range.mp hj) (List.mem_range.mp hi)]
    simp
  | false =>
    rw [Bool.not_eq_false', List.any_eq_true]
    have this : ¬ ∀ i j : Nat, j < ns.length → i < j → aheadIx cs (ns.getD j 0) (ns.getD i 0) = false := fun h => by rw [(pairB_at irr).mpr h] at hb; cases hb
    have ⟨i, j, hj, hi, c⟩ : ∃ i j : Nat, j < ns.length ∧ i < j ∧ aheadIx cs (ns.getD j 0) (ns.getD i 0) = true := by
      refine Classical.byContradiction fun no => this fun i j hj hi => ?_
      cases c : aheadIx cs (ns.getD j 0) (ns.getD i 0) with
      | false => rfl
      | true => exact absurd ⟨i, j, hj, hi, c⟩ no
    exact ⟨true, List.mem_flatMap.mpr ⟨j, List.mem_range.mpr hj, List.mem_map.mpr ⟨i, List.mem_range.mpr hi, c⟩⟩, rfl⟩
theorem intsB_of {xs : List PyData} (h : xs.all isIntD = true) : ∃ is : List Int, xs = is.map .int ∧ intsB (.tuple xs) = some is := by
  refine ⟨xs.map fun d => match d with | .int i => i | _ => 0, ?_, by unfold intsB; simp only; rw [if_pos h] <;> rfl⟩
  rw [List.map_map]
  refine (List.map_id xs).symm.trans (List.map_congr_left fun d hd => ?_)
  obtain ⟨i, rfl⟩ := isInt_of (List.all_eq_true.mp h d hd)
  rfl
theorem intsB_no {xs : List PyData} (h : xs.all isIntD = false) : intsB (.tuple xs) = none := by
  unfold intsB
  simp only
  rw [if_neg (by rw [h]; simp)]
theorem sorted_rangeI {is : List Int} {m : Nat} {out : List Int} (h1 : out.Perm is) (h2 : out.Pairwise (· ≤ ·)) : decide (out = (List.range m).map fun i : Nat => (i : Int)) = decide (is.Perm ((List.range m).map fun i : Nat => (i : Int))) := by
  have hr : ((List.range m).map fun i : Nat => (i : Int)).Pairwise (· ≤ ·) := List.pairwise_map.mpr ((List.pairwise_lt_range (n := m)).imp fun {a b} h => by omega)
  by_cases c : is.Perm ((List.range m).map fun i : Nat => (i : Int))
  · rw [decide_eq_true c]
    exact decide_eq_true (List.Perm.eq_of_pairwise (le := (· ≤ ·)) (fun a b _ _ h h' => by omega) h2 hr (h1.trans c))
  · rw [decide_eq_false c]
    exact decide_eq_false fun e => c (h1.symm.trans (List.Perm.of_eq e))
theorem nats_perm {is : List Int} {m : Nat} (h : is.Perm ((List.range m).map fun i : Nat => (i : Int))) : is = (natsOf is).map (fun i : Nat => (i : Int)) ∧ (natsOf is).Perm (List.range m) := by
  have nn : ∀ i ∈ is, 0 ≤ i := fun i hi => by
    obtain ⟨k, _, rfl⟩ := List.mem_map.mp (h.mem_iff.mp hi)
    omega
  refine ⟨?_, ?_⟩
  · unfold natsOf
    rw [List.map_map]
    exact (List.map_id is).symm.trans (List.map_congr_left fun i hi => by
      have := nn i hi
      show i = ((i.toNat : Nat) : Int)
      omega)
  · have := h.map Int.toNat
    rw [List.map_map] at this
    exact this.trans (List.Perm.of_eq ((List.map_congr_left fun i _ => by show ((i : Int)).toNat = i; omega).trans (List.map_id _)))
theorem wrongK_eq {p : Int} {n : Nat} {cs : List Cl} {ns : List Nat} : wrongK p n cs ns = (List.range ns.length).find? fun k => !decide ((clAt cs (ns.getD k 0)).a = some (some ((ansO p n cs ns).getD k .opn))) := rfl
theorem pl_tup {ds : List PyData} {h w : Nat} (f : Fit h w (.tuple ds)) (hh : h ≤ 40) : Pl (.tuple ds) := ⟨by
  unfold SeqAt.shaped
  rw [Bool.and_eq_true]
  exact ⟨f.lay, decide_eq_true (by have := f.dep; omega)⟩, f.nd⟩
theorem flatMap_len {α β : Type} {B : Nat} {f : α → List β} : ∀ {l : List α}, (∀ x ∈ l, (f x).length ≤ B) → (l.flatMap f).length ≤ l.length * B
  | [], _ => by simp
  | x :: l, h => by
    rw [List.flatMap_cons, List.length_append, List.length_cons, Nat.succ_mul]
    have := h x (List.mem_cons_self ..)
    have := flatMap_len (l := l) fun y hy => h y (List.mem_cons_of_mem _ hy)
    omega
theorem intsB_eq {d : PyData} {is : List Int} (h : intsB d = some is) : d = .tuple (is.map .int) := by
  cases d with
  | tuple xs =>
    cases hi : xs.all isIntD with
    | false => rw [intsB_no hi] at h; cases h
    | true =>
      obtain ⟨js, e, ej⟩ := intsB_of hi
      rw [ej] at h
      cases h
      rw [e]
  | _ => cases h
theorem ordB_ints {cs : List Cl} {d : PyData} (h : ordB cs d = true) : ∃ is, intsB d = some is ∧ is.Perm ((List.range cs.length).map fun i : Nat => (i : Int)) := by
  unfold ordB at h
  cases e : intsB d with
  | none => rw [e] at h; cases h
  | some is =>
    rw [e] at h
    exact ⟨is, rfl, of_decide_eq_true (Bool.and_eq_true_iff.mp h).1⟩
end R

namespace R
open PySem PySem.Spec PyProof.Rows L2 RX

theorem eqv_anL : ∀ as bs : List An, PyData.eqvAll (as.map anD) (bs.map anD) = decide (as = bs)
  | [], [] => by simp [PyData.eqvAll]
  | [], _ :: _ => by simp [PyData.eqvAll]
  | _ :: _, [] => by simp [PyData.eqvAll]
  | a :: as, b :: bs => by
    rw [List.map_cons, List.map_cons, PyData.eqvAll, eqv_an, eqv_anL as bs]
    by_cases h : a = b <;> by_cases h2 : as = bs <;> simp [h, h2]
def ansC (c : Cl) : An := match c.a with
  | some (some a) => a
  | _ => .opn
theorem ansC_of {c : Cl} {a : An} (h : c.a = some (some a)) : ansC c = a := by
  unfold ansC
  rw [h]
/-- the law's look at a weaving -/
def weavL (p : Int) (n : Nat) (cs : List Cl) (ns : List Nat) : Bool := decide (ansO p n cs ns = ns.map fun i => ansC (clAt cs i))
def a__law_is_weaving : AF := fun as Q => ∃ p n cs ns, as = [.d (whD p n cs), .d (ordD ns)] ∧ HouseOk p n ∧ (∀ c ∈ cs, DdOk p n c.dd) ∧ (∀ c ∈ cs, ∃ a, c.a = some (some a) ∧ AnOk p c.dd.2.isSome a) ∧ (∀ i ∈ ns, i < cs.length) ∧ ns.length ≤ 60 ∧ Q (.bool (weavL p n cs ns)) as
theorem fit_anL {p : Int} {as : List An} (h10 : p < 10) (h : ∀ a ∈ as, ∃ t, AnOk p t a) (hl : as.length ≤ 60) : Fit 1 2520 (.list (as.map anD)) ∧ Fit 1 2520 (.tuple (as.map anD)) := by
  have a : ∀ d ∈ as.map anD, Fit 0 41 d := fun d hd => by
    obtain ⟨a, ha, rfl⟩ := List.mem_map.mp hd
    obtain ⟨t, ht⟩ := h a ha
    exact fit_an ht h10
  have l : (as.map anD).length ≤ 60 := by rw [List.length_map]; exact hl
  exact ⟨fit_lstN 60 a l, fit_tupN 60 a l⟩
theorem alike_anL {p : Int} {as bs : List An} {Q : PyData → Sls → Prop} (h10 : p < 10) (ha : ∀ a ∈ as, ∃ t, AnOk p t a) (hb : ∀ a ∈ bs, ∃ t, AnOk p t a) (la : as.length ≤ 60) (lb : bs.length ≤ 60)
    (q : Q (.bool (decide (as = bs))) [.d (.list (as.map anD)), .d (.list (bs.map anD))]) : a__law_alike [.d (.list (as.map anD)), .d (.list (bs.map anD))] Q := by
  refine ⟨_, _, 1, 2520, rfl, (fit_anL h10 ha la).1, (fit_anL h10 hb lb).1, by decide, by decide, ?_⟩
  have e : PyData.eqv (.list (as.map anD)) (.list (bs.map anD)) = decide (as = bs) := by rw [PyData.eqv, eqv_anL]
  rw [e]
  by_cases c : as = bs
  · subst c
    rw [decide_eq_true rfl] at q ⊢
    rw [Bool.true_and, decide_eq_true rfl]
    exact q
  · rw [decide_eq_false c, Bool.false_and]
    rw [decide_eq_false c] at q
    exact q
theorem getD_of {ns : List Nat} {k : Nat} (h : k < ns.length) : ns.getD k 0 = ns[k] := by rw [List.getD_eq_getElem?_getD, List.getElem?_eq_getElem h]; rfl
theorem weav_wrong {p : Int} {n : Nat} {cs : List Cl} {ns : List Nat} (ha : ∀ c ∈ cs, ∃ a, c.a = some (some a)) (lt : ∀ i ∈ ns, i < cs.length) : (wrongK p n cs ns).isNone = weavL p n cs ns := by
  have at_ : ∀ {k : Nat} (h : k < ns.length), ((clAt cs (ns.getD k 0)).a = some (some ((ansO p n cs ns).getD k .opn)) ↔ (ansO p n cs ns).getD k .opn = ansC (clAt cs ns[k])) := fun {k} h => by
    rw [getD_of h]
    obtain ⟨a, ea⟩ := ha _ (clAt_mem (lt _ (List.getElem_mem h)))
    rw [ansC_of ea, ea]
    exact ⟨fun e => by injection e with e; injection e with e; exact e.symm, fun e => by rw [e]⟩
  have gl : (ansO p n cs ns).length = ns.length := ansO_len
  unfold weavL
  by_cases h : ansO p n cs ns = ns.map fun i => ansC (clAt cs i)
  · rw [decide_eq_true h, Option.isNone_iff_eq_none, wrongK_eq, List.find?_eq_none]
    intro k hk
    have hk' := List.mem_range.mp hk
    rw [Bool.not_eq_true', Bool.not_eq_false]
    refine decide_eq_true ((at_ hk').mpr ?_)
    rw [h, List.getD_eq_getElem?_getD, List.getElem?_map, List.getElem?_eq_getElem hk']
    rfl
  · rw [decide_eq_false h]
    cases hw : wrongK p n cs ns with
    | some k => rfl
    | none =>
      refine absurd (List.ext_getElem? fun k => ?_) h
      rw [wrongK_eq, List.find?_eq_none] at hw
      by_cases hk : k < ns.length
      · have := hw k (List.mem_range.mpr hk)
        rw [Bool.not_eq_true', Bool.not_eq_false] at this
        have := (at_ hk).mp (of_decide_eq_true this)
        rw [List.getD_eq_getElem?_getD, List.getElem?_eq_getElem (by rw [gl]; exact hk)] at this
        rw [List.getElem?_map, List.getElem?_eq_getElem hk, List.getElem?_eq_getElem (by rw [gl]; exact hk)]
        exact congrArg some this
      · rw [List.getElem?_eq_none (by rw [gl]; omega), List.getElem?_eq_none (by rw [List.length_map]; omega)]
/-! ### what is true of a drawn history -/
section
variable {p : Int} {n most : Nat} {cs : List Cl} {ord : List Nat}
theorem HistR.ln (h : HistR p n most cs ord) : ord.length = cs.length := by rw [h.perm.length_eq, List.length_range]
theorem HistR.lt (h : HistR p n most cs ord) : ∀ i ∈ ord, i < cs.length := fun i hi => List.mem_range.mp (h.perm.mem_iff.mp hi)
theorem HistR.nd (h : HistR p n most cs ord) : ord.Nodup := h.perm.symm.nodup List.nodup_range
theorem HistR.fwd (h : HistR p n most cs ord) : Fwd cs := fun c hc e he => ((h.ok c hc).1.e e he).1
theorem HistR.dd (h : HistR p n most cs ord) : ∀ c ∈ cs, DdOk p n c.dd := fun c hc => (h.ok c hc).1.dd
theorem HistR.an (h : HistR p n most cs ord) : ∀ c ∈ cs, ∃ a, c.a = some (some a) ∧ AnOk p c.dd.2.isSome a := fun c hc => by
  obtain ⟨h1, a, ea⟩ := h.ok c hc
  exact ⟨a, ea, h1.an a ea⟩
theorem HistR.an' (h : HistR p n most cs ord) : ∀ c ∈ cs, ∃ a, c.a = some (some a) := fun c hc => (h.ok c hc).2
theorem HistR.at_ (h : HistR p n most cs ord) {k : Nat} (hk : k < ord.length) : (clAt cs ord[k]).a = some (some ((ansO p n cs ord).getD k .opn)) ∧ StrOk (10 * k) (clAt cs ord[k]).b (clAt cs ord[k]).e := by
  obtain ⟨ds, hl, hd, ht⟩ := h.true_
  have e : ddsOf cs ord = ds := by
    refine List.ext_getElem? fun k => ?_
    by_cases hk : k < ord.length
    · obtain ⟨c, h1, h2, _⟩ := ht k ord[k] (List.getElem?_eq_getElem hk)
      rw [dds_get hk, h2, clAt_of h1]
    · unfold ddsOf
      rw [List.getElem?_eq_none (by rw [List.length_map]; omega), List.getElem?_eq_none (by have := h.ln; omega)]
  obtain ⟨c, h1, h2, h3, h4⟩ := ht k ord[k] (List.getElem?_eq_getElem hk)
  rw [clAt_of h1]
  refine ⟨?_, h4⟩
  rw [h3]
  unfold ansO
  rw [e, List.getD_eq_getElem?_getD]
  have hl2 : k < (ansFrom p n [] ds).length := by rw [ansFrom_len, hl, ← h.ln]; exact hk
  rw [List.getElem?_eq_getElem hl2]
  rfl
theorem HistR.wrong (h : HistR p n most cs ord) : wrongK p n cs ord = none := by
  rw [wrongK_eq, List.find?_eq_none]
  intro k hk
  have hk' := List.mem_range.mp hk
  rw [Bool.not_eq_true', Bool.not_eq_false, getD_of hk']
  exact decide_eq_true (h.at_ hk').1
theorem HistR.isOrd (h : HistR p n most cs ord) : isOrd cs ord = true := by
  unfold R.isOrd
  rw [decide_eq_true h.perm, Bool.true_and]
  refine (pairB_at (ah_irr h.fwd)).mpr fun i j hj hi => ?_
  rw [getD_of hj, getD_of (by omega)]
  have s1 := (h.at_ hj).2
  have s2 := (h.at_ (k := i) (by omega)).2
  unfold aheadIx aheadB
  cases he : (clAt cs ord[j]).e with
  | none => rfl
  | some e =>
    have := s1.2.2 e he
    have := s2.2.1
    exact decide_eq_false (by omega)
theorem HistR.ansAll (h : HistR p n most cs ord) : ansAt p n cs ord = cs.map ansC := by
  refine List.ext_getElem? fun i => ?_
  by_cases hi : i < cs.length
  · have hm : i ∈ ord := h.perm.mem_iff.mpr (List.mem_range.mpr hi)
    have hx := List.idxOf_lt_length_of_mem hm
    have e1 := ansAt_get (p := p) (n := n) h.perm hx
    rw [List.getElem_idxOf hx] at e1
    have e2 := (h.at_ hx).1
    rw [List.getElem_idxOf hx] at e2
    rw [e1, List.getElem?_map, clAt_get hi]
    exact congrArg some (ansC_of e2).symm
  · unfold ansAt
    rw [List.getElem?_eq_none (by rw [List.length_map, List.length_range]; omega), List.getElem?_eq_none (by rw [List.length_map]; omega)]
end
theorem rows_filter {p : Int} {n : Nat} : ∀ {ds : List Dd} {rows : List M.Row}, rowsFrom p n rows ds = rows ++ (((List.zip ds (ansFrom p n rows ds)).filter fun q => decide (q.2 = .new)).map fun q => (q.1.1, q.1.2.getD 0))
  | [], rows => by
    show rows = rows ++ []
    rw [List.append_nil]
  | d :: ds, rows => by
    show rowsFrom p n (rowStep p n rows d) ds = rows ++ (((List.zip (d :: ds) (ansL p n rows d :: ansFrom p n (rowStep p n rows d) ds)).filter fun q => decide (q.2 = .new)).map fun q => (q.1.1, q.1.2.getD 0))
    rw [rows_filter (ds := ds), List.zip_cons_cons, List.filter_cons]
    unfold rowStep
    by_cases c : ansL p n rows d = .new
    · rw [if_pos c, if_pos (by simpa using c), List.map_cons, List.append_assoc]
      rfl
    · rw [if_neg c, if_neg (by simpa using c)]
theorem HistR.rows {p : Int} {n most : Nat} {cs : List Cl} {ord : List Nat} (h : HistR p n most cs ord) :
    rowsFrom p n [] (ddsOf cs ord) = (ord.filter fun i => decide ((clAt cs i).a = some (some .new))).map fun i => ((clAt cs i).dd.1, (clAt cs i).dd.2.getD 0) := by
  have e : List.zip (ddsOf cs ord) (ansFrom p n [] (ddsOf cs ord)) = ord.map fun i => ((clAt cs i).dd, ansC (clAt cs i)) := by
    have hw : weavL p n cs ord = true := by rw [← weav_wrong h.an' h.lt, h.wrong]; rfl
    have := of_decide_eq_true hw
    unfold ansO at this
    rw [this]
    unfold ddsOf
    rw [List.zip_map']
  rw [rows_filter, List.nil_append, e, List.filter_map, List.map_map]
  have e2 : ord.filter ((fun q : Dd × An => decide (q.2 = .new)) ∘ fun i => ((clAt cs i).dd, ansC (clAt cs i))) = ord.filter fun i => decide ((clAt cs i).a = some (some .new)) := by
    refine List.filter_congr fun i hi => ?_
    obtain ⟨a, ea⟩ := h.an' _ (clAt_mem (h.lt i hi))
    show decide (ansC (clAt cs i) = .new) = _
    rw [ansC_of ea, ea]
    exact decide_eq_decide.mpr ⟨fun e => by rw [e], fun e => by injection e with e; injection e⟩
  rw [e2]
  rfl
/-! ### an order with calls moved -/
def a__law_moved : AF := fun as Q => ∃ l s ns, as = [s, .d (ordD ns)] ∧ BagOk l s ∧ ns.length ≤ 100 ∧ ∀ ns' s', ns'.Perm ns → BagOk l s' → Q (ordD ns') [s', .d (ordD ns)]
theorem swap_perm {ns : List Nat} {i : Nat} (h : i + 1 < ns.length) : (ns.take i ++ [ns[i + 1], ns[i]] ++ ns.drop (i + 2)).Perm ns := by
  have e : ns = ns.take i ++ (ns[i] :: ns[i + 1] :: ns.drop (i + 2)) := by
    rw [← List.drop_eq_getElem_cons, ← List.drop_eq_getElem_cons, List.take_append_drop]
  conv => rhs; rw [e]
  rw [List.append_assoc]
  exact List.Perm.append_left _ (List.Perm.swap _ _ _)
theorem move_perm {ns : List Nat} {i j : Nat} (h : i < ns.length) : ((ns.take i ++ ns.drop (i + 1)).take j ++ [ns[i]] ++ (ns.take i ++ ns.drop (i + 1)).drop j).Perm ns := by
  have e : ns = ns.take i ++ (ns[i] :: ns.drop (i + 1)) := by rw [← List.drop_eq_getElem_cons, List.take_append_drop]
  have p1 : ns.Perm (ns[i] :: (ns.take i ++ ns.drop (i + 1))) := by
    conv => lhs; rw [e]
    exact List.perm_middle
  refine List.Perm.trans ?_ p1.symm
  rw [List.append_assoc]
  refine List.Perm.trans List.perm_middle ?_
  show (ns[i] :: ((ns.take i ++ ns.drop (i + 1)).take j ++ (ns.take i ++ ns.drop (i + 1)).drop j)).Perm _
  rw [List.take_append_drop]
/-! ### a history with another answer -/
def bendC (cs : List Cl) (i : Nat) (a : An) : List Cl := cs.set i { clAt cs i with a := some (some a) }
theorem bend_len {cs : List Cl} {i : Nat} {a : An} : (bendC cs i a).length = cs.length := by unfold bendC; rw [List.length_set]
theorem bend_at {cs : List Cl} {i j : Nat} {a : An} (hi : i < cs.length) : clAt (bendC cs i a) j = if i = j then { clAt cs i with a := some (some a) } else clAt cs j := by
  unfold clAt bendC
  rw [List.getD_eq_getElem?_getD, List.getElem?_set]
  by_cases e : i = j
  · subst e
    rw [if_pos rfl, if_pos rfl, if_pos hi]
    rfl
  · rw [if_neg e, if_neg e, List.getD_eq_getElem?_getD]
theorem bend_dds {cs : List Cl} {i : Nat} {a : An} (hi : i < cs.length) (ns : List Nat) : ddsOf (bendC cs i a) ns = ddsOf cs ns := by
  unfold ddsOf
  refine List.map_congr_left fun j _ => ?_
  rw [bend_at hi]
  split
  · rename_i e; subst e; rfl
  · rfl
theorem bend_mem {cs : List Cl} {i : Nat} {a : An} {P : Cl → Prop} (hi : i < cs.length) (h : ∀ c ∈ cs, P c) (h2 : P (clAt cs i) → P { clAt cs i with a := some (some a) }) : ∀ c ∈ bendC cs i a, P c := fun c hc => by
  rcases List.mem_or_eq_of_mem_set hc with hc | hc
  · exact h c hc
  · rw [hc]; exact h2 (h _ (clAt_mem hi))
theorem HistR.bent {p : Int} {n most : Nat} {cs : List Cl} {ord : List Nat} (h : HistR p n most cs ord) {i : Nat} {a : An} (hi : i < cs.length) (ha : (clAt cs i).a ≠ some (some a)) : wrongK p n (bendC cs i a) ord = some (ord.idxOf i) := by
  have hm : i ∈ ord := h.perm.mem_iff.mpr (List.mem_range.mpr hi)
  have hx := List.idxOf_lt_length_of_mem hm
  have eo : ansO p n (bendC cs i a) ord = ansO p n cs ord := by unfold ansO; rw [bend_dds hi]
  rw [wrongK_eq, List.find?_range_eq_some]
  refine ⟨?_, List.mem_range.mpr hx, fun j hj => ?_⟩
  · rw [eo, getD_of hx, List.getElem_idxOf hx, bend_at hi, if_pos rfl, Bool.not_eq_true']
    refine decide_eq_false fun e => ha ?_
    have := (h.at_ hx).1
    rw [List.getElem_idxOf hx] at this
    rw [this]
    exact e.symm
  · have hj' : j < ord.length := by omega
    rw [eo, getD_of hj', bend_at hi, if_neg, decide_eq_true (h.at_ hj').1]
    · rfl
    · intro e
      have := h.nd.idxOf_getElem j hj'
      rw [← e] at this
      omega
end R
namespace R
open PySem PySem.Spec PyProof.Rows L2 RX
theorem weavB_ordD {p : Int} {n : Nat} {cs : List Cl} {ns : List Nat} : weavB p n cs (ordD ns) = (isOrd cs ns && (wrongK p n cs ns).isNone) := by
  have e : intsB (ordD ns) = some (ns.map fun i : Nat => (i : Int)) := by
    unfold intsB ordD natsD
    simp only
    rw [if_pos (by rw [List.all_map]; exact List.all_eq_true.mpr fun _ _ => rfl), List.map_map]
    rfl
  have e2 : natsOf (ns.map fun i : Nat => (i : Int)) = ns := by
    unfold natsOf
    rw [List.map_map]
    exact (List.map_congr_left fun i _ => by show (i : Int).toNat = i; omega).trans (List.map_id ns)
  unfold weavB
  rw [ordB_ordD, e]
  show (isOrd cs ns && (wrongK p n cs (natsOf (ns.map fun i : Nat => (i : Int)))).isNone) = _
  rw [e2]
theorem ordD_ints (ns : List Nat) : ordD ns = .tuple ((ns.map fun i : Nat => (i : Int)).map .int) := by
  unfold ordD natsD
  rw [List.map_map]
  rfl
theorem idx_cast (i : Nat) : ∀ ns : List Nat, (ns.map fun i : Nat => (i : Int)).idxOf (i : Int) = ns.idxOf i
  | [] => rfl
  | x :: xs => by
    have ih := idx_cast i xs
    show ((x : Int) :: xs.map fun i : Nat => (i : Int)).idxOf (i : Int) = (x :: xs).idxOf i
    rw [List.idxOf_cons, List.idxOf_cons, ih]
    have e : ((x : Int) == (i : Int)) = (x == i) := by
      by_cases h : x = i
      · subst h; rw [beq_self_eq_true, beq_self_eq_true]
      · rw [beq_eq_false_iff_ne.mpr h, beq_eq_false_iff_ne.mpr fun e => h (by omega)]
    rw [e]
theorem fit_rows {p : Int} {n : Nat} {rows : List M.Row} (hh : HouseOk p n) (h : M.RowsOk p n rows) (hl : rows.length ≤ 100) : Fit 3 67500 (rsD rows) := by
  refine fit_tupN (w := 674) 100 (fun d hd => ?_) (by rw [List.length_map]; exact hl)
  obtain ⟨r, hr, rfl⟩ := List.mem_map.mp hd
  have ro := h r hr
  have h10 := hh.p10
  refine fit_tupN (h := 1) (w := 336) 2 (fun d hd => ?_) (by simp)
  simp only [List.mem_cons, List.not_mem_nil, or_false] at hd
  rcases hd with rfl | rfl
  · exact fit_vec hh ⟨ro.1, ro.2.1⟩
  · exact (fit_big (by have := ro.2.2; omega)).mono (by decide) (by decide)
theorem rng0' (m : Nat) : rgD 0 m = (List.range m).map fun i : Nat => PyData.int (i : Nat) := by rw [rgD0]; rfl
end R

namespace R
open PySem PySem.Spec PyProof.Rows L2 RX
def topS (i : Nat) : Stmt := PySem.Challenge.pw_freshtold_k10_whole_true_histories_weave.main.body.getD i (.Pass ⟨0, 0, 0, 0⟩)
section
variable {P : Program} {w : World} {K : PySem.W.Frag} {mg : Str → Option Value} {base : Heap}
abbrev D_PRIMES : PyData := (.tuple [(.int 2), (.int 3), (.int 5), (.int 7)])
-- _wall: Exception S While(test=Constant(value=True), body=[Pass()], orelse=[])
abbrev s_is_ahead : Stmt := topS 2
abbrev N_is_ahead : List Str := ["what", "one", "other", "end", "begin"]
abbrev p_is_ahead : List Str := ["what", "one", "other"]
theorem sc_is_ahead : FnScope N_is_ahead p_is_ahead (defScope s_is_ahead) := ⟨rfl, rfl, rfl, by decide +kernel, rfl, by decide +kernel, by decide +kernel⟩
def A_is_ahead  : AS := (aSeq (aPar 3 4 (aCons (aOp fIx (aOp fIx (aOp fIx (aVar 0) (aC (.int 1))) (aVar 1)) (aC (.int 2))) (aCons (aOp fIx (aOp fIx (aOp fIx (aVar 0) (aC (.int 1))) (aVar 2)) (aC (.int 1))) aNil))) (aRet (aAndV (aNotN (aVar 3)) (aOp fLt (aVar 3) (aVar 4)))))
theorem g_is_ahead {k : Nat} {fa : AF}  (D : Def K mg "is_ahead" p_is_ahead s_is_ahead)  
    (many : ∀ as Q, fa as Q → as.length = 3)
    (does : ∀ as Q, fa as Q → A_is_ahead  { nx := fun sl' => Q .none (finS as sl'), rt := fun d sl' => Q d (finS as sl') } (startS 5 as)) : Ok P w K mg base (k + 1) "is_ahead" p_is_ahead fa := by
  have nd := sc_is_ahead.nd
  refine Ok.of (N := N_is_ahead) D sc_is_ahead (by decide) many (fun f cdv A outer s H hr hg =>
    (pss_cons (ps_par rfl nd rfl rfl (by decide) rfl rfl (pa_cons (pe_ix ix_seq (pe_ix ix_seq (pe_ix ix_seq (pv 0) pe_int (fun _ _ => rfl)) (pv 1) (fun _ _ => rfl)) pe_int (fun _ _ => rfl)) (pa_cons (pe_ix ix_seq (pe_ix ix_seq (pe_ix ix_seq (pv 0) pe_int (fun _ _ => rfl)) (pv 2) (fun _ _ => rfl)) pe_int (fun _ _ => rfl)) pa_nil)) (by rfl)) (pss_one (ps_ret (pe_and (pe_cmp (pc_notN (pv 3))) (pe_one (pe_cmpR op_lt (pv 3) (pv 4) (nomark _))))))))
    (ls_seq (ls_par 3 4 (ld_cons (le_op lr_ix (le_op lr_ix (le_op lr_ix (le_var 0) (le_int 1)) (le_var 1)) (le_int 2)) (ld_cons (le_op lr_ix (le_op lr_ix (le_op lr_ix (le_var 0) (le_int 1)) (le_var 2)) (le_int 1)) ld_nil))) (ls_ret (le_andV (le_notN (le_var 3)) (le_op lr_lt (le_var 3) (le_var 4))))) ?_
  exact does

abbrev s_empty_sum : Stmt := topS 4
abbrev N_empty_sum : List Str := ["house"]
abbrev p_empty_sum : List Str := ["house"]
theorem sc_empty_sum : FnScope N_empty_sum p_empty_sum (defScope s_empty_sum) := ⟨rfl, rfl, rfl, by decide +kernel, rfl, by decide +kernel, by decide +kernel⟩
def A_empty_sum  : AS := (aRet (aOp fMul (aTup (aCons (aC (.int 0)) aNil)) (aOp fIx (aVar 0) (aC (.int 1)))))
theorem g_empty_sum {k : Nat} {fa : AF}  (D : Def K mg "empty_sum" p_empty_sum s_empty_sum)  
    (many : ∀ as Q, fa as Q → as.length = 1)
    (does : ∀ as Q, fa as Q → A_empty_sum  { nx := fun sl' => Q .none (finS as sl'), rt := fun d sl' => Q d (finS as sl') } (startS 1 as)) : Ok P w K mg base (k + 1) "empty_sum" p_empty_sum fa := by
  have nd := sc_empty_sum.nd
  refine Ok.of (N := N_empty_sum) D sc_empty_sum (by decide) many (fun f cdv A outer s H hr hg =>
    (pss_one (ps_ret (pe_op op_mulA (pe_tupK (pa_cons pe_int pa_nil)) (pe_ix ix_seq (pv 0) pe_int (fun _ _ => rfl))))))
    (ls_ret (le_op lr_mul (le_tup (ld_cons (le_int 0) ld_nil)) (le_op lr_ix (le_var 0) (le_int 1)))) ?_
  exact does

abbrev s_times : Stmt := topS 5
abbrev N_times : List Str := ["house", "number", "one", "factor"]
abbrev p_times : List Str := ["house", "number", "one"]
theorem sc_times : FnScope N_times p_times (defScope s_times) := ⟨rfl, rfl, rfl, by decide +kernel, rfl, by decide +kernel, by decide +kernel⟩
def A_times  : AS := (aRet (aCB fTuple (aCons (aOfN (aLc (aSeqI (aVar 2)) (aName 3) aYes (aOp fMod (aOp fMul (aVar 1) (aVar 3)) (aOp fIx (aVar 0) (aC (.int 0)))) [3])) aNil)))
theorem g_times {k : Nat} {fa : AF}  (D : Def K mg "times" p_times s_times)  (m_tuple : mg "tuple" = none)
    (many : ∀ as Q, fa as Q → as.length = 3)
    (does : ∀ as Q, fa as Q → A_times  { nx := fun sl' => Q .none (finS as sl'), rt := fun d sl' => Q d (finS as sl') } (startS 4 as)) : Ok P w K mg base (k + 1) "times" p_times fa := by
  have nd := sc_times.nd
  refine Ok.of (N := N_times) D sc_times (by decide) many (fun f cdv A outer s H hr hg =>
    (pss_one (ps_ret (pe_callTy call_tupK (by rfl) m_tuple b_tuple (pa_cons (pe_lc (own := [("factor", 3)]) rfl nd (pi_seq (pv 2)) (blkOk_by (N := N_times) (sc := defScope s_times) (by decide +kernel)) (fun _ _ _ _ _ => (pg_name (i := 3) nd rfl (by first | exact Or.inl rfl | exact Or.inr rfl))) (fun _ _ _ _ _ => pts_nil) (fun _ _ _ _ _ => (pe_op op_modN (pe_op op_mulA (pv 1) (pv 3)) (pe_ix ix_seq (pv 0) pe_int (fun _ _ => rfl))))) pa_nil)))))
    (ls_ret (le_CB lc_tuple (ld_cons (le_ofN (ln_lc (li_seq (le_var 2)) (lg_name 3) lt_yes (le_op lr_mod (le_op lr_mul (le_var 1) (le_var 3)) (le_op lr_ix (le_var 0) (le_int 0))))) ld_nil))) ?_
  exact does

abbrev s_given_by : Stmt := topS 6
abbrev N_given_by : List Str := ["house", "rows", "one", "leads", "_", "line", "turned"]
abbrev p_given_by : List Str := ["house", "rows", "one"]
theorem sc_given_by : FnScope N_given_by p_given_by (defScope s_given_by) := ⟨rfl, rfl, rfl, by decide +kernel, rfl, by decide +kernel, by decide +kernel⟩
def A_given_by (a__sifted : AF) (a__cleared : AF) (a_empty_sum : AF) (a_times : AF) : AS := (aSeq (aGSet (aGTup 2 (aGCons (aName 3) (aGCons (aName 4) aGNil))) (aCall a__sifted (aaD (aVar 0) (aaD (aVar 1) aaNil)))) (aSeq (aSet 5 (aCall a__cleared (aaD (aVar 0) (aaD (aOp fAdd (aVar 2) (aOp fMul (aTup (aCons (aC (.int 0)) aNil)) (aOp fAdd (aC (.int 1)) (aCB fLen (aCons (aVar 1) aNil))))) (aaD (aVar 3) aaNil))))) (aSeq (aIfS (aTest (aOp fNe (aSl (aVar 5) aNoPart (aPart (aOp fIx (aVar 0) (aC (.int 1))))) (aCall a_empty_sum (aaD (aVar 0) aaNil)))) (aRet (aC .none)) aNext) (aSeq (aSet 6 (aCall a_times (aaD (aVar 0) (aaD (aOp fSub (aOp fIx (aVar 0) (aC (.int 0))) (aC (.int 1))) (aaD (aSl (aVar 5) (aPart (aOp fIx (aVar 0) (aC (.int 1)))) aNoPart) aaNil))))) (aRet (aTup (aCons (aOp fIx (aVar 6) (aC (.int 0))) (aCons (aSl (aVar 6) (aPart (aC (.int 1))) aNoPart) aNil))))))))
theorem g_given_by {k : Nat} {fa : AF}  (D : Def K mg "given_by" p_given_by s_given_by) {a__sifted : AF} (o__sifted : Ok P w K mg base k "_sifted" p__sifted a__sifted) {a__cleared : AF} (o__cleared : Ok P w K mg base k "_cleared" p__cleared a__cleared) {a_empty_sum : AF} (o_empty_sum : Ok P w K mg base k "empty_sum" p_empty_sum a_empty_sum) {a_times : AF} (o_times : Ok P w K mg base k "times" p_times a_times) (m_len : mg "len" = none)
    (many : ∀ as Q, fa as Q → as.length = 3)
    (does : ∀ as Q, fa as Q → A_given_by a__sifted a__cleared a_empty_sum a_times { nx := fun sl' => Q .none (finS as sl'), rt := fun d sl' => Q d (finS as sl') } (startS 7 as)) : Ok P w K mg base (k + 1) "given_by" p_given_by fa := by
  have nd := sc_given_by.nd
  refine Ok.of (N := N_given_by) D sc_given_by (by decide) many (fun f cdv A outer s H hr hg =>
    (pss_cons (ps_asg (pe_ok o__sifted hr hg (by rfl) (pa_cons (pv 0) (pa_cons (pv 1) pa_nil))) (pg_tup (n := 2) rfl (pgs_cons (pg_name (i := 3) nd rfl (by first | exact Or.inl rfl | exact Or.inr rfl)) (pgs_cons (pg_name (i := 4) nd rfl (by first | exact Or.inl rfl | exact Or.inr rfl)) pgs_nil)))) (pss_cons (ps_set (i := 5) nd rfl (by first | exact Or.inl rfl | exact Or.inr rfl) (pe_ok o__cleared hr hg (by rfl) (pa_cons (pv 0) (pa_cons (pe_op op_addA (pv 2) (pe_op op_mulA (pe_tupK (pa_cons pe_int pa_nil)) (pe_op op_addA pe_int (pe_callB call_len (by rfl) m_len b_len (pa_cons (pv 1) pa_nil))))) (pa_cons (pv 3) pa_nil))))) (pss_cons (ps_if (pt_cmpR (op_neD (un64 hr)) (pe_slice sl_any (pv 5) po_none (po_some (pe_ix ix_seq (pv 0) pe_int (fun _ _ => rfl)))) (pe_ok o_empty_sum hr hg (by rfl) (pa_cons (pv 0) pa_nil)) (nomark _)) (pss_one (ps_ret pe_non)) pss_nil) (pss_cons (ps_set (i := 6) nd rfl (by first | exact Or.inl rfl | exact Or.inr rfl) (pe_ok o_times hr hg (by rfl) (pa_cons (pv 0) (pa_cons (pe_op op_sub (pe_ix ix_seq (pv 0) pe_int (fun _ _ => rfl)) pe_int) (pa_cons (pe_slice sl_any (pv 5) (po_some (pe_ix ix_seq (pv 0) pe_int (fun _ _ => rfl))) po_none) pa_nil))))) (pss_one (ps_ret (pe_tupK (pa_cons (pe_ix ix_seq (pv 6) pe_int (fun _ _ => rfl)) (pa_cons (pe_slice sl_any (pv 6) (po_some pe_int) po_none) pa_nil))))))))))
    (ls_seq (ls_asg (le_call (fa := a__sifted) (la_d (le_var 0) (la_d (le_var 1) la_nil))) (lg_tup (lgs_cons (lg_name 3) (lgs_cons (lg_name 4) lgs_nil)))) (ls_seq (ls_set 5 (le_call (fa := a__cleared) (la_d (le_var 0) (la_d (le_op lr_add (le_var 2) (le_op lr_mul (le_tup (ld_cons (le_int 0) ld_nil)) (le_op lr_add (le_int 1) (le_CB lc_len (ld_cons (le_var 1) ld_nil))))) (la_d (le_var 3) la_nil))))) (ls_seq (ls_if (lt_test (le_op lr_ne (le_sl (le_var 5) lo_none (lo_some (le_op lr_ix (le_var 0) (le_int 1)))) (le_call (fa := a_empty_sum) (la_d (le_var 0) la_nil)))) (ls_ret le_non) ls_next) (ls_seq (ls_set 6 (le_call (fa := a_times) (la_d (le_var 0) (la_d (le_op lr_sub (le_op lr_ix (le_var 0) (le_int 0)) (le_int 1)) (la_d (le_sl (le_var 5) (lo_some (le_op lr_ix (le_var 0) (le_int 1))) lo_none) la_nil))))) (ls_ret (le_tup (ld_cons (le_op lr_ix (le_var 6) (le_int 0)) (ld_cons (le_sl (le_var 6) (lo_some (le_int 1)) lo_none) ld_nil)))))))) ?_
  exact does

abbrev s__line_of : Stmt := topS 7
abbrev N__line_of : List Str := ["rows", "place", "one", "number", "other"]
abbrev p__line_of : List Str := ["rows", "place"]
theorem sc__line_of : FnScope N__line_of p__line_of (defScope s__line_of) := ⟨rfl, rfl, rfl, by decide +kernel, rfl, by decide +kernel, by decide +kernel⟩
def A__line_of  : AS := (aSeq (aGSet (aGTup 2 (aGCons (aName 2) (aGCons (aName 3) aGNil))) (aOp fIx (aVar 0) (aVar 1))) (aRet (aOp fAdd (aOp fAdd (aVar 2) (aTup (aCons (aVar 3) aNil))) (aCB fTuple (aCons (aOfN (aLc (aRng1 (aCB fLen (aCons (aVar 0) aNil))) (aName 4) aYes (aIf (aTest (aOp fEq (aVar 4) (aVar 1))) (aC (.int 1)) (aC (.int 0))) [4])) aNil)))))
theorem g__line_of {k : Nat} {fa : AF}  (D : Def K mg "_line_of" p__line_of s__line_of)  (m_len : mg "len" = none) (m_range : mg "range" = none) (m_tuple : mg "tuple" = none)
    (many : ∀ as Q, fa as Q → as.length = 2)
    (does : ∀ as Q, fa as Q → A__line_of  { nx := fun sl' => Q .none (finS as sl'), rt := fun d sl' => Q d (finS as sl') } (startS 5 as)) : Ok P w K mg base (k + 1) "_line_of" p__line_of fa := by
  have nd := sc__line_of.nd
  refine Ok.of (N := N__line_of) D sc__line_of (by decide) many (fun f cdv A outer s H hr hg =>
    (pss_cons (ps_asg (pe_ix ix_seq (pv 0) (pv 1) (fun _ _ => rfl)) (pg_tup (n := 2) rfl (pgs_cons (pg_name (i := 2) nd rfl (by first | exact Or.inl rfl | exact Or.inr rfl)) (pgs_cons (pg_name (i := 3) nd rfl (by first | exact Or.inl rfl | exact Or.inr rfl)) pgs_nil)))) (pss_one (ps_ret (pe_op op_addA (pe_op op_addA (pv 2) (pe_tupK (pa_cons (pv 3) pa_nil))) (pe_callTy call_tupK (by rfl) m_tuple b_tuple (pa_cons (pe_lc (own := [("other", 4)]) rfl nd (pi_range1 (by rfl) m_range (pa_cons (pe_callB call_len (by rfl) m_len b_len (pa_cons (pv 0) pa_nil)) pa_nil)) (blkOk_by (N := N__line_of) (sc := defScope s__line_of) (by decide +kernel)) (fun _ _ _ _ _ => (pg_name (i := 4) nd rfl (by first | exact Or.inl rfl | exact Or.inr rfl))) (fun _ _ _ _ _ => pts_nil) (fun _ _ _ _ _ => (pe_ifExp (pt_cmpR (op_eqD (un64 hr)) (pv 4) (pv 1) (nomark _)) pe_int pe_int))) pa_nil)))))))
    (ls_seq (ls_asg (le_op lr_ix (le_var 0) (le_var 1)) (lg_tup (lgs_cons (lg_name 2) (lgs_cons (lg_name 3) lgs_nil)))) (ls_ret (le_op lr_add (le_op lr_add (le_var 2) (le_tup (ld_cons (le_var 3) ld_nil))) (le_CB lc_tuple (ld_cons (le_ofN (ln_lc (li_rng1 (le_CB lc_len (ld_cons (le_var 0) ld_nil))) (lg_name 4) lt_yes (le_if (lt_test (le_op lr_eq (le_var 4) (le_var 1))) (le_int 1) (le_int 0)))) ld_nil))))) ?_
  exact does

abbrev s__lead_of : Stmt := topS 8
abbrev N__lead_of : List Str := ["house", "line", "place"]
abbrev p__lead_of : List Str := ["house", "line"]
theorem sc__lead_of : FnScope N__lead_of p__lead_of (defScope s__lead_of) := ⟨rfl, rfl, rfl, by decide +kernel, rfl, by decide +kernel, by decide +kernel⟩
def A__lead_of  : AS := (aSeq (aFor (aRng1 (aOp fIx (aVar 0) (aC (.int 1)))) (aName 2) (aIfS (aTest (aOp fNe (aOp fIx (aVar 1) (aVar 2)) (aC (.int 0)))) (aRet (aVar 2)) aNext)) (aRet (aC .none)))
theorem g__lead_of {k : Nat} {fa : AF}  (D : Def K mg "_lead_of" p__lead_of s__lead_of)  (m_range : mg "range" = none)
    (many : ∀ as Q, fa as Q → as.length = 2)
    (does : ∀ as Q, fa as Q → A__lead_of  { nx := fun sl' => Q .none (finS as sl'), rt := fun d sl' => Q d (finS as sl') } (startS 3 as)) : Ok P w K mg base (k + 1) "_lead_of" p__lead_of fa := by
  have nd := sc__lead_of.nd
  refine Ok.of (N := N__lead_of) D sc__lead_of (by decide) many (fun f cdv A outer s H hr hg =>
    (pss_cons (ps_for PassesOwn.never rfl (pi_range1 (by rfl) m_range (pa_cons (pe_ix ix_seq (pv 0) pe_int (fun _ _ => rfl)) pa_nil)) (pg_name (i := 2) nd rfl (by first | exact Or.inl rfl | exact Or.inr rfl)) (pss_one (ps_if (pt_cmpR (op_neD (un64 hr)) (pe_ix ix_seq (pv 1) (pv 2) (fun _ _ => rfl)) pe_int (nomark _)) (pss_one (ps_ret (pv 2))) pss_nil))) (pss_one (ps_ret pe_non))))
    (ls_seq (ls_for (li_rng1 (le_op lr_ix (le_var 0) (le_int 1))) (lg_name 2) (ls_if (lt_test (le_op lr_ne (le_op lr_ix (le_var 1) (le_var 2)) (le_int 0))) (ls_ret (le_var 2)) ls_next)) (ls_ret le_non)) ?_
  exact does

abbrev s__inverse : Stmt := topS 9
abbrev N__inverse : List Str := ["house", "number", "other"]
abbrev p__inverse : List Str := ["house", "number"]
theorem sc__inverse : FnScope N__inverse p__inverse (defScope s__inverse) := ⟨rfl, rfl, rfl, by decide +kernel, rfl, by decide +kernel, by decide +kernel⟩
def A__inverse  : AS := (aRet (aOp fIx (aOfN (aLc (aRng2 (aC (.int 1)) (aOp fIx (aVar 0) (aC (.int 0)))) (aName 2) (aTest (aOp fEq (aOp fMod (aOp fMul (aVar 1) (aVar 2)) (aOp fIx (aVar 0) (aC (.int 0)))) (aC (.int 1)))) (aVar 2) [2])) (aC (.int 0))))
theorem g__inverse {k : Nat} {fa : AF}  (D : Def K mg "_inverse" p__inverse s__inverse)  (m_range : mg "range" = none)
    (many : ∀ as Q, fa as Q → as.length = 2)
    (does : ∀ as Q, fa as Q → A__inverse  { nx := fun sl' => Q .none (finS as sl'), rt := fun d sl' => Q d (finS as sl') } (startS 3 as)) : Ok P w K mg base (k + 1) "_inverse" p__inverse fa := by
  have nd := sc__inverse.nd
  refine Ok.of (N := N__inverse) D sc__inverse (by decide) many (fun f cdv A outer s H hr hg =>
    (pss_one (ps_ret (pe_ix ix_seq (pe_lc (own := [("other", 2)]) rfl nd (pi_range2 (by rfl) m_range (pa_cons pe_int (pa_cons (pe_ix ix_seq (pv 0) pe_int (fun _ _ => rfl)) pa_nil))) (blkOk_by (N := N__inverse) (sc := defScope s__inverse) (by decide +kernel)) (fun _ _ _ _ _ => (pg_name (i := 2) nd rfl (by first | exact Or.inl rfl | exact Or.inr rfl))) (fun _ _ _ _ _ => (pts_one (pt_cmpR (op_eqD (un64 hr)) (pe_op op_modN (pe_op op_mulA (pv 1) (pv 2)) (pe_ix ix_seq (pv 0) pe_int (fun _ _ => rfl))) pe_int (nomark _)))) (fun _ _ _ _ _ => (pv 2))) pe_int (fun _ _ => rfl)))))
    (ls_ret (le_op lr_ix (le_ofN (ln_lc (li_rng2 (le_int 1) (le_op lr_ix (le_var 0) (le_int 0))) (lg_name 2) (lt_test (le_op lr_eq (le_op lr_mod (le_op lr_mul (le_var 1) (le_var 2)) (le_op lr_ix (le_var 0) (le_int 0))) (le_int 1))) (le_var 2))) (le_int 0))) ?_
  exact does

abbrev s__less : Stmt := topS 10
abbrev N__less : List Str := ["house", "line", "number", "other", "left", "right"]
abbrev p__less : List Str := ["house", "line", "number", "other"]
theorem sc__less : FnScope N__less p__less (defScope s__less) := ⟨rfl, rfl, rfl, by decide +kernel, rfl, by decide +kernel, by decide +kernel⟩
def A__less  : AS := (aRet (aCB fTuple (aCons (aOfN (aLc (aZip (aVar 1) (aVar 3)) (aGTup 2 (aGCons (aName 4) (aGCons (aName 5) aGNil))) aYes (aOp fMod (aOp fSub (aVar 4) (aOp fMul (aVar 2) (aVar 5))) (aOp fIx (aVar 0) (aC (.int 0)))) [4, 5])) aNil)))
theorem g__less {k : Nat} {fa : AF}  (D : Def K mg "_less" p__less s__less)  (m_zip : mg "zip" = none) (m_tuple : mg "tuple" = none)
    (many : ∀ as Q, fa as Q → as.length = 4)
    (does : ∀ as Q, fa as Q → A__less  { nx := fun sl' => Q .none (finS as sl'), rt := fun d sl' => Q d (finS as sl') } (startS 6 as)) : Ok P w K mg base (k + 1) "_less" p__less fa := by
  have nd := sc__less.nd
  refine Ok.of (N := N__less) D sc__less (by decide) many (fun f cdv A outer s H hr hg =>
    (pss_one (ps_ret (pe_callTy call_tupK (by rfl) m_tuple b_tuple (pa_cons (pe_lc (own := [("left", 4), ("right", 5)]) rfl nd (pi_zipM (by rfl) m_zip (pa_cons (pv 1) (pa_cons (pv 3) pa_nil))) (blkOk_by (N := N__less) (sc := defScope s__less) (by decide +kernel)) (fun _ _ _ _ _ => (pg_tup (n := 2) rfl (pgs_cons (pg_name (i := 4) nd rfl (by first | exact Or.inl rfl | exact Or.inr rfl)) (pgs_cons (pg_name (i := 5) nd rfl (by first | exact Or.inl rfl | exact Or.inr rfl)) pgs_nil)))) (fun _ _ _ _ _ => pts_nil) (fun _ _ _ _ _ => (pe_op op_modN (pe_op op_sub (pv 4) (pe_op op_mulA (pv 2) (pv 5))) (pe_ix ix_seq (pv 0) pe_int (fun _ _ => rfl))))) pa_nil)))))
    (ls_ret (le_CB lc_tuple (ld_cons (le_ofN (ln_lc (li_zip (le_var 1) (le_var 3)) (lg_tup (lgs_cons (lg_name 4) (lgs_cons (lg_name 5) lgs_nil))) lt_yes (le_op lr_mod (le_op lr_sub (le_var 4) (le_op lr_mul (le_var 2) (le_var 5))) (le_op lr_ix (le_var 0) (le_int 0))))) ld_nil))) ?_
  exact does

abbrev s__cleared : Stmt := topS 11
abbrev N__cleared : List Str := ["house", "line", "leads", "lead"]
abbrev p__cleared : List Str := ["house", "line", "leads"]
theorem sc__cleared : FnScope N__cleared p__cleared (defScope s__cleared) := ⟨rfl, rfl, rfl, by decide +kernel, rfl, by decide +kernel, by decide +kernel⟩
def A__cleared (a__less : AF) : AS := (aSeq (aForK 2 (aName 3) (aSet 1 (aCall a__less (aaD (aVar 0) (aaD (aVar 1) (aaD (aOp fIx (aVar 1) (aVar 3)) (aaD (aDGet (aVar 2) (aVar 3)) aaNil))))))) (aRet (aVar 1)))
theorem g__cleared {k : Nat} {fa : AF}  (D : Def K mg "_cleared" p__cleared s__cleared) {a__less : AF} (o__less : Ok P w K mg base k "_less" p__less a__less) 
    (many : ∀ as Q, fa as Q → as.length = 3)
    (does : ∀ as Q, fa as Q → A__cleared a__less { nx := fun sl' => Q .none (finS as sl'), rt := fun d sl' => Q d (finS as sl') } (startS 4 as)) : Ok P w K mg base (k + 1) "_cleared" p__cleared fa := by
  have nd := sc__cleared.nd
  refine Ok.of (N := N__cleared) D sc__cleared (by decide) many (fun f cdv A outer s H hr hg =>
    (pss_cons (PS.either (ps_lock (ps_for PassesOwn.never rfl (pi_keys (pv 2)) (pg_name (i := 3) nd rfl (by first | exact Or.inl rfl | exact Or.inr rfl)) (pss_one (ps_set (i := 1) nd rfl (by first | exact Or.inl rfl | exact Or.inr rfl) (pe_ok o__less hr hg (by rfl) (pa_cons (pv 0) (pa_cons (pv 1) (pa_cons (pe_ix ix_seq (pv 1) (pv 3) (fun _ _ => rfl)) (pa_cons (pe_dget (un1 hr) (pv 2) (pv 3) (fun _ _ => rfl)) pa_nil))))))))) (ps_for PassesOwn.never rfl (pi_keys (pv 2)) (pg_name (i := 3) nd rfl (by first | exact Or.inl rfl | exact Or.inr rfl)) (pss_one (ps_set (i := 1) nd rfl (by first | exact Or.inl rfl | exact Or.inr rfl) (pe_ok o__less hr hg (by rfl) (pa_cons (pv 0) (pa_cons (pv 1) (pa_cons (pe_ix ix_seq (pv 1) (pv 3) (fun _ _ => rfl)) (pa_cons (pe_dget (un1 hr) (pv 2) (pv 3) (fun _ _ => rfl)) pa_nil))))))))) (pss_one (ps_ret (pv 1)))))
    (ls_seq (ls_forK 2 (lg_name 3) (ls_set 1 (le_call (fa := a__less) (la_d (le_var 0) (la_d (le_var 1) (la_d (le_op lr_ix (le_var 1) (le_var 3)) (la_d (le_dget (le_var 2) (le_var 3)) la_nil))))))) (ls_ret (le_var 1))) ?_
  exact does

abbrev s__sifted : Stmt := topS 12
abbrev N__sifted : List Str := ["house", "rows", "leads", "spent", "place", "line", "lead", "other"]
abbrev p__sifted : List Str := ["house", "rows"]
theorem sc__sifted : FnScope N__sifted p__sifted (defScope s__sifted) := ⟨rfl, rfl, rfl, by decide +kernel, rfl, by decide +kernel, by decide +kernel⟩
def A__sifted (a__cleared : AF) (a__line_of : AF) (a__lead_of : AF) (a_times : AF) (a__inverse : AF) (a__less : AF) : AS := (aSeq (aParML 2 3 aNewD (aLst aNil)) (aSeq (aFor (aRng1 (aCB fLen (aCons (aVar 1) aNil))) (aName 4) (aSeq (aSet 5 (aCall a__cleared (aaD (aVar 0) (aaD (aCall a__line_of (aaD (aVar 1) (aaD (aVar 4) aaNil))) (aaD (aFrzDO 2) aaNil))))) (aSeq (aSet 6 (aCall a__lead_of (aaD (aVar 0) (aaD (aVar 5) aaNil)))) (aIfS (aTest (aIsN (aVar 6))) (aApp 3 (aVar 5)) (aSeq (aSet 5 (aCall a_times (aaD (aVar 0) (aaD (aCall a__inverse (aaD (aVar 0) (aaD (aOp fIx (aVar 5) (aVar 6)) aaNil))) (aaD (aVar 5) aaNil))))) (aSeq (aSetM 2 (aDcK 2 (aName 7) aYes (aVar 7) (aCall a__less (aaD (aVar 0) (aaD (aDGet (aVar 2) (aVar 7)) (aaD (aOp fIx (aDGet (aVar 2) (aVar 7)) (aVar 6)) (aaD (aVar 5) aaNil))))) [7])) (aDPut 2 (aVar 6) (aVar 5)))))))) (aRet (aTup (aCons (aFrzDO 2) (aCons (aFrz 3) aNil))))))
theorem g__sifted {k : Nat} {fa : AF}  (D : Def K mg "_sifted" p__sifted s__sifted) {a__cleared : AF} (o__cleared : Ok P w K mg base k "_cleared" p__cleared a__cleared) {a__line_of : AF} (o__line_of : Ok P w K mg base k "_line_of" p__line_of a__line_of) {a__lead_of : AF} (o__lead_of : Ok P w K mg base k "_lead_of" p__lead_of a__lead_of) {a_times : AF} (o_times : Ok P w K mg base k "times" p_times a_times) {a__inverse : AF} (o__inverse : Ok P w K mg base k "_inverse" p__inverse a__inverse) {a__less : AF} (o__less : Ok P w K mg base k "_less" p__less a__less) (m_len : mg "len" = none) (m_range : mg "range" = none)
    (many : ∀ as Q, fa as Q → as.length = 2)
    (does : ∀ as Q, fa as Q → A__sifted a__cleared a__line_of a__lead_of a_times a__inverse a__less { nx := fun sl' => Q .none (finS as sl'), rt := fun d sl' => Q d (finS as sl') } (startS 8 as)) : Ok P w K mg base (k + 1) "_sifted" p__sifted fa := by
  have nd := sc__sifted.nd
  refine Ok.of (N := N__sifted) D sc__sifted (by decide) many (fun f cdv A outer s H hr hg =>
    (pss_cons (ps_asg (pe_tupK (pa_cons pe_dnewK (pa_cons (pe_lst pa_nil) pa_nil))) (pg_tup (n := 2) rfl (pgs_cons (pg_name (i := 2) nd rfl (by first | exact Or.inl rfl | exact Or.inr rfl)) (pgs_cons (pg_name (i := 3) nd rfl (by first | exact Or.inl rfl | exact Or.inr rfl)) pgs_nil)))) (pss_cons (ps_for PassesOwn.never rfl (pi_range1 (by rfl) m_range (pa_cons (pe_callB call_len (by rfl) m_len b_len (pa_cons (pv 1) pa_nil)) pa_nil)) (pg_name (i := 4) nd rfl (by first | exact Or.inl rfl | exact Or.inr rfl)) (pss_cons (ps_set (i := 5) nd rfl (by first | exact Or.inl rfl | exact Or.inr rfl) (pe_ok o__cleared hr hg (by rfl) (pa_cons (pv 0) (pa_cons (pe_ok o__line_of hr hg (by rfl) (pa_cons (pv 1) (pa_cons (pv 4) pa_nil))) (pa_cons (pv 2) pa_nil))))) (pss_cons (ps_set (i := 6) nd rfl (by first | exact Or.inl rfl | exact Or.inr rfl) (pe_ok o__lead_of hr hg (by rfl) (pa_cons (pv 0) (pa_cons (pv 5) pa_nil)))) (pss_one (ps_if (pt_cmp (pc_isN (pv 6))) (pss_one (ps_expr (pe_bm PySem.F.plainAttrs_list PySem.F.slot_list_append PySem.F.type_list_append mt_append (pv 3) (pa_cons (pv 5) pa_nil)))) (pss_cons (ps_set (i := 5) nd rfl (by first | exact Or.inl rfl | exact Or.inr rfl) (pe_ok o_times hr hg (by rfl) (pa_cons (pv 0) (pa_cons (pe_ok o__inverse hr hg (by rfl) (pa_cons (pv 0) (pa_cons (pe_ix ix_seq (pv 5) (pv 6) (fun _ _ => rfl)) pa_nil))) (pa_cons (pv 5) pa_nil))))) (pss_cons (ps_set (i := 2) nd rfl (by first | exact Or.inl rfl | exact Or.inr rfl) (PE.either (pe_lock (pe_dc (own := [("other", 7)]) rfl nd (pi_keys (pv 2)) (blkOk_by (N := N__sifted) (sc := defScope s__sifted) (by decide +kernel)) (fun _ _ _ _ _ => (pg_name (i := 7) nd rfl (by first | exact Or.inl rfl | exact Or.inr rfl))) (fun _ _ _ _ _ => pts_nil) (fun _ _ _ _ _ => (pv 7)) (fun _ _ _ _ _ => (pe_ok o__less hr hg (by rfl) (pa_cons (pv 0) (pa_cons (pe_dget (un1 hr) (pv 2) (pv 7) (fun _ _ => rfl)) (pa_cons (pe_ix ix_seq (pe_dget (un1 hr) (pv 2) (pv 7) (fun _ _ => rfl)) (pv 6) (fun _ _ => rfl)) (pa_cons (pv 5) pa_nil)))))))) (pe_dc (own := [("other", 7)]) rfl nd (pi_keys (pv 2)) (blkOk_by (N := N__sifted) (sc := defScope s__sifted) (by decide +kernel)) (fun _ _ _ _ _ => (pg_name (i := 7) nd rfl (by first | exact Or.inl rfl | exact Or.inr rfl))) (fun _ _ _ _ _ => pts_nil) (fun _ _ _ _ _ => (pv 7)) (fun _ _ _ _ _ => (pe_ok o__less hr hg (by rfl) (pa_cons (pv 0) (pa_cons (pe_dget (un1 hr) (pv 2) (pv 7) (fun _ _ => rfl)) (pa_cons (pe_ix ix_seq (pe_dget (un1 hr) (pv 2) (pv 7) (fun _ _ => rfl)) (pv 6) (fun _ _ => rfl)) (pa_cons (pv 5) pa_nil))))))))) (pss_one (ps_dput (un1 hr) (pv 2) (pv 6) (pv 5) (by rfl)))))))))) (pss_one (ps_ret (pe_tupK (pa_cons (pv 2) (pa_cons (pv 3) pa_nil))))))))
    (ls_seq (ls_parMLt 2 3 lm_new (ln_lst ld_nil)) (ls_seq (ls_for (li_rng1 (le_CB lc_len (ld_cons (le_var 1) ld_nil))) (lg_name 4) (ls_seq (ls_set 5 (le_call (fa := a__cleared) (la_d (le_var 0) (la_d (le_call (fa := a__line_of) (la_d (le_var 1) (la_d (le_var 4) la_nil))) (la_d (le_frzDO 2) la_nil))))) (ls_seq (ls_set 6 (le_call (fa := a__lead_of) (la_d (le_var 0) (la_d (le_var 5) la_nil)))) (ls_if (lt_B (le_isN (le_var 6))) (ls_app 3 (le_var 5)) (ls_seq (ls_set 5 (le_call (fa := a_times) (la_d (le_var 0) (la_d (le_call (fa := a__inverse) (la_d (le_var 0) (la_d (le_op lr_ix (le_var 5) (le_var 6)) la_nil))) (la_d (le_var 5) la_nil))))) (ls_seq (ls_setM 2 (lm_dcK 2 (lg_name 7) lt_yes (le_var 7) (le_call (fa := a__less) (la_d (le_var 0) (la_d (le_dget (le_var 2) (le_var 7)) (la_d (le_op lr_ix (le_dget (le_var 2) (le_var 7)) (le_var 6)) (la_d (le_var 5) la_nil))))))) (ls_dput 2 (le_var 6) (le_var 5)))))))) (ls_ret (le_tup (ld_cons (le_frzDO 2) (ld_cons (le_frz 3) ld_nil)))))) ?_
  exact does

abbrev s_is_integer : Stmt := topS 15
abbrev N_is_integer : List Str := ["thing"]
abbrev p_is_integer : List Str := ["thing"]
theorem sc_is_integer : FnScope N_is_integer p_is_integer (defScope s_is_integer) := ⟨rfl, rfl, rfl, by decide +kernel, rfl, by decide +kernel, by decide +kernel⟩
def A_is_integer  : AS := (aRet (aAndV (aCB (fIsiA "int") (aCons (aVar 0) aNil)) (aNotV (aCB (fIsiA "bool") (aCons (aVar 0) aNil)))))
theorem g_is_integer {k : Nat} {fa : AF}  (D : Def K mg "is_integer" p_is_integer s_is_integer)  (m_isinstance : mg "isinstance" = none) (m_int : mg "int" = none) (m_bool : mg "bool" = none)
    (many : ∀ as Q, fa as Q → as.length = 1)
    (does : ∀ as Q, fa as Q → A_is_integer  { nx := fun sl' => Q .none (finS as sl'), rt := fun d sl' => Q d (finS as sl') } (startS 1 as)) : Ok P w K mg base (k + 1) "is_integer" p_is_integer fa := by
  have nd := sc_is_integer.nd
  refine Ok.of (N := N_is_integer) D sc_is_integer (by decide) many (fun f cdv A outer s H hr hg =>
    (pss_one (ps_ret (pe_and (pe_callB call_isi (by rfl) m_isinstance b_isi (pa_cons (pv 0) (pa_cons (pe_bltn (v := .ty "int") (by rfl) m_int b_int rfl) pa_nil))) (pe_one (pe_not (pe_callB call_isi (by rfl) m_isinstance b_isi (pa_cons (pv 0) (pa_cons (pe_bltn (v := .ty "bool") (by rfl) m_bool b_bool rfl) pa_nil)))))))))
    (ls_ret (le_andV (le_isiA "int" (by decide) (le_var 0)) (le_notV (le_isiA "bool" (by decide) (le_var 0))))) ?_
  exact does

abbrev s_is_house : Stmt := topS 16
abbrev N_is_house : List Str := ["thing"]
abbrev p_is_house : List Str := ["thing"]
theorem sc_is_house : FnScope N_is_house p_is_house (defScope s_is_house) := ⟨rfl, rfl, rfl, by decide +kernel, rfl, by decide +kernel, by decide +kernel⟩
def A_is_house (a__has_parts : AF) (a_is_integer : AF) : AS := (aSeq (aIfS (aOr (aNot (aTest (aCall a__has_parts (aaD (aC (.int 2)) (aaD (aVar 0) aaNil))))) (aOr (aNot (aTest (aCall a_is_integer (aaD (aOp fIx (aVar 0) (aC (.int 0))) aaNil)))) (aNot (aTest (aCall a_is_integer (aaD (aOp fIx (aVar 0) (aC (.int 1))) aaNil)))))) (aRet (aC (.bool false))) aNext) (aRet (aAndV (aOp (fIn false) (aOp fIx (aVar 0) (aC (.int 0))) (aC D_PRIMES)) (aOp fGe (aOp fIx (aVar 0) (aC (.int 1))) (aC (.int 0))))))
theorem g_is_house {k : Nat} {fa : AF}  (D : Def K mg "is_house" p_is_house s_is_house) (o_PRIMES : GlobOk K mg "PRIMES" D_PRIMES) {a__has_parts : AF} (o__has_parts : Ok P w K mg base k "_has_parts" p__has_parts a__has_parts) {a_is_integer : AF} (o_is_integer : Ok P w K mg base k "is_integer" p_is_integer a_is_integer) 
    (many : ∀ as Q, fa as Q → as.length = 1)
    (does : ∀ as Q, fa as Q → A_is_house a__has_parts a_is_integer { nx := fun sl' => Q .none (finS as sl'), rt := fun d sl' => Q d (finS as sl') } (startS 1 as)) : Ok P w K mg base (k + 1) "is_house" p_is_house fa := by
  have nd := sc_is_house.nd
  obtain ⟨ga_PRIMES, gm_PRIMES, gd_PRIMES⟩ := o_PRIMES
  refine Ok.of (N := N_is_house) D sc_is_house (by decide) many (fun f cdv A outer s H hr hg =>
    (pss_cons (ps_if (PW.pt (pw_or (pt_not (pt_val (pe_ok o__has_parts hr hg (by rfl) (pa_cons pe_int (pa_cons (pv 0) pa_nil))))) (pw_or (pt_not (pt_val (pe_ok o_is_integer hr hg (by rfl) (pa_cons (pe_ix ix_seq (pv 0) pe_int (fun _ _ => rfl)) pa_nil)))) (pw_or1 (pt_not (pt_val (pe_ok o_is_integer hr hg (by rfl) (pa_cons (pe_ix ix_seq (pv 0) pe_int (fun _ _ => rfl)) pa_nil)))))))) (pss_one (ps_ret pe_bl)) pss_nil) (pss_one (ps_ret (pe_and (pe_cmpR op_in_seq (pe_ix ix_seq (pv 0) pe_int (fun _ _ => rfl)) (pe_glob (v := .ref ga_PRIMES) (by rfl) gm_PRIMES rfl) (by with_unfolding_all rfl)) (pe_one (pe_cmpR op_ge (pe_ix ix_seq (pv 0) pe_int (fun _ _ => rfl)) pe_int (nomark _))))))))
    (ls_seq (ls_if (lt_or (lt_not (lt_B (le_call (fa := a__has_parts) (la_d (le_int 2) (la_d (le_var 0) la_nil))))) (lt_or (lt_not (lt_B (le_call (fa := a_is_integer) (la_d (le_op lr_ix (le_var 0) (le_int 0)) la_nil)))) (lt_not (lt_B (le_call (fa := a_is_integer) (la_d (le_op lr_ix (le_var 0) (le_int 1)) la_nil)))))) (ls_ret (le_bl false)) ls_next) (ls_ret (le_andV (le_op (lr_in false) (le_op lr_ix (le_var 0) (le_int 0)) (le_glob gd_PRIMES)) (le_op lr_ge (le_op lr_ix (le_var 0) (le_int 1)) (le_int 0))))) ?_
  exact does

abbrev s_is_sum : Stmt := topS 17
abbrev N_is_sum : List Str := ["house", "thing", "part"]
abbrev p_is_sum : List Str := ["house", "thing"]
theorem sc_is_sum : FnScope N_is_sum p_is_sum (defScope s_is_sum) := ⟨rfl, rfl, rfl, by decide +kernel, rfl, by decide +kernel, by decide +kernel⟩
def A_is_sum (a__has_parts : AF) (a__is_number : AF) : AS := (aRet (aAndV (aCall a__has_parts (aaD (aOp fIx (aVar 0) (aC (.int 1))) (aaD (aVar 1) aaNil))) (aCB fAll (aCons (aOfN (aLc (aSeqI (aVar 1)) (aName 2) aYes (aCall a__is_number (aaD (aVar 0) (aaD (aVar 2) aaNil))) [2])) aNil))))
theorem g_is_sum {k : Nat} {fa : AF}  (D : Def K mg "is_sum" p_is_sum s_is_sum) {a__has_parts : AF} (o__has_parts : Ok P w K mg base k "_has_parts" p__has_parts a__has_parts) {a__is_number : AF} (o__is_number : Ok P w K mg base k "_is_number" p__is_number a__is_number) (m_all : mg "all" = none)
    (many : ∀ as Q, fa as Q → as.length = 2)
    (does : ∀ as Q, fa as Q → A_is_sum a__has_parts a__is_number { nx := fun sl' => Q .none (finS as sl'), rt := fun d sl' => Q d (finS as sl') } (startS 3 as)) : Ok P w K mg base (k + 1) "is_sum" p_is_sum fa := by
  have nd := sc_is_sum.nd
  refine Ok.of (N := N_is_sum) D sc_is_sum (by decide) many (fun f cdv A outer s H hr hg =>
    (pss_one (ps_ret (pe_and (pe_ok o__has_parts hr hg (by rfl) (pa_cons (pe_ix ix_seq (pv 0) pe_int (fun _ _ => rfl)) (pa_cons (pv 1) pa_nil))) (pe_one (pe_callB (cr_all rfl) (by rfl) m_all b_all (pa_cons (pe_lc (own := [("part", 2)]) rfl nd (pi_seq (pv 1)) (blkOk_by (N := N_is_sum) (sc := defScope s_is_sum) (by decide +kernel)) (fun _ _ _ _ _ => (pg_name (i := 2) nd rfl (by first | exact Or.inl rfl | exact Or.inr rfl))) (fun _ _ _ _ _ => pts_nil) (fun _ _ _ _ _ => (pe_ok o__is_number hr hg (by rfl) (pa_cons (pv 0) (pa_cons (pv 2) pa_nil))))) pa_nil)))))))
    (ls_ret (le_andV (le_call (fa := a__has_parts) (la_d (le_op lr_ix (le_var 0) (le_int 1)) (la_d (le_var 1) la_nil))) (le_CB lc_all (ld_cons (le_ofN (ln_lc (li_seq (le_var 1)) (lg_name 2) lt_yes (le_call (fa := a__is_number) (la_d (le_var 0) (la_d (le_var 2) la_nil))))) ld_nil)))) ?_
  exact does

abbrev s_is_row : Stmt := topS 18
abbrev N_is_row : List Str := ["house", "thing"]
abbrev p_is_row : List Str := ["house", "thing"]
theorem sc_is_row : FnScope N_is_row p_is_row (defScope s_is_row) := ⟨rfl, rfl, rfl, by decide +kernel, rfl, by decide +kernel, by decide +kernel⟩
def A_is_row (a__has_parts : AF) (a_is_sum : AF) (a__is_number : AF) : AS := (aRet (aAndV (aCall a__has_parts (aaD (aC (.int 2)) (aaD (aVar 1) aaNil))) (aAndV (aCall a_is_sum (aaD (aVar 0) (aaD (aOp fIx (aVar 1) (aC (.int 0))) aaNil))) (aCall a__is_number (aaD (aVar 0) (aaD (aOp fIx (aVar 1) (aC (.int 1))) aaNil))))))
theorem g_is_row {k : Nat} {fa : AF}  (D : Def K mg "is_row" p_is_row s_is_row) {a__has_parts : AF} (o__has_parts : Ok P w K mg base k "_has_parts" p__has_parts a__has_parts) {a_is_sum : AF} (o_is_sum : Ok P w K mg base k "is_sum" p_is_sum a_is_sum) {a__is_number : AF} (o__is_number : Ok P w K mg base k "_is_number" p__is_number a__is_number) 
    (many : ∀ as Q, fa as Q → as.length = 2)
    (does : ∀ as Q, fa as Q → A_is_row a__has_parts a_is_sum a__is_number { nx := fun sl' => Q .none (finS as sl'), rt := fun d sl' => Q d (finS as sl') } (startS 2 as)) : Ok P w K mg base (k + 1) "is_row" p_is_row fa := by
  have nd := sc_is_row.nd
  refine Ok.of (N := N_is_row) D sc_is_row (by decide) many (fun f cdv A outer s H hr hg =>
    (pss_one (ps_ret (pe_and (pe_ok o__has_parts hr hg (by rfl) (pa_cons pe_int (pa_cons (pv 1) pa_nil))) (pe_and (pe_ok o_is_sum hr hg (by rfl) (pa_cons (pv 0) (pa_cons (pe_ix ix_seq (pv 1) pe_int (fun _ _ => rfl)) pa_nil))) (pe_one (pe_ok o__is_number hr hg (by rfl) (pa_cons (pv 0) (pa_cons (pe_ix ix_seq (pv 1) pe_int (fun _ _ => rfl)) pa_nil)))))))))
    (ls_ret (le_andV (le_call (fa := a__has_parts) (la_d (le_int 2) (la_d (le_var 1) la_nil))) (le_andV (le_call (fa := a_is_sum) (la_d (le_var 0) (la_d (le_op lr_ix (le_var 1) (le_int 0)) la_nil))) (le_call (fa := a__is_number) (la_d (le_var 0) (la_d (le_op lr_ix (le_var 1) (le_int 1)) la_nil)))))) ?_
  exact does

abbrev s__has_parts : Stmt := topS 19
abbrev N__has_parts : List Str := ["many", "thing"]
abbrev p__has_parts : List Str := ["many", "thing"]
theorem sc__has_parts : FnScope N__has_parts p__has_parts (defScope s__has_parts) := ⟨rfl, rfl, rfl, by decide +kernel, rfl, by decide +kernel, by decide +kernel⟩
def A__has_parts  : AS := (aRet (aAndV (aCB (fIsiA "tuple") (aCons (aVar 1) aNil)) (aOp fEq (aCB fLen (aCons (aVar 1) aNil)) (aVar 0))))
theorem g__has_parts {k : Nat} {fa : AF}  (D : Def K mg "_has_parts" p__has_parts s__has_parts)  (m_isinstance : mg "isinstance" = none) (m_tuple : mg "tuple" = none) (m_len : mg "len" = none)
    (many : ∀ as Q, fa as Q → as.length = 2)
    (does : ∀ as Q, fa as Q → A__has_parts  { nx := fun sl' => Q .none (finS as sl'), rt := fun d sl' => Q d (finS as sl') } (startS 2 as)) : Ok P w K mg base (k + 1) "_has_parts" p__has_parts fa := by
  have nd := sc__has_parts.nd
  refine Ok.of (N := N__has_parts) D sc__has_parts (by decide) many (fun f cdv A outer s H hr hg =>
    (pss_one (ps_ret (pe_and (pe_callB call_isi (by rfl) m_isinstance b_isi (pa_cons (pv 1) (pa_cons (pe_bltn (v := .ty "tuple") (by rfl) m_tuple b_tuple rfl) pa_nil))) (pe_one (pe_cmpR (op_eqD (un64 hr)) (pe_callB call_len (by rfl) m_len b_len (pa_cons (pv 1) pa_nil)) (pv 0) (nomark _)))))))
    (ls_ret (le_andV (le_isiA "tuple" (by decide) (le_var 1)) (le_op lr_eq (le_CB lc_len (ld_cons (le_var 1) ld_nil)) (le_var 0)))) ?_
  exact does

abbrev s__is_number : Stmt := topS 20
abbrev N__is_number : List Str := ["house", "thing"]
abbrev p__is_number : List Str := ["house", "thing"]
theorem sc__is_number : FnScope N__is_number p__is_number (defScope s__is_number) := ⟨rfl, rfl, rfl, by decide +kernel, rfl, by decide +kernel, by decide +kernel⟩
def A__is_number (a_is_integer : AF) : AS := (aRet (aAndV (aCall a_is_integer (aaD (aVar 1) aaNil)) (aChain fLe fLt (aC (.int 0)) (aVar 1) (aOp fIx (aVar 0) (aC (.int 0))))))
theorem g__is_number {k : Nat} {fa : AF}  (D : Def K mg "_is_number" p__is_number s__is_number) {a_is_integer : AF} (o_is_integer : Ok P w K mg base k "is_integer" p_is_integer a_is_integer) 
    (many : ∀ as Q, fa as Q → as.length = 2)
    (does : ∀ as Q, fa as Q → A__is_number a_is_integer { nx := fun sl' => Q .none (finS as sl'), rt := fun d sl' => Q d (finS as sl') } (startS 2 as)) : Ok P w K mg base (k + 1) "_is_number" p__is_number fa := by
  have nd := sc__is_number.nd
  refine Ok.of (N := N__is_number) D sc__is_number (by decide) many (fun f cdv A outer s H hr hg =>
    (pss_one (ps_ret (pe_and (pe_ok o_is_integer hr hg (by rfl) (pa_cons (pv 1) pa_nil)) (pe_one (pe_chain op_le op_lt pe_int (pv 1) (pe_ix ix_seq (pv 0) pe_int (fun _ _ => rfl))))))))
    (ls_ret (le_andV (le_call (fa := a_is_integer) (la_d (le_var 1) la_nil)) (le_chain lr_le lr_lt (le_int 0) (le_var 1) (le_op lr_ix (le_var 0) (le_int 0))))) ?_
  exact does

abbrev s_Store___init__ : Stmt := inClass (topS 25) 0
abbrev N_Store___init__ : List Str := ["self", "house"]
abbrev p_Store___init__ : List Str := ["self", "house"]
theorem sc_Store___init__ : FnScope N_Store___init__ p_Store___init__ (defScope s_Store___init__) := ⟨rfl, rfl, rfl, by decide +kernel, rfl, by decide +kernel, by decide +kernel⟩
def A_Store___init__ (C_Store : Addr) (a_is_house : AF) : AS := (aSeq (aIfS (aNot (aTest (aCall a_is_house (aaD (aVar 1) aaNil)))) aNever aNext) (aSeq (aFldSet C_Store 0 "_house" (aVar 1)) (aFldSet C_Store 0 "_rows" (aTup aNil))))
theorem g_Store___init__ {k : Nat} {fa : AF} {C_Store : Addr} (D : DefI K mg "Store" C_Store "Store.__init__" p_Store___init__ s_Store___init__) (T_Store : ClsF K C_Store ["_house", "_rows"]) {a_is_house : AF} (o_is_house : Ok P w K mg base k "is_house" p_is_house a_is_house) 
    (many : ∀ as Q, fa as Q → as.length = 2)
    (does : ∀ as Q, fa as Q → A_Store___init__ C_Store a_is_house { nx := fun sl' => Q .none (finS as sl'), rt := fun d sl' => Q d (finS as sl') } (startS 2 as)) : OkI P w K mg base (k + 1) "Store" C_Store p_Store___init__ fa := by
  have nd := sc_Store___init__.nd
  refine OkI.of (N := N_Store___init__) D sc_Store___init__ (by decide) many (fun f cdv A outer s H hr hg =>
    (pss_cons (ps_if (pt_not (pt_val (pe_ok o_is_house hr hg (by rfl) (pa_cons (pv 1) pa_nil)))) (pss_one ps_nvr) pss_nil) (pss_cons (ps_fld (pv 0) (pv 1) rfl) (pss_one (ps_fld (pv 0) (pe_tupK pa_nil) rfl)))))
    (ls_seq (ls_if (lt_not (lt_B (le_call (fa := a_is_house) (la_d (le_var 1) la_nil)))) ls_never ls_next) (ls_seq (ls_fld T_Store 0 "_house" (by simp) (le_var 1)) (ls_fld T_Store 0 "_rows" (by simp) (le_tup ld_nil)))) ?_
  exact does

-- Store___eq__: KeyError 'other'
abbrev s_Store_tell : Stmt := inClass (topS 25) 2
abbrev N_Store_tell : List Str := ["self", "one", "number", "given"]
abbrev p_Store_tell : List Str := ["self", "one", "number"]
theorem sc_Store_tell : FnScope N_Store_tell p_Store_tell (defScope s_Store_tell) := ⟨rfl, rfl, rfl, by decide +kernel, rfl, by decide +kernel, by decide +kernel⟩
def A_Store_tell (C_Store : Addr) (a_is_sum : AF) (a_is_row : AF) (a_given_by : AF) : AS := (aSeq (aIfS (aNot (aTest (aCall a_is_sum (aaD (aFld C_Store 0 "_house") (aaD (aVar 1) aaNil))))) aNever aNext) (aSeq (aIfS (aNot (aTest (aCall a_is_row (aaD (aFld C_Store 0 "_house") (aaD (aTup (aCons (aVar 1) (aCons (aVar 2) aNil))) aaNil))))) aNever aNext) (aSeq (aSet 3 (aCall a_given_by (aaD (aFld C_Store 0 "_house") (aaD (aFld C_Store 0 "_rows") (aaD (aVar 1) aaNil))))) (aSeq (aIfS (aTest (aIsN (aVar 3))) (aSeq (aFldSet C_Store 0 "_rows" (aOp fAdd (aFld C_Store 0 "_rows") (aTup (aCons (aTup (aCons (aVar 1) (aCons (aVar 2) aNil))) aNil)))) (aRet (aC (.str (Str.ofString "new"))))) aNext) (aRet (aIf (aTest (aOp fEq (aOp fIx (aVar 3) (aC (.int 0))) (aVar 2))) (aC (.str (Str.ofString "known"))) (aC (.str (Str.ofString "clash")))))))))
theorem g_Store_tell {k : Nat} {fa : AF} {C_Store : Addr} (D : DefM K C_Store "tell" "Store.tell" p_Store_tell s_Store_tell) (T_Store : ClsF K C_Store ["_house", "_rows"]) {a_is_sum : AF} (o_is_sum : Ok P w K mg base k "is_sum" p_is_sum a_is_sum) {a_is_row : AF} (o_is_row : Ok P w K mg base k "is_row" p_is_row a_is_row) {a_given_by : AF} (o_given_by : Ok P w K mg base k "given_by" p_given_by a_given_by) 
    (many : ∀ as Q, fa as Q → as.length = 3)
    (does : ∀ as Q, fa as Q → A_Store_tell C_Store a_is_sum a_is_row a_given_by { nx := fun sl' => Q .none (finS as sl'), rt := fun d sl' => Q d (finS as sl') } (startS 4 as)) : OkM P w K mg base (k + 1) C_Store "tell" p_Store_tell fa := by
  have nd := sc_Store_tell.nd
  refine OkM.of (N := N_Store_tell) D sc_Store_tell (by decide) many (fun f cdv A outer s H hr hg =>
    (pss_cons (ps_if (pt_not (pt_val (pe_ok o_is_sum hr hg (by rfl) (pa_cons (pe_fld (pv 0) rfl) (pa_cons (pv 1) pa_nil))))) (pss_one ps_nvr) pss_nil) (pss_cons (ps_if (pt_not (pt_val (pe_ok o_is_row hr hg (by rfl) (pa_cons (pe_fld (pv 0) rfl) (pa_cons (pe_tupK (pa_cons (pv 1) (pa_cons (pv 2) pa_nil))) pa_nil))))) (pss_one ps_nvr) pss_nil) (pss_cons (ps_set (i := 3) nd rfl (by first | exact Or.inl rfl | exact Or.inr rfl) (pe_ok o_given_by hr hg (by rfl) (pa_cons (pe_fld (pv 0) rfl) (pa_cons (pe_fld (pv 0) rfl) (pa_cons (pv 1) pa_nil))))) (pss_cons (ps_if (pt_cmp (pc_isN (pv 3))) (pss_cons (ps_fld (pv 0) (pe_op op_addA (pe_fld (pv 0) rfl) (pe_tupK (pa_cons (pe_tupK (pa_cons (pv 1) (pa_cons (pv 2) pa_nil))) pa_nil))) rfl) (pss_one (ps_ret pe_str))) pss_nil) (pss_one (ps_ret (pe_ifExp (pt_cmpR (op_eqD (un64 hr)) (pe_ix ix_seq (pv 3) pe_int (fun _ _ => rfl)) (pv 2) (nomark _)) pe_str pe_str))))))))
    (ls_seq (ls_if (lt_not (lt_B (le_call (fa := a_is_sum) (la_d (le_fld T_Store 0 "_house" (by simp)) (la_d (le_var 1) la_nil))))) ls_never ls_next) (ls_seq (ls_if (lt_not (lt_B (le_call (fa := a_is_row) (la_d (le_fld T_Store 0 "_house" (by simp)) (la_d (le_tup (ld_cons (le_var 1) (ld_cons (le_var 2) ld_nil))) la_nil))))) ls_never ls_next) (ls_seq (ls_set 3 (le_call (fa := a_given_by) (la_d (le_fld T_Store 0 "_house" (by simp)) (la_d (le_fld T_Store 0 "_rows" (by simp)) (la_d (le_var 1) la_nil))))) (ls_seq (ls_if (lt_B (le_isN (le_var 3))) (ls_seq (ls_fld T_Store 0 "_rows" (by simp) (le_op lr_add (le_fld T_Store 0 "_rows" (by simp)) (le_tup (ld_cons (le_tup (ld_cons (le_var 1) (ld_cons (le_var 2) ld_nil))) ld_nil)))) (ls_ret (le_str "new"))) ls_next) (ls_ret (le_if (lt_test (le_op lr_eq (le_op lr_ix (le_var 3) (le_int 0)) (le_var 2))) (le_str "known") (le_str "clash"))))))) ?_
  exact does

abbrev s_Store_ask : Stmt := inClass (topS 25) 3
abbrev N_Store_ask : List Str := ["self", "one", "given"]
abbrev p_Store_ask : List Str := ["self", "one"]
theorem sc_Store_ask : FnScope N_Store_ask p_Store_ask (defScope s_Store_ask) := ⟨rfl, rfl, rfl, by decide +kernel, rfl, by decide +kernel, by decide +kernel⟩
def A_Store_ask (C_Store : Addr) (a_is_sum : AF) (a_given_by : AF) : AS := (aSeq (aIfS (aNot (aTest (aCall a_is_sum (aaD (aFld C_Store 0 "_house") (aaD (aVar 1) aaNil))))) aNever aNext) (aSeq (aSet 2 (aCall a_given_by (aaD (aFld C_Store 0 "_house") (aaD (aFld C_Store 0 "_rows") (aaD (aVar 1) aaNil))))) (aRet (aIf (aTest (aIsN (aVar 2))) (aC (.str (Str.ofString "open"))) (aOp fIx (aVar 2) (aC (.int 0)))))))
theorem g_Store_ask {k : Nat} {fa : AF} {C_Store : Addr} (D : DefM K C_Store "ask" "Store.ask" p_Store_ask s_Store_ask) (T_Store : ClsF K C_Store ["_house", "_rows"]) {a_is_sum : AF} (o_is_sum : Ok P w K mg base k "is_sum" p_is_sum a_is_sum) {a_given_by : AF} (o_given_by : Ok P w K mg base k "given_by" p_given_by a_given_by) 
    (many : ∀ as Q, fa as Q → as.length = 2)
    (does : ∀ as Q, fa as Q → A_Store_ask C_Store a_is_sum a_given_by { nx := fun sl' => Q .none (finS as sl'), rt := fun d sl' => Q d (finS as sl') } (startS 3 as)) : OkM P w K mg base (k + 1) C_Store "ask" p_Store_ask fa := by
  have nd := sc_Store_ask.nd
  refine OkM.of (N := N_Store_ask) D sc_Store_ask (by decide) many (fun f cdv A outer s H hr hg =>
    (pss_cons (ps_if (pt_not (pt_val (pe_ok o_is_sum hr hg (by rfl) (pa_cons (pe_fld (pv 0) rfl) (pa_cons (pv 1) pa_nil))))) (pss_one ps_nvr) pss_nil) (pss_cons (ps_set (i := 2) nd rfl (by first | exact Or.inl rfl | exact Or.inr rfl) (pe_ok o_given_by hr hg (by rfl) (pa_cons (pe_fld (pv 0) rfl) (pa_cons (pe_fld (pv 0) rfl) (pa_cons (pv 1) pa_nil))))) (pss_one (ps_ret (pe_ifExp (pt_cmp (pc_isN (pv 2))) pe_str (pe_ix ix_seq (pv 2) pe_int (fun _ _ => rfl))))))))
    (ls_seq (ls_if (lt_not (lt_B (le_call (fa := a_is_sum) (la_d (le_fld T_Store 0 "_house" (by simp)) (la_d (le_var 1) la_nil))))) ls_never ls_next) (ls_seq (ls_set 2 (le_call (fa := a_given_by) (la_d (le_fld T_Store 0 "_house" (by simp)) (la_d (le_fld T_Store 0 "_rows" (by simp)) (la_d (le_var 1) la_nil))))) (ls_ret (le_if (lt_B (le_isN (le_var 2))) (le_str "open") (le_op lr_ix (le_var 2) (le_int 0)))))) ?_
  exact does

abbrev s_Store_rows : Stmt := inClass (topS 25) 4
abbrev N_Store_rows : List Str := ["self"]
abbrev p_Store_rows : List Str := ["self"]
theorem sc_Store_rows : FnScope N_Store_rows p_Store_rows (defScope s_Store_rows) := ⟨rfl, rfl, rfl, by decide +kernel, rfl, by decide +kernel, by decide +kernel⟩
def A_Store_rows (C_Store : Addr) : AS := (aRet (aFld C_Store 0 "_rows"))
theorem g_Store_rows {k : Nat} {fa : AF} {C_Store : Addr} (D : DefM K C_Store "rows" "Store.rows" p_Store_rows s_Store_rows) (T_Store : ClsF K C_Store ["_house", "_rows"]) 
    (many : ∀ as Q, fa as Q → as.length = 1)
    (does : ∀ as Q, fa as Q → A_Store_rows C_Store { nx := fun sl' => Q .none (finS as sl'), rt := fun d sl' => Q d (finS as sl') } (startS 1 as)) : OkM P w K mg base (k + 1) C_Store "rows" p_Store_rows fa := by
  have nd := sc_Store_rows.nd
  refine OkM.of (N := N_Store_rows) D sc_Store_rows (by decide) many (fun f cdv A outer s H hr hg =>
    (pss_one (ps_ret (pe_fld (pv 0) rfl))))
    (ls_ret (le_fld T_Store 0 "_rows" (by simp))) ?_
  exact does

abbrev s_Store_reason : Stmt := inClass (topS 25) 5
abbrev N_Store_reason : List Str := ["self", "one"]
abbrev p_Store_reason : List Str := ["self", "one"]
theorem sc_Store_reason : FnScope N_Store_reason p_Store_reason (defScope s_Store_reason) := ⟨rfl, rfl, rfl, by decide +kernel, rfl, by decide +kernel, by decide +kernel⟩
def A_Store_reason (a__wall : AF) : AS := (aDrop (aCall a__wall (aaD (aC (.int 0)) aaNil)))
theorem g_Store_reason {k : Nat} {fa : AF} {C_Store : Addr} (D : DefM K C_Store "reason" "Store.reason" p_Store_reason s_Store_reason) {a__wall : AF} (o__wall : Ok P w K mg base k "_wall" p__wall a__wall) 
    (many : ∀ as Q, fa as Q → as.length = 2)
    (does : ∀ as Q, fa as Q → A_Store_reason a__wall { nx := fun sl' => Q .none (finS as sl'), rt := fun d sl' => Q d (finS as sl') } (startS 2 as)) : OkM P w K mg base (k + 1) C_Store "reason" p_Store_reason fa := by
  have nd := sc_Store_reason.nd
  refine OkM.of (N := N_Store_reason) D sc_Store_reason (by decide) many (fun f cdv A outer s H hr hg =>
    (pss_one (ps_expr (pe_ok o__wall hr hg (by rfl) (pa_cons pe_int pa_nil)))))
    (ls_drop (le_call (fa := a__wall) (la_d (le_int 0) la_nil))) ?_
  exact does

abbrev s_Store_can_hold : Stmt := inClass (topS 25) 6
abbrev N_Store_can_hold : List Str := ["self", "world"]
abbrev p_Store_can_hold : List Str := ["self", "world"]
theorem sc_Store_can_hold : FnScope N_Store_can_hold p_Store_can_hold (defScope s_Store_can_hold) := ⟨rfl, rfl, rfl, by decide +kernel, rfl, by decide +kernel, by decide +kernel⟩
def A_Store_can_hold (a__wall : AF) : AS := (aDrop (aCall a__wall (aaD (aC (.int 1)) aaNil)))
theorem g_Store_can_hold {k : Nat} {fa : AF} {C_Store : Addr} (D : DefM K C_Store "can_hold" "Store.can_hold" p_Store_can_hold s_Store_can_hold) {a__wall : AF} (o__wall : Ok P w K mg base k "_wall" p__wall a__wall) 
    (many : ∀ as Q, fa as Q → as.length = 2)
    (does : ∀ as Q, fa as Q → A_Store_can_hold a__wall { nx := fun sl' => Q .none (finS as sl'), rt := fun d sl' => Q d (finS as sl') } (startS 2 as)) : OkM P w K mg base (k + 1) C_Store "can_hold" p_Store_can_hold fa := by
  have nd := sc_Store_can_hold.nd
  refine OkM.of (N := N_Store_can_hold) D sc_Store_can_hold (by decide) many (fun f cdv A outer s H hr hg =>
    (pss_one (ps_expr (pe_ok o__wall hr hg (by rfl) (pa_cons pe_int pa_nil)))))
    (ls_drop (le_call (fa := a__wall) (la_d (le_int 1) la_nil))) ?_
  exact does

abbrev s_Store_twin : Stmt := inClass (topS 25) 7
abbrev N_Store_twin : List Str := ["self"]
abbrev p_Store_twin : List Str := ["self"]
theorem sc_Store_twin : FnScope N_Store_twin p_Store_twin (defScope s_Store_twin) := ⟨rfl, rfl, rfl, by decide +kernel, rfl, by decide +kernel, by decide +kernel⟩
def A_Store_twin (a__wall : AF) : AS := (aDrop (aCall a__wall (aaD (aC (.int 2)) aaNil)))
theorem g_Store_twin {k : Nat} {fa : AF} {C_Store : Addr} (D : DefM K C_Store "twin" "Store.twin" p_Store_twin s_Store_twin) {a__wall : AF} (o__wall : Ok P w K mg base k "_wall" p__wall a__wall) 
    (many : ∀ as Q, fa as Q → as.length = 1)
    (does : ∀ as Q, fa as Q → A_Store_twin a__wall { nx := fun sl' => Q .none (finS as sl'), rt := fun d sl' => Q d (finS as sl') } (startS 1 as)) : OkM P w K mg base (k + 1) C_Store "twin" p_Store_twin fa := by
  have nd := sc_Store_twin.nd
  refine OkM.of (N := N_Store_twin) D sc_Store_twin (by decide) many (fun f cdv A outer s H hr hg =>
    (pss_one (ps_expr (pe_ok o__wall hr hg (by rfl) (pa_cons pe_int pa_nil)))))
    (ls_drop (le_call (fa := a__wall) (la_d (le_int 2) la_nil))) ?_
  exact does

abbrev s_is_order : Stmt := topS 27
abbrev N_is_order : List Str := ["what", "thing", "index", "late", "early"]
abbrev p_is_order : List Str := ["what", "thing"]
theorem sc_is_order : FnScope N_is_order p_is_order (defScope s_is_order) := ⟨rfl, rfl, rfl, by decide +kernel, rfl, by decide +kernel, by decide +kernel⟩
def A_is_order (a_is_integer : AF) (a_is_ahead : AF) : AS := (aSeq (aIfS (aOr (aNot (aTest (aCB (fIsiA "tuple") (aCons (aVar 1) aNil)))) (aNot (aTest (aCB fAll (aCons (aOfN (aLc (aSeqI (aVar 1)) (aName 2) aYes (aCall a_is_integer (aaD (aVar 2) aaNil)) [2])) aNil))))) (aRet (aC (.bool false))) aNext) (aSeq (aIfS (aTest (aOp fNe (aCB fSortI (aCons (aVar 1) aNil)) (aOfN (aListRg (aCB fLen (aCons (aOp fIx (aVar 0) (aC (.int 1))) aNil)))))) (aRet (aC (.bool false))) aNext) (aRet (aNotV (aCB fAny (aCons (aOfN (aLc2 (aRng1 (aCB fLen (aCons (aVar 1) aNil))) (aName 3) aYes (aRng1 (aVar 3)) (aName 4) aYes (aCall a_is_ahead (aaD (aVar 0) (aaD (aOp fIx (aVar 1) (aVar 3)) (aaD (aOp fIx (aVar 1) (aVar 4)) aaNil)))) [3, 4] [4])) aNil))))))
theorem g_is_order {k : Nat} {fa : AF}  (D : Def K mg "is_order" p_is_order s_is_order) {a_is_integer : AF} (o_is_integer : Ok P w K mg base k "is_integer" p_is_integer a_is_integer) {a_is_ahead : AF} (o_is_ahead : Ok P w K mg base k "is_ahead" p_is_ahead a_is_ahead) (m_isinstance : mg "isinstance" = none) (m_tuple : mg "tuple" = none) (m_all : mg "all" = none) (m_sorted : mg "sorted" = none) (m_len : mg "len" = none) (m_list : mg "list" = none) (m_range : mg "range" = none) (m_any : mg "any" = none)
    (many : ∀ as Q, fa as Q → as.length = 2)
    (does : ∀ as Q, fa as Q → A_is_order a_is_integer a_is_ahead { nx := fun sl' => Q .none (finS as sl'), rt := fun d sl' => Q d (finS as sl') } (startS 5 as)) : Ok P w K mg base (k + 1) "is_order" p_is_order fa := by
  have nd := sc_is_order.nd
  refine Ok.of (N := N_is_order) D sc_is_order (by decide) many (fun f cdv A outer s H hr hg =>
    (pss_cons (ps_if (PW.pt (pw_or (pt_not (pt_val (pe_callB call_isi (by rfl) m_isinstance b_isi (pa_cons (pv 1) (pa_cons (pe_bltn (v := .ty "tuple") (by rfl) m_tuple b_tuple rfl) pa_nil))))) (pw_or1 (pt_not (pt_val (pe_callB (cr_all rfl) (by rfl) m_all b_all (pa_cons (pe_lc (own := [("index", 2)]) rfl nd (pi_seq (pv 1)) (blkOk_by (N := N_is_order) (sc := defScope s_is_order) (by decide +kernel)) (fun _ _ _ _ _ => (pg_name (i := 2) nd rfl (by first | exact Or.inl rfl | exact Or.inr rfl))) (fun _ _ _ _ _ => pts_nil) (fun _ _ _ _ _ => (pe_ok o_is_integer hr hg (by rfl) (pa_cons (pv 2) pa_nil)))) pa_nil))))))) (pss_one (ps_ret pe_bl)) pss_nil) (pss_cons (ps_if (pt_cmpR (op_neD (un64 hr)) (pe_callB cr_sortedQ (by rfl) m_sorted b_sorted (pa_cons (pv 1) pa_nil)) (pe_listRg rfl (by rfl) m_list (prg_1 (by rfl) m_range (pe_callB call_len (by rfl) m_len b_len (pa_cons (pe_ix ix_seq (pv 0) pe_int (fun _ _ => rfl)) pa_nil)))) (nomark _)) (pss_one (ps_ret pe_bl)) pss_nil) (pss_one (ps_ret (pe_not (pe_callB (cr_any rfl) (by rfl) m_any b_any (pa_cons (pe_lc2 (own := [("late", 3), ("early", 4)]) (vs1 := [4]) rfl nd (pi_range1 (by rfl) m_range (pa_cons (pe_callB call_len (by rfl) m_len b_len (pa_cons (pv 1) pa_nil)) pa_nil)) (blkOk_by (N := N_is_order) (sc := defScope s_is_order) (by decide +kernel)) (by decide) (fun _ _ _ _ _ => (pg_name (i := 3) nd rfl (by first | exact Or.inl rfl | exact Or.inr rfl))) (fun _ _ _ _ _ => pts_nil) (fun _ _ _ _ _ => (pi_range1 (by rfl) m_range (pa_cons (pv 3) pa_nil))) (fun _ _ _ _ _ => (pg_name (i := 4) nd rfl (by first | exact Or.inl rfl | exact Or.inr rfl))) (fun _ _ _ _ _ => pts_nil) (fun _ _ _ _ _ => (pe_ok o_is_ahead hr hg (by rfl) (pa_cons (pv 0) (pa_cons (pe_ix ix_seq (pv 1) (pv 3) (fun _ _ => rfl)) (pa_cons (pe_ix ix_seq (pv 1) (pv 4) (fun _ _ => rfl)) pa_nil)))))) pa_nil))))))))
    (ls_seq (ls_if (lt_or (lt_not (lt_B (le_isiA "tuple" (by decide) (le_var 1)))) (lt_not (lt_B (le_CB lc_all (ld_cons (le_ofN (ln_lc (li_seq (le_var 1)) (lg_name 2) lt_yes (le_call (fa := a_is_integer) (la_d (le_var 2) la_nil)))) ld_nil))))) (ls_ret (le_bl false)) ls_next) (ls_seq (ls_if (lt_test (le_op lr_ne (le_CB lc_sortI (ld_cons (le_var 1) ld_nil)) (le_ofN (ln_listRg (le_CB lc_len (ld_cons (le_op lr_ix (le_var 0) (le_int 1)) ld_nil)))))) (ls_ret (le_bl false)) ls_next) (ls_ret (le_notV (le_CB lc_any (ld_cons (le_ofN (ln_lc2 (li_rng1 (le_CB lc_len (ld_cons (le_var 1) ld_nil))) (lg_name 3) lt_yes (lil_rng1 (le_var 3)) (lg_name 4) lt_yes (le_call (fa := a_is_ahead) (la_d (le_var 0) (la_d (le_op lr_ix (le_var 1) (le_var 3)) (la_d (le_op lr_ix (le_var 1) (le_var 4)) la_nil)))))) ld_nil)))))) ?_
  exact does

abbrev s_is_weaving : Stmt := topS 28
abbrev N_is_weaving : List Str := ["history", "thing"]
abbrev p_is_weaving : List Str := ["history", "thing"]
theorem sc_is_weaving : FnScope N_is_weaving p_is_weaving (defScope s_is_weaving) := ⟨rfl, rfl, rfl, by decide +kernel, rfl, by decide +kernel, by decide +kernel⟩
def A_is_weaving (a_is_order : AF) (a_first_wrong : AF) : AS := (aRet (aAndV (aCall a_is_order (aaD (aVar 0) (aaD (aVar 1) aaNil))) (aIsN (aCall a_first_wrong (aaD (aVar 0) (aaD (aVar 1) aaNil))))))
theorem g_is_weaving {k : Nat} {fa : AF}  (D : Def K mg "is_weaving" p_is_weaving s_is_weaving) {a_is_order : AF} (o_is_order : Ok P w K mg base k "is_order" p_is_order a_is_order) {a_first_wrong : AF} (o_first_wrong : Ok P w K mg base k "first_wrong" p_first_wrong a_first_wrong) 
    (many : ∀ as Q, fa as Q → as.length = 2)
    (does : ∀ as Q, fa as Q → A_is_weaving a_is_order a_first_wrong { nx := fun sl' => Q .none (finS as sl'), rt := fun d sl' => Q d (finS as sl') } (startS 2 as)) : Ok P w K mg base (k + 1) "is_weaving" p_is_weaving fa := by
  have nd := sc_is_weaving.nd
  refine Ok.of (N := N_is_weaving) D sc_is_weaving (by decide) many (fun f cdv A outer s H hr hg =>
    (pss_one (ps_ret (pe_and (pe_ok o_is_order hr hg (by rfl) (pa_cons (pv 0) (pa_cons (pv 1) pa_nil))) (pe_one (pe_cmp (pc_isN (pe_ok o_first_wrong hr hg (by rfl) (pa_cons (pv 0) (pa_cons (pv 1) pa_nil))))))))))
    (ls_ret (le_andV (le_call (fa := a_is_order) (la_d (le_var 0) (la_d (le_var 1) la_nil))) (le_isN (le_call (fa := a_first_wrong) (la_d (le_var 0) (la_d (le_var 1) la_nil)))))) ?_
  exact does

abbrev s_answers_by : Stmt := topS 29
abbrev N_answers_by : List Str := ["what", "order", "answers", "store", "index"]
abbrev p_answers_by : List Str := ["what", "order"]
theorem sc_answers_by : FnScope N_answers_by p_answers_by (defScope s_answers_by) := ⟨rfl, rfl, rfl, by decide +kernel, rfl, by decide +kernel, by decide +kernel⟩
def A_answers_by (C_Store : Addr) (a__answer_of : AF) (a_Store___init__ : AF) : AS := (aSeq (aSetN 2 (aRep (aLst (aCons (aC .none) aNil)) (aCB fLen (aCons (aOp fIx (aVar 0) (aC (.int 1))) aNil)))) (aSeq (aSetO C_Store 3 (aNewOb C_Store a_Store___init__ (aCons (aOp fIx (aVar 0) (aC (.int 0))) aNil))) (aSeq (aFor (aSeqI (aVar 1)) (aName 4) (aPutL 2 (aVar 4) (aCall a__answer_of (aaO 3 (aaD (aOp fIx (aOp fIx (aOp fIx (aVar 0) (aC (.int 1))) (aVar 4)) (aC (.int 0))) aaNil))))) (aRet (aTupO 2)))))
theorem g_answers_by {k : Nat} {fa : AF} {C_Store : Addr} (D : Def K mg "answers_by" p_answers_by s_answers_by) (T_Store : ClsF K C_Store ["_house", "_rows"]) {a__answer_of : AF} (o__answer_of : Ok P w K mg base k "_answer_of" p__answer_of a__answer_of) {j : Nat} (hj : j + 1 ≤ k) {a_Store___init__ : AF} (o_Store___init__ : OkI P w K mg base j "Store" C_Store p_Store___init__ a_Store___init__) (m_len : mg "len" = none) (m_tuple : mg "tuple" = none)
    (many : ∀ as Q, fa as Q → as.length = 2)
    (does : ∀ as Q, fa as Q → A_answers_by C_Store a__answer_of a_Store___init__ { nx := fun sl' => Q .none (finS as sl'), rt := fun d sl' => Q d (finS as sl') } (startS 5 as)) : Ok P w K mg base (k + 1) "answers_by" p_answers_by fa := by
  have nd := sc_answers_by.nd
  refine Ok.of (N := N_answers_by) D sc_answers_by (by decide) many (fun f cdv A outer s H hr hg =>
    (pss_cons (ps_set (i := 2) nd rfl (by first | exact Or.inl rfl | exact Or.inr rfl) (pe_op op_rep (pe_lst (pa_cons pe_non pa_nil)) (pe_callB call_len (by rfl) m_len b_len (pa_cons (pe_ix ix_seq (pv 0) pe_int (fun _ _ => rfl)) pa_nil)))) (pss_cons (ps_set (i := 3) nd rfl (by first | exact Or.inl rfl | exact Or.inr rfl) (pe_okI o_Store___init__ hj hr hg (by rfl) (pa_cons (pe_ix ix_seq (pv 0) pe_int (fun _ _ => rfl)) pa_nil))) (pss_cons (ps_for PassesOwn.never rfl (pi_seq (pv 1)) (pg_name (i := 4) nd rfl (by first | exact Or.inl rfl | exact Or.inr rfl)) (pss_one (ps_asg (pe_ok o__answer_of hr hg (by rfl) (pa_cons (pv 3) (pa_cons (pe_ix ix_seq (pe_ix ix_seq (pe_ix ix_seq (pv 0) pe_int (fun _ _ => rfl)) (pv 4) (fun _ _ => rfl)) pe_int (fun _ _ => rfl)) pa_nil))) (pg_sub (pv 2) (pv 4) set_list)))) (pss_one (ps_ret (pe_callTy call_tupK (by rfl) m_tuple b_tuple (pa_cons (pv 2) pa_nil))))))))
    (ls_seq (ls_setN 2 (ln_rep (ln_lst (ld_cons le_non ld_nil)) (le_CB lc_len (ld_cons (le_op lr_ix (le_var 0) (le_int 1)) ld_nil)))) (ls_seq (ls_setO 3 (lob_new (fa := a_Store___init__) (ld_cons (le_op lr_ix (le_var 0) (le_int 0)) ld_nil))) (ls_seq (ls_for (li_seq (le_var 1)) (lg_name 4) (ls_putL 2 (le_var 4) (le_call (fa := a__answer_of) (la_o 3 (la_d (le_op lr_ix (le_op lr_ix (le_op lr_ix (le_var 0) (le_int 1)) (le_var 4)) (le_int 0)) la_nil))))) (ls_ret (le_tupO 2))))) ?_
  exact does

abbrev s_first_wrong : Stmt := topS 30
abbrev N_first_wrong : List Str := ["history", "order", "answers", "place", "index"]
abbrev p_first_wrong : List Str := ["history", "order"]
theorem sc_first_wrong : FnScope N_first_wrong p_first_wrong (defScope s_first_wrong) := ⟨rfl, rfl, rfl, by decide +kernel, rfl, by decide +kernel, by decide +kernel⟩
def A_first_wrong (a_answers_by : AF) : AS := (aSeq (aSet 2 (aCall a_answers_by (aaD (aVar 0) (aaD (aVar 1) aaNil)))) (aSeq (aFor (aEnum (aVar 1)) (aGTup 2 (aGCons (aName 3) (aGCons (aName 4) aGNil))) (aIfS (aTest (aOp fNe (aOp fIx (aOp fIx (aOp fIx (aVar 0) (aC (.int 1))) (aVar 4)) (aC (.int 3))) (aOp fIx (aVar 2) (aVar 4)))) (aRet (aVar 3)) aNext)) (aRet (aC .none))))
theorem g_first_wrong {k : Nat} {fa : AF}  (D : Def K mg "first_wrong" p_first_wrong s_first_wrong) {a_answers_by : AF} (o_answers_by : Ok P w K mg base k "answers_by" p_answers_by a_answers_by) (m_enumerate : mg "enumerate" = none)
    (many : ∀ as Q, fa as Q → as.length = 2)
    (does : ∀ as Q, fa as Q → A_first_wrong a_answers_by { nx := fun sl' => Q .none (finS as sl'), rt := fun d sl' => Q d (finS as sl') } (startS 5 as)) : Ok P w K mg base (k + 1) "first_wrong" p_first_wrong fa := by
  have nd := sc_first_wrong.nd
  refine Ok.of (N := N_first_wrong) D sc_first_wrong (by decide) many (fun f cdv A outer s H hr hg =>
    (pss_cons (ps_set (i := 2) nd rfl (by first | exact Or.inl rfl | exact Or.inr rfl) (pe_ok o_answers_by hr hg (by rfl) (pa_cons (pv 0) (pa_cons (pv 1) pa_nil)))) (pss_cons (ps_for PassesOwn.never rfl (pi_enumA (by rfl) m_enumerate (pa_cons (pv 1) pa_nil)) (pg_tup (n := 2) rfl (pgs_cons (pg_name (i := 3) nd rfl (by first | exact Or.inl rfl | exact Or.inr rfl)) (pgs_cons (pg_name (i := 4) nd rfl (by first | exact Or.inl rfl | exact Or.inr rfl)) pgs_nil))) (pss_one (ps_if (pt_cmpR (op_neD (un64 hr)) (pe_ix ix_seq (pe_ix ix_seq (pe_ix ix_seq (pv 0) pe_int (fun _ _ => rfl)) (pv 4) (fun _ _ => rfl)) pe_int (fun _ _ => rfl)) (pe_ix ix_seq (pv 2) (pv 4) (fun _ _ => rfl)) (nomark _)) (pss_one (ps_ret (pv 3))) pss_nil))) (pss_one (ps_ret pe_non)))))
    (ls_seq (ls_set 2 (le_call (fa := a_answers_by) (la_d (le_var 0) (la_d (le_var 1) la_nil)))) (ls_seq (ls_for (li_enum (le_var 1)) (lg_tup (lgs_cons (lg_name 3) (lgs_cons (lg_name 4) lgs_nil))) (ls_if (lt_test (le_op lr_ne (le_op lr_ix (le_op lr_ix (le_op lr_ix (le_var 0) (le_int 1)) (le_var 4)) (le_int 3)) (le_op lr_ix (le_var 2) (le_var 4)))) (ls_ret (le_var 3)) ls_next)) (ls_ret le_non))) ?_
  exact does

abbrev s_store_at : Stmt := topS 31
abbrev N_store_at : List Str := ["what", "order", "place", "store", "index"]
abbrev p_store_at : List Str := ["what", "order", "place"]
theorem sc_store_at : FnScope N_store_at p_store_at (defScope s_store_at) := ⟨rfl, rfl, rfl, by decide +kernel, rfl, by decide +kernel, by decide +kernel⟩
def A_store_at (C_Store : Addr) (a__answer_of : AF) (a_Store_rows : AF) (a_Store___init__ : AF) : AS := (aSeq (aSetO C_Store 3 (aNewOb C_Store a_Store___init__ (aCons (aOp fIx (aVar 0) (aC (.int 0))) aNil))) (aSeq (aFor (aSeqI (aSl (aVar 1) aNoPart (aPart (aVar 2)))) (aName 4) (aDrop (aCall a__answer_of (aaO 3 (aaD (aOp fIx (aOp fIx (aOp fIx (aVar 0) (aC (.int 1))) (aVar 4)) (aC (.int 0))) aaNil))))) (aRet (aMeth C_Store 3 "rows" a_Store_rows aaNil))))
theorem g_store_at {k : Nat} {fa : AF} {C_Store : Addr} (D : Def K mg "store_at" p_store_at s_store_at) (T_Store : ClsF K C_Store ["_house", "_rows"]) {a__answer_of : AF} (o__answer_of : Ok P w K mg base k "_answer_of" p__answer_of a__answer_of) {a_Store_rows : AF} (o_Store_rows : OkM P w K mg base k C_Store "rows" p_Store_rows a_Store_rows) {j : Nat} (hj : j + 1 ≤ k) {a_Store___init__ : AF} (o_Store___init__ : OkI P w K mg base j "Store" C_Store p_Store___init__ a_Store___init__) 
    (many : ∀ as Q, fa as Q → as.length = 3)
    (does : ∀ as Q, fa as Q → A_store_at C_Store a__answer_of a_Store_rows a_Store___init__ { nx := fun sl' => Q .none (finS as sl'), rt := fun d sl' => Q d (finS as sl') } (startS 5 as)) : Ok P w K mg base (k + 1) "store_at" p_store_at fa := by
  have nd := sc_store_at.nd
  refine Ok.of (N := N_store_at) D sc_store_at (by decide) many (fun f cdv A outer s H hr hg =>
    (pss_cons (ps_set (i := 3) nd rfl (by first | exact Or.inl rfl | exact Or.inr rfl) (pe_okI o_Store___init__ hj hr hg (by rfl) (pa_cons (pe_ix ix_seq (pv 0) pe_int (fun _ _ => rfl)) pa_nil))) (pss_cons (ps_for PassesOwn.never rfl (pi_seq (pe_slice sl_any (pv 1) po_none (po_some (pv 2)))) (pg_name (i := 4) nd rfl (by first | exact Or.inl rfl | exact Or.inr rfl)) (pss_one (ps_expr (pe_ok o__answer_of hr hg (by rfl) (pa_cons (pv 3) (pa_cons (pe_ix ix_seq (pe_ix ix_seq (pe_ix ix_seq (pv 0) pe_int (fun _ _ => rfl)) (pv 4) (fun _ _ => rfl)) pe_int (fun _ _ => rfl)) pa_nil)))))) (pss_one (ps_ret (pe_okM0 o_Store_rows hr hg (pv 3)))))))
    (ls_seq (ls_setO 3 (lob_new (fa := a_Store___init__) (ld_cons (le_op lr_ix (le_var 0) (le_int 0)) ld_nil))) (ls_seq (ls_for (li_seq (le_sl (le_var 1) lo_none (lo_some (le_var 2)))) (lg_name 4) (ls_drop (le_call (fa := a__answer_of) (la_o 3 (la_d (le_op lr_ix (le_op lr_ix (le_op lr_ix (le_var 0) (le_int 1)) (le_var 4)) (le_int 0)) la_nil))))) (ls_ret (le_meth (fa := a_Store_rows) 3 la_nil)))) ?_
  exact does

abbrev s__answer_of : Stmt := topS 32
abbrev N__answer_of : List Str := ["store", "deed"]
abbrev p__answer_of : List Str := ["store", "deed"]
theorem sc__answer_of : FnScope N__answer_of p__answer_of (defScope s__answer_of) := ⟨rfl, rfl, rfl, by decide +kernel, rfl, by decide +kernel, by decide +kernel⟩
def A__answer_of (C_Store : Addr) (a_Store_tell : AF) (a_Store_ask : AF) : AS := (aSeq (aIfS (aTest (aOp fEq (aOp fIx (aVar 1) (aC (.int 0))) (aC (.str (Str.ofString "tell"))))) (aRet (aMeth C_Store 0 "tell" a_Store_tell (aaD (aOp fIx (aVar 1) (aC (.int 1))) (aaD (aOp fIx (aVar 1) (aC (.int 2))) aaNil)))) aNext) (aRet (aMeth C_Store 0 "ask" a_Store_ask (aaD (aOp fIx (aVar 1) (aC (.int 1))) aaNil))))
theorem g__answer_of {k : Nat} {fa : AF} {C_Store : Addr} (D : Def K mg "_answer_of" p__answer_of s__answer_of) (T_Store : ClsF K C_Store ["_house", "_rows"]) {a_Store_tell : AF} (o_Store_tell : OkM P w K mg base k C_Store "tell" p_Store_tell a_Store_tell) {a_Store_ask : AF} (o_Store_ask : OkM P w K mg base k C_Store "ask" p_Store_ask a_Store_ask) 
    (many : ∀ as Q, fa as Q → as.length = 2)
    (does : ∀ as Q, fa as Q → A__answer_of C_Store a_Store_tell a_Store_ask { nx := fun sl' => Q .none (finS as sl'), rt := fun d sl' => Q d (finS as sl') } (startS 2 as)) : Ok P w K mg base (k + 1) "_answer_of" p__answer_of fa := by
  have nd := sc__answer_of.nd
  refine Ok.of (N := N__answer_of) D sc__answer_of (by decide) many (fun f cdv A outer s H hr hg =>
    (pss_cons (ps_if (pt_cmpR (op_eqD (un64 hr)) (pe_ix ix_seq (pv 1) pe_int (fun _ _ => rfl)) pe_str (nomark _)) (pss_one (ps_ret (pe_okM o_Store_tell hr hg (pv 0) (pa_cons (pe_ix ix_seq (pv 1) pe_int (fun _ _ => rfl)) (pa_cons (pe_ix ix_seq (pv 1) pe_int (fun _ _ => rfl)) pa_nil))))) pss_nil) (pss_one (ps_ret (pe_okM o_Store_ask hr hg (pv 0) (pa_cons (pe_ix ix_seq (pv 1) pe_int (fun _ _ => rfl)) pa_nil))))))
    (ls_seq (ls_if (lt_test (le_op lr_eq (le_op lr_ix (le_var 1) (le_int 0)) (le_str "tell"))) (ls_ret (le_meth (fa := a_Store_tell) 0 (la_d (le_op lr_ix (le_var 1) (le_int 1)) (la_d (le_op lr_ix (le_var 1) (le_int 2)) la_nil)))) ls_next) (ls_ret (le_meth (fa := a_Store_ask) 0 (la_d (le_op lr_ix (le_var 1) (le_int 1)) la_nil)))) ?_
  exact does

abbrev s_L_bag : Stmt := topS 34
abbrev N_L_bag : List Str := ["_law_script", "_law_cell"]
abbrev p_L_bag : List Str := ["_law_script"]
theorem sc_L_bag : FnScope N_L_bag p_L_bag (defScope s_L_bag) := ⟨rfl, rfl, rfl, by decide +kernel, rfl, by decide +kernel, by decide +kernel⟩
def A_L_bag  : AL := (aLst (aCons (aC (.int 0)) (aCons (aC (.int 1234567891)) (aCons (aC (.int 0)) (aCons (aOfN (aLc (aSeqI (aSl (aVar 0) aNoPart (aPart (aC (.int 63))))) (aName 1) aYes (aCB fAbs (aCons (aVar 1) aNil)) [1])) aNil)))))
theorem g_L_bag {k : Nat} {fa : AFn}  (D : Def K mg "_law_bag" p_L_bag s_L_bag)  (m_abs : mg "abs" = none)
    (many : ∀ as Q, fa as Q → as.length = 1)
    (does : ∀ as Q, fa as Q → A_L_bag  (startS 2 (as.map Slot.d)) fun xs _ => Q xs) : OkN P w K mg base (k + 1) "_law_bag" p_L_bag fa := by
  have nd := sc_L_bag.nd
  refine OkN.of (N := N_L_bag) D sc_L_bag (by decide) many (fun f cdv A outer s H hr hg =>
    (pss_one (ps_ret (pe_lst (pa_cons pe_int (pa_cons pe_int (pa_cons pe_int (pa_cons (pe_lc (own := [("_law_cell", 1)]) rfl nd (pi_seq (pe_slice sl_any (pv 0) po_none (po_some pe_int))) (blkOk_by (N := N_L_bag) (sc := defScope s_L_bag) (by decide +kernel)) (fun _ _ _ _ _ => (pg_name (i := 1) nd rfl (by first | exact Or.inl rfl | exact Or.inr rfl))) (fun _ _ _ _ _ => pts_nil) (fun _ _ _ _ _ => (pe_callB call_abs (by rfl) m_abs b_abs (pa_cons (pv 1) pa_nil)))) pa_nil))))))))
    (ln_lst (ld_cons (le_int 0) (ld_cons (le_int 1234567891) (ld_cons (le_int 0) (ld_cons (le_ofN (ln_lc (li_seq (le_sl (le_var 0) lo_none (lo_some (le_int 63)))) (lg_name 1) lt_yes (le_CB lc_abs (ld_cons (le_var 1) ld_nil)))) ld_nil))))) ?_
  exact does

abbrev s_L_take : Stmt := topS 35
abbrev N_L_take : List Str := ["_law_bag_here", "_law_many", "_law_cell", "_law_stirred", "_law_value", "_law_begin", "_law_second"]
abbrev p_L_take : List Str := ["_law_bag_here", "_law_many"]
theorem sc_L_take : FnScope N_L_take p_L_take (defScope s_L_take) := ⟨rfl, rfl, rfl, by decide +kernel, rfl, by decide +kernel, by decide +kernel⟩
def A_L_take  : AS := (aSeq (aIfS (aTest (aOp fEq (aIxO 0 (aC (.int 0))) (aC (.int 0)))) (aSeq (aSet 2 (aOp fIx (aOp fAdd (aSl (aIxO 0 (aC (.int 3))) (aPart (aIxO 0 (aC (.int 2)))) aNoPart) (aOfN (aLst (aCons (aC (.int 0)) aNil)))) (aC (.int 0)))) (aSeq (aAugL 0 2 (fun i j => i + j) (aC (.int 1))) (aSeq (aIfS (aTest (aOp fGe (aVar 2) (aOp fPow (aC (.int 10)) (aC (.int 18))))) (aPutL 0 (aC (.int 0)) (aVar 2)) aNext) (aSeq (aSet 3 (aOp fAdd (aOp fAdd (aOp fMul (aIxO 0 (aC (.int 1))) (aC (.int 48271))) (aOp fMod (aCB fIntOf (aCons (aVar 2) aNil)) (aC (.int 2147483647)))) (aOp fMul (aC (.int 7919)) (aIxO 0 (aC (.int 2)))))) (aPutL 0 (aC (.int 1)) (aOp fMod (aCB fIntOf (aCons (aVar 3) aNil)) (aC (.int 2147483647)))))))) aNext) (aSeq (aIfS (aTest (aOp fGt (aIxO 0 (aC (.int 0))) (aC (.int 0)))) (aSeq (aSet 4 (aOp fMod (aCB fIntOf (aCons (aIxO 0 (aC (.int 0))) aNil)) (aVar 1))) (aSeq (aPutL 0 (aC (.int 0)) (aOp fFdiv (aCB fIntOf (aCons (aIxO 0 (aC (.int 0))) aNil)) (aVar 1))) (aRet (aVar 4)))) aNext) (aSeq (aSet 5 (aOp fMod (aCB fIntOf (aCons (aOp fMul (aOp fAdd (aIxO 0 (aC (.int 1))) (aC (.int 1))) (aC (.int 39373))) aNil)) (aC (.int 1000000007)))) (aSeq (aSet 6 (aOp fMod (aCB fIntOf (aCons (aOp fMul (aOp fMod (aCB fIntOf (aCons (aOp fMul (aVar 5) (aVar 5)) aNil)) (aC (.int 998244353))) (aC (.int 30011))) aNil)) (aC (.int 998244353)))) (aRet (aOp fMod (aCB fIntOf (aCons (aOp fFdiv (aVar 6) (aC (.int 7))) aNil)) (aVar 1)))))))
theorem g_L_take {k : Nat} {fa : AF}  (D : Def K mg "_law_take" p_L_take s_L_take)  (m_int : mg "int" = none)
    (many : ∀ as Q, fa as Q → as.length = 2)
    (does : ∀ as Q, fa as Q → A_L_take  { nx := fun sl' => Q .none (finS as sl'), rt := fun d sl' => Q d (finS as sl') } (startS 7 as)) : Ok P w K mg base (k + 1) "_law_take" p_L_take fa := by
  have nd := sc_L_take.nd
  refine Ok.of (N := N_L_take) D sc_L_take (by decide) many (fun f cdv A outer s H hr hg =>
    (pss_cons (ps_if (pt_cmpR (op_eqD (un64 hr)) (pe_ix ix_seq (pv 0) pe_int (fun _ _ => rfl)) pe_int (nomark _)) (pss_cons (ps_set (i := 2) nd rfl (by first | exact Or.inl rfl | exact Or.inr rfl) (pe_ix ix_seq (pe_op op_addA (pe_slice sl_any (pe_ix ix_seq (pv 0) pe_int (fun _ _ => rfl)) (po_some (pe_ix ix_seq (pv 0) pe_int (fun _ _ => rfl))) po_none) (pe_lst (pa_cons pe_int pa_nil))) pe_int (fun _ _ => rfl))) (pss_cons (ps_augS (pv 0) pe_int get_ixL pe_int ip_add set_list) (pss_cons (ps_if (pt_cmpR op_ge (pv 2) (pe_op op_pow pe_int pe_int) (nomark _)) (pss_one (ps_asg (pv 2) (pg_sub (pv 0) pe_int set_list))) pss_nil) (pss_cons (ps_set (i := 3) nd rfl (by first | exact Or.inl rfl | exact Or.inr rfl) (pe_op op_addA (pe_op op_addA (pe_op op_mulA (pe_ix ix_seq (pv 0) pe_int (fun _ _ => rfl)) pe_int) (pe_op op_modN (pe_callTy call_int1 (by rfl) m_int b_int (pa_cons (pv 2) pa_nil)) pe_int)) (pe_op op_mulA pe_int (pe_ix ix_seq (pv 0) pe_int (fun _ _ => rfl))))) (pss_one (ps_asg (pe_op op_modN (pe_callTy call_int1 (by rfl) m_int b_int (pa_cons (pv 3) pa_nil)) pe_int) (pg_sub (pv 0) pe_int set_list))))))) pss_nil) (pss_cons (ps_if (pt_cmpR op_gt (pe_ix ix_seq (pv 0) pe_int (fun _ _ => rfl)) pe_int (nomark _)) (pss_cons (ps_set (i := 4) nd rfl (by first | exact Or.inl rfl | exact Or.inr rfl) (pe_op op_modN (pe_callTy call_int1 (by rfl) m_int b_int (pa_cons (pe_ix ix_seq (pv 0) pe_int (fun _ _ => rfl)) pa_nil)) (pv 1))) (pss_cons (ps_asg (pe_op op_fdivN (pe_callTy call_int1 (by rfl) m_int b_int (pa_cons (pe_ix ix_seq (pv 0) pe_int (fun _ _ => rfl)) pa_nil)) (pv 1)) (pg_sub (pv 0) pe_int set_list)) (pss_one (ps_ret (pv 4))))) pss_nil) (pss_cons (ps_set (i := 5) nd rfl (by first | exact Or.inl rfl | exact Or.inr rfl) (pe_op op_modN (pe_callTy call_int1 (by rfl) m_int b_int (pa_cons (pe_op op_mulA (pe_op op_addA (pe_ix ix_seq (pv 0) pe_int (fun _ _ => rfl)) pe_int) pe_int) pa_nil)) pe_int)) (pss_cons (ps_set (i := 6) nd rfl (by first | exact Or.inl rfl | exact Or.inr rfl) (pe_op op_modN (pe_callTy call_int1 (by rfl) m_int b_int (pa_cons (pe_op op_mulA (pe_op op_modN (pe_callTy call_int1 (by rfl) m_int b_int (pa_cons (pe_op op_mulA (pv 5) (pv 5)) pa_nil)) pe_int) pe_int) pa_nil)) pe_int)) (pss_one (ps_ret (pe_op op_modN (pe_callTy call_int1 (by rfl) m_int b_int (pa_cons (pe_op op_fdivN (pv 6) pe_int) pa_nil)) (pv 1)))))))))
    (ls_seq (ls_if (lt_test (le_op lr_eq (le_ixO 0 (le_int 0)) (le_int 0))) (ls_seq (ls_set 2 (le_op lr_ix (le_op lr_add (le_sl (le_ixO 0 (le_int 3)) (lo_some (le_ixO 0 (le_int 2))) lo_none) (le_ofN (ln_lst (ld_cons (le_int 0) ld_nil)))) (le_int 0))) (ls_seq (ls_augL 0 2 (fun i j => i + j) (le_int 1)) (ls_seq (ls_if (lt_test (le_op lr_ge (le_var 2) (le_op lr_pow (le_int 10) (le_int 18)))) (ls_putL 0 (le_int 0) (le_var 2)) ls_next) (ls_seq (ls_set 3 (le_op lr_add (le_op lr_add (le_op lr_mul (le_ixO 0 (le_int 1)) (le_int 48271)) (le_op lr_mod (le_CB lc_int (ld_cons (le_var 2) ld_nil)) (le_int 2147483647))) (le_op lr_mul (le_int 7919) (le_ixO 0 (le_int 2))))) (ls_putL 0 (le_int 1) (le_op lr_mod (le_CB lc_int (ld_cons (le_var 3) ld_nil)) (le_int 2147483647))))))) ls_next) (ls_seq (ls_if (lt_test (le_op lr_gt (le_ixO 0 (le_int 0)) (le_int 0))) (ls_seq (ls_set 4 (le_op lr_mod (le_CB lc_int (ld_cons (le_ixO 0 (le_int 0)) ld_nil)) (le_var 1))) (ls_seq (ls_putL 0 (le_int 0) (le_op lr_fdiv (le_CB lc_int (ld_cons (le_ixO 0 (le_int 0)) ld_nil)) (le_var 1))) (ls_ret (le_var 4)))) ls_next) (ls_seq (ls_set 5 (le_op lr_mod (le_CB lc_int (ld_cons (le_op lr_mul (le_op lr_add (le_ixO 0 (le_int 1)) (le_int 1)) (le_int 39373)) ld_nil)) (le_int 1000000007))) (ls_seq (ls_set 6 (le_op lr_mod (le_CB lc_int (ld_cons (le_op lr_mul (le_op lr_mod (le_CB lc_int (ld_cons (le_op lr_mul (le_var 5) (le_var 5)) ld_nil)) (le_int 998244353)) (le_int 30011)) ld_nil)) (le_int 998244353))) (ls_ret (le_op lr_mod (le_CB lc_int (ld_cons (le_op lr_fdiv (le_var 6) (le_int 7)) ld_nil)) (le_var 1))))))) ?_
  exact does

abbrev s_L_one : Stmt := topS 36
abbrev N_L_one : List Str := ["_law_bag_here", "_law_things"]
abbrev p_L_one : List Str := ["_law_bag_here", "_law_things"]
theorem sc_L_one : FnScope N_L_one p_L_one (defScope s_L_one) := ⟨rfl, rfl, rfl, by decide +kernel, rfl, by decide +kernel, by decide +kernel⟩
def A_L_one (a__law_take : AF) : AS := (aOrS (aRet (aOp fIx (aVar 1) (aCall a__law_take (aaO 0 (aaD (aCB fLen (aCons (aVar 1) aNil)) aaNil))))) (aRet (aIxO 1 (aCall a__law_take (aaO 0 (aaD (aLenO 1) aaNil))))))
theorem g_L_one {k : Nat} {fa : AF}  (D : Def K mg "_law_one" p_L_one s_L_one) {a__law_take : AF} (o__law_take : Ok P w K mg base k "_law_take" p_L_take a__law_take) (m_len : mg "len" = none)
    (many : ∀ as Q, fa as Q → as.length = 2)
    (does : ∀ as Q, fa as Q → A_L_one a__law_take { nx := fun sl' => Q .none (finS as sl'), rt := fun d sl' => Q d (finS as sl') } (startS 2 as)) : Ok P w K mg base (k + 1) "_law_one" p_L_one fa := by
  have nd := sc_L_one.nd
  refine Ok.of (N := N_L_one) D sc_L_one (by decide) many (fun f cdv A outer s H hr hg =>
    (pss_one (ps_ret (pe_ix ix_seq (pv 1) (pe_ok o__law_take hr hg (by rfl) (pa_cons (pv 0) (pa_cons (pe_callB call_len (by rfl) m_len b_len (pa_cons (pv 1) pa_nil)) pa_nil))) (fun _ _ => rfl)))))
    (LS.or (ls_ret (le_op lr_ix (le_var 1) (le_call (fa := a__law_take) (la_o 0 (la_d (le_CB lc_len (ld_cons (le_var 1) ld_nil)) la_nil))))) (ls_ret (le_ixO 1 (le_call (fa := a__law_take) (la_o 0 (la_d (le_lenO 1) la_nil)))))) ?_
  exact does

abbrev s_L_mixed : Stmt := topS 37
abbrev N_L_mixed : List Str := ["_law_bag_here", "_law_things", "_law_found", "_law_thing"]
abbrev p_L_mixed : List Str := ["_law_bag_here", "_law_things"]
theorem sc_L_mixed : FnScope N_L_mixed p_L_mixed (defScope s_L_mixed) := ⟨rfl, rfl, rfl, by decide +kernel, rfl, by decide +kernel, by decide +kernel⟩
def A_L_mixed (a__law_take : AF) : AS := (aSeq (aSetN 2 (aLst aNil)) (aSeq (aFor (aSeqI (aVar 1)) (aName 3) (aIns 2 (aCall a__law_take (aaO 0 (aaD (aOp fAdd (aLenO 2) (aC (.int 1))) aaNil))) (aVar 3))) (aRet (aFrz 2))))
theorem g_L_mixed {k : Nat} {fa : AF}  (D : Def K mg "_law_mixed" p_L_mixed s_L_mixed) {a__law_take : AF} (o__law_take : Ok P w K mg base k "_law_take" p_L_take a__law_take) (m_len : mg "len" = none)
    (many : ∀ as Q, fa as Q → as.length = 2)
    (does : ∀ as Q, fa as Q → A_L_mixed a__law_take { nx := fun sl' => Q .none (finS as sl'), rt := fun d sl' => Q d (finS as sl') } (startS 4 as)) : Ok P w K mg base (k + 1) "_law_mixed" p_L_mixed fa := by
  have nd := sc_L_mixed.nd
  refine Ok.of (N := N_L_mixed) D sc_L_mixed (by decide) many (fun f cdv A outer s H hr hg =>
    (pss_cons (ps_set (i := 2) nd rfl (by first | exact Or.inl rfl | exact Or.inr rfl) (pe_lst pa_nil)) (pss_cons (ps_for PassesOwn.never rfl (pi_seq (pv 1)) (pg_name (i := 3) nd rfl (by first | exact Or.inl rfl | exact Or.inr rfl)) (pss_one (ps_expr (pe_bm PySem.F.plainAttrs_list PySem.F.slot_list_insert PySem.F.type_list_insert mt_insert (pv 2) (pa_cons (pe_ok o__law_take hr hg (by rfl) (pa_cons (pv 0) (pa_cons (pe_op op_addA (pe_callB call_len (by rfl) m_len b_len (pa_cons (pv 2) pa_nil)) pe_int) pa_nil))) (pa_cons (pv 3) pa_nil)))))) (pss_one (ps_ret (pv 2))))))
    (ls_seq (ls_setN 2 (ln_lst ld_nil)) (ls_seq (ls_for (li_seq (le_var 1)) (lg_name 3) (ls_ins 2 (le_call (fa := a__law_take) (la_o 0 (la_d (le_op lr_add (le_lenO 2) (le_int 1)) la_nil))) (le_var 3))) (ls_ret (le_frz 2)))) ?_
  exact does

abbrev s_L_alike : Stmt := topS 38
abbrev N_L_alike : List Str := ["_law_found", "_law_due"]
abbrev p_L_alike : List Str := ["_law_found", "_law_due"]
theorem sc_L_alike : FnScope N_L_alike p_L_alike (defScope s_L_alike) := ⟨rfl, rfl, rfl, by decide +kernel, rfl, by decide +kernel, by decide +kernel⟩
def A_L_alike  : AS := (aRet (aAndV (aOp fEq (aVar 0) (aVar 1)) (aOp fEqS (aCB fRepr (aCons (aVar 0) aNil)) (aCB fRepr (aCons (aVar 1) aNil)))))
theorem g_L_alike {k : Nat} {fa : AF}  (D : Def K mg "_law_alike" p_L_alike s_L_alike)  (m_repr : mg "repr" = none)
    (many : ∀ as Q, fa as Q → as.length = 2)
    (does : ∀ as Q, fa as Q → A_L_alike  { nx := fun sl' => Q .none (finS as sl'), rt := fun d sl' => Q d (finS as sl') } (startS 2 as)) : Ok P w K mg base (k + 1) "_law_alike" p_L_alike fa := by
  have nd := sc_L_alike.nd
  refine Ok.of (N := N_L_alike) D sc_L_alike (by decide) many (fun f cdv A outer s H hr hg =>
    (pss_one (ps_ret (pe_and (pe_cmpR (op_eqD (un64 hr)) (pv 0) (pv 1) (nomark _)) (pe_one (pe_cmpR op_eq (pe_callB (call_reprD hr hg) (by rfl) m_repr b_repr (pa_cons (pv 0) pa_nil)) (pe_callB (call_reprD hr hg) (by rfl) m_repr b_repr (pa_cons (pv 1) pa_nil)) (nomark _)))))))
    (ls_ret (le_andV (le_op lr_eq (le_var 0) (le_var 1)) (le_op lr_eqS (le_CB lc_repr (ld_cons (le_var 0) ld_nil)) (le_CB lc_repr (ld_cons (le_var 1) ld_nil))))) ?_
  exact does

abbrev s_L_is_int : Stmt := topS 39
abbrev N_L_is_int : List Str := ["_law_thing"]
abbrev p_L_is_int : List Str := ["_law_thing"]
theorem sc_L_is_int : FnScope N_L_is_int p_L_is_int (defScope s_L_is_int) := ⟨rfl, rfl, rfl, by decide +kernel, rfl, by decide +kernel, by decide +kernel⟩
def A_L_is_int  : AS := (aRet (aAndV (aCB (fIsi "int") (aCons (aVar 0) aNil)) (aNotV (aCB (fIsi "bool") (aCons (aVar 0) aNil)))))
theorem g_L_is_int {k : Nat} {fa : AF}  (D : Def K mg "_law_is_int" p_L_is_int s_L_is_int)  (m_isinstance : mg "isinstance" = none) (m_int : mg "int" = none) (m_bool : mg "bool" = none)
    (many : ∀ as Q, fa as Q → as.length = 1)
    (does : ∀ as Q, fa as Q → A_L_is_int  { nx := fun sl' => Q .none (finS as sl'), rt := fun d sl' => Q d (finS as sl') } (startS 1 as)) : Ok P w K mg base (k + 1) "_law_is_int" p_L_is_int fa := by
  have nd := sc_L_is_int.nd
  refine Ok.of (N := N_L_is_int) D sc_L_is_int (by decide) many (fun f cdv A outer s H hr hg =>
    (pss_one (ps_ret (pe_and (pe_callB call_isi (by rfl) m_isinstance b_isi (pa_cons (pv 0) (pa_cons (pe_bltn (v := .ty "int") (by rfl) m_int b_int rfl) pa_nil))) (pe_one (pe_not (pe_callB call_isi (by rfl) m_isinstance b_isi (pa_cons (pv 0) (pa_cons (pe_bltn (v := .ty "bool") (by rfl) m_bool b_bool rfl) pa_nil)))))))))
    (ls_ret (le_andV (le_isi "int" (by decide) (le_var 0)) (le_notV (le_isi "bool" (by decide) (le_var 0))))) ?_
  exact does

abbrev s_L_rest : Stmt := topS 40
abbrev N_L_rest : List Str := ["_law_number", "_law_prime"]
abbrev p_L_rest : List Str := ["_law_number", "_law_prime"]
theorem sc_L_rest : FnScope N_L_rest p_L_rest (defScope s_L_rest) := ⟨rfl, rfl, rfl, by decide +kernel, rfl, by decide +kernel, by decide +kernel⟩
def A_L_rest  : AS := (aRet (aOp fSub (aVar 0) (aOp fMul (aOp fFdiv (aVar 0) (aVar 1)) (aVar 1))))
theorem g_L_rest {k : Nat} {fa : AF}  (D : Def K mg "_law_rest" p_L_rest s_L_rest)  
    (many : ∀ as Q, fa as Q → as.length = 2)
    (does : ∀ as Q, fa as Q → A_L_rest  { nx := fun sl' => Q .none (finS as sl'), rt := fun d sl' => Q d (finS as sl') } (startS 2 as)) : Ok P w K mg base (k + 1) "_law_rest" p_L_rest fa := by
  have nd := sc_L_rest.nd
  refine Ok.of (N := N_L_rest) D sc_L_rest (by decide) many (fun f cdv A outer s H hr hg =>
    (pss_one (ps_ret (pe_op op_sub (pv 0) (pe_op op_mulA (pe_op op_fdivN (pv 0) (pv 1)) (pv 1))))))
    (ls_ret (le_op lr_sub (le_var 0) (le_op lr_mul (le_op lr_fdiv (le_var 0) (le_var 1)) (le_var 1)))) ?_
  exact does

abbrev s_L_inverse : Stmt := topS 41
abbrev N_L_inverse : List Str := ["_law_prime", "_law_number", "_law_one_here"]
abbrev p_L_inverse : List Str := ["_law_prime", "_law_number"]
theorem sc_L_inverse : FnScope N_L_inverse p_L_inverse (defScope s_L_inverse) := ⟨rfl, rfl, rfl, by decide +kernel, rfl, by decide +kernel, by decide +kernel⟩
def A_L_inverse (a__law_rest : AF) : AS := (aRet (aOp fIx (aOfN (aLc (aRng2 (aC (.int 1)) (aVar 0)) (aName 2) (aTest (aOp fEq (aCall a__law_rest (aaD (aOp fMul (aVar 2) (aVar 1)) (aaD (aVar 0) aaNil))) (aC (.int 1)))) (aVar 2) [2])) (aC (.int 0))))
theorem g_L_inverse {k : Nat} {fa : AF}  (D : Def K mg "_law_inverse" p_L_inverse s_L_inverse) {a__law_rest : AF} (o__law_rest : Ok P w K mg base k "_law_rest" p_L_rest a__law_rest) (m_range : mg "range" = none)
    (many : ∀ as Q, fa as Q → as.length = 2)
    (does : ∀ as Q, fa as Q → A_L_inverse a__law_rest { nx := fun sl' => Q .none (finS as sl'), rt := fun d sl' => Q d (finS as sl') } (startS 3 as)) : Ok P w K mg base (k + 1) "_law_inverse" p_L_inverse fa := by
  have nd := sc_L_inverse.nd
  refine Ok.of (N := N_L_inverse) D sc_L_inverse (by decide) many (fun f cdv A outer s H hr hg =>
    (pss_one (ps_ret (pe_ix ix_seq (pe_lc (own := [("_law_one_here", 2)]) rfl nd (pi_range2 (by rfl) m_range (pa_cons pe_int (pa_cons (pv 0) pa_nil))) (blkOk_by (N := N_L_inverse) (sc := defScope s_L_inverse) (by decide +kernel)) (fun _ _ _ _ _ => (pg_name (i := 2) nd rfl (by first | exact Or.inl rfl | exact Or.inr rfl))) (fun _ _ _ _ _ => (pts_one (pt_cmpR (op_eqD (un64 hr)) (pe_ok o__law_rest hr hg (by rfl) (pa_cons (pe_op op_mulA (pv 2) (pv 1)) (pa_cons (pv 0) pa_nil))) pe_int (nomark _)))) (fun _ _ _ _ _ => (pv 2))) pe_int (fun _ _ => rfl)))))
    (ls_ret (le_op lr_ix (le_ofN (ln_lc (li_rng2 (le_int 1) (le_var 0)) (lg_name 2) (lt_test (le_op lr_eq (le_call (fa := a__law_rest) (la_d (le_op lr_mul (le_var 2) (le_var 1)) (la_d (le_var 0) la_nil))) (le_int 1))) (le_var 2))) (le_int 0))) ?_
  exact does

abbrev s_L_plus : Stmt := topS 42
abbrev N_L_plus : List Str := ["_law_house_here", "_law_row", "_law_many", "_law_other", "_law_one_here", "_law_two"]
abbrev p_L_plus : List Str := ["_law_house_here", "_law_row", "_law_many", "_law_other"]
theorem sc_L_plus : FnScope N_L_plus p_L_plus (defScope s_L_plus) := ⟨rfl, rfl, rfl, by decide +kernel, rfl, by decide +kernel, by decide +kernel⟩
def A_L_plus (a__law_rest : AF) : AS := (aRet (aOfN (aLc (aZip (aVar 1) (aVar 3)) (aGTup 2 (aGCons (aName 4) (aGCons (aName 5) aGNil))) aYes (aCall a__law_rest (aaD (aOp fAdd (aVar 4) (aOp fMul (aVar 2) (aVar 5))) (aaD (aOp fIx (aVar 0) (aC (.int 0))) aaNil))) [4, 5])))
theorem g_L_plus {k : Nat} {fa : AF}  (D : Def K mg "_law_plus" p_L_plus s_L_plus) {a__law_rest : AF} (o__law_rest : Ok P w K mg base k "_law_rest" p_L_rest a__law_rest) (m_zip : mg "zip" = none)
    (many : ∀ as Q, fa as Q → as.length = 4)
    (does : ∀ as Q, fa as Q → A_L_plus a__law_rest { nx := fun sl' => Q .none (finS as sl'), rt := fun d sl' => Q d (finS as sl') } (startS 6 as)) : Ok P w K mg base (k + 1) "_law_plus" p_L_plus fa := by
  have nd := sc_L_plus.nd
  refine Ok.of (N := N_L_plus) D sc_L_plus (by decide) many (fun f cdv A outer s H hr hg =>
    (pss_one (ps_ret (pe_lc (own := [("_law_one_here", 4), ("_law_two", 5)]) rfl nd (pi_zipM (by rfl) m_zip (pa_cons (pv 1) (pa_cons (pv 3) pa_nil))) (blkOk_by (N := N_L_plus) (sc := defScope s_L_plus) (by decide +kernel)) (fun _ _ _ _ _ => (pg_tup (n := 2) rfl (pgs_cons (pg_name (i := 4) nd rfl (by first | exact Or.inl rfl | exact Or.inr rfl)) (pgs_cons (pg_name (i := 5) nd rfl (by first | exact Or.inl rfl | exact Or.inr rfl)) pgs_nil)))) (fun _ _ _ _ _ => pts_nil) (fun _ _ _ _ _ => (pe_ok o__law_rest hr hg (by rfl) (pa_cons (pe_op op_addA (pv 4) (pe_op op_mulA (pv 2) (pv 5))) (pa_cons (pe_ix ix_seq (pv 0) pe_int (fun _ _ => rfl)) pa_nil))))))))
    (ls_ret (le_ofN (ln_lc (li_zip (le_var 1) (le_var 3)) (lg_tup (lgs_cons (lg_name 4) (lgs_cons (lg_name 5) lgs_nil))) lt_yes (le_call (fa := a__law_rest) (la_d (le_op lr_add (le_var 4) (le_op lr_mul (le_var 2) (le_var 5))) (la_d (le_op lr_ix (le_var 0) (le_int 0)) la_nil)))))) ?_
  exact does

abbrev s_L_flat : Stmt := topS 43
abbrev N_L_flat : List Str := ["_law_row", "_law_many", "_law_index", "_law_one_here"]
abbrev p_L_flat : List Str := ["_law_row", "_law_many", "_law_index"]
theorem sc_L_flat : FnScope N_L_flat p_L_flat (defScope s_L_flat) := ⟨rfl, rfl, rfl, by decide +kernel, rfl, by decide +kernel, by decide +kernel⟩
def A_L_flat  : AS := (aRet (aOp fAdd (aOp fAdd (aOfN (aListOf (aOp fIx (aVar 0) (aC (.int 0))))) (aOfN (aLst (aCons (aOp fIx (aVar 0) (aC (.int 1))) aNil)))) (aOfN (aLc (aRng1 (aVar 1)) (aName 3) aYes (aCB fIntOf (aCons (aOp fEq (aVar 3) (aVar 2)) aNil)) [3]))))
theorem g_L_flat {k : Nat} {fa : AF}  (D : Def K mg "_law_flat" p_L_flat s_L_flat)  (m_list : mg "list" = none) (m_range : mg "range" = none) (m_int : mg "int" = none)
    (many : ∀ as Q, fa as Q → as.length = 3)
    (does : ∀ as Q, fa as Q → A_L_flat  { nx := fun sl' => Q .none (finS as sl'), rt := fun d sl' => Q d (finS as sl') } (startS 4 as)) : Ok P w K mg base (k + 1) "_law_flat" p_L_flat fa := by
  have nd := sc_L_flat.nd
  refine Ok.of (N := N_L_flat) D sc_L_flat (by decide) many (fun f cdv A outer s H hr hg =>
    (pss_one (ps_ret (pe_op op_addA (pe_op op_addA (pe_callTy call_list_of (by rfl) m_list b_list (pa_cons (pe_ix ix_seq (pv 0) pe_int (fun _ _ => rfl)) pa_nil)) (pe_lst (pa_cons (pe_ix ix_seq (pv 0) pe_int (fun _ _ => rfl)) pa_nil))) (pe_lc (own := [("_law_one_here", 3)]) rfl nd (pi_range1 (by rfl) m_range (pa_cons (pv 1) pa_nil)) (blkOk_by (N := N_L_flat) (sc := defScope s_L_flat) (by decide +kernel)) (fun _ _ _ _ _ => (pg_name (i := 3) nd rfl (by first | exact Or.inl rfl | exact Or.inr rfl))) (fun _ _ _ _ _ => pts_nil) (fun _ _ _ _ _ => (pe_callTy call_int1 (by rfl) m_int b_int (pa_cons (pe_cmpR (op_eqD (un64 hr)) (pv 3) (pv 2) (nomark _)) pa_nil))))))))
    (ls_ret (le_op lr_add (le_op lr_add (le_ofN (ln_list (le_op lr_ix (le_var 0) (le_int 0)))) (le_ofN (ln_lst (ld_cons (le_op lr_ix (le_var 0) (le_int 1)) ld_nil)))) (le_ofN (ln_lc (li_rng1 (le_var 1)) (lg_name 3) lt_yes (le_CB lc_int (ld_cons (le_op lr_eq (le_var 3) (le_var 2)) ld_nil)))))) ?_
  exact does

abbrev s_L_echelon : Stmt := topS 44
abbrev N_L_echelon : List Str := ["_law_house_here", "_law_rows", "_law_found", "_law_index", "_law_row", "_law_items", "_law_place", "_law_lead", "_law_places", "_law_turn"]
abbrev p_L_echelon : List Str := ["_law_house_here", "_law_rows"]
theorem sc_L_echelon : FnScope N_L_echelon p_L_echelon (defScope s_L_echelon) := ⟨rfl, rfl, rfl, by decide +kernel, rfl, by decide +kernel, by decide +kernel⟩
def A_L_echelon (a__law_flat : AF) (a__law_plus : AF) (a__law_inverse : AF) : AS := (aSeq (aSetN 2 (aLst aNil)) (aSeq (aFor (aEnum (aVar 1)) (aGTup 2 (aGCons (aName 3) (aGCons (aName 4) aGNil))) (aSeq (aSet 5 (aCall a__law_flat (aaD (aVar 4) (aaD (aCB fLen (aCons (aVar 1) aNil)) (aaD (aVar 3) aaNil))))) (aSeq (aForO 2 (aGTup 2 (aGCons (aName 6) (aGCons (aName 7) aGNil))) (aSet 5 (aCall a__law_plus (aaD (aVar 0) (aaD (aVar 5) (aaD (aNeg (aOp fIx (aVar 5) (aVar 6))) (aaD (aVar 7) aaNil))))))) (aSeq (aSet 8 (aOfN (aLc (aRng1 (aOp fIx (aVar 0) (aC (.int 1)))) (aName 6) (aTest (aOp fNe (aOp fIx (aVar 5) (aVar 6)) (aC (.int 0)))) (aVar 6) [6]))) (aSeq (aIfS (aTest (aOp fEq (aVar 8) (aOfN (aLst aNil)))) (aRet (aTup (aCons (aFrz 2) (aCons (aCB fTuple (aCons (aSl (aVar 5) (aPart (aOp fAdd (aOp fIx (aVar 0) (aC (.int 1))) (aC (.int 1)))) aNoPart) aNil)) aNil)))) aNext) (aSeq (aSet 9 (aCall a__law_inverse (aaD (aOp fIx (aVar 0) (aC (.int 0))) (aaD (aOp fIx (aVar 5) (aOp fIx (aVar 8) (aC (.int 0)))) aaNil)))) (aApp 2 (aTup (aCons (aOp fIx (aVar 8) (aC (.int 0))) (aCons (aCall a__law_plus (aaD (aVar 0) (aaD (aOfN (aRep (aLst (aCons (aC (.int 0)) aNil)) (aCB fLen (aCons (aVar 5) aNil)))) (aaD (aVar 9) (aaD (aVar 5) aaNil))))) aNil)))))))))) (aRet (aTup (aCons (aFrz 2) (aCons (aC .none) aNil))))))
theorem g_L_echelon {k : Nat} {fa : AF}  (D : Def K mg "_law_echelon" p_L_echelon s_L_echelon) {a__law_flat : AF} (o__law_flat : Ok P w K mg base k "_law_flat" p_L_flat a__law_flat) {a__law_plus : AF} (o__law_plus : Ok P w K mg base k "_law_plus" p_L_plus a__law_plus) {a__law_inverse : AF} (o__law_inverse : Ok P w K mg base k "_law_inverse" p_L_inverse a__law_inverse) (m_enumerate : mg "enumerate" = none) (m_len : mg "len" = none) (m_range : mg "range" = none) (m_tuple : mg "tuple" = none)
    (many : ∀ as Q, fa as Q → as.length = 2)
    (does : ∀ as Q, fa as Q → A_L_echelon a__law_flat a__law_plus a__law_inverse { nx := fun sl' => Q .none (finS as sl'), rt := fun d sl' => Q d (finS as sl') } (startS 10 as)) : Ok P w K mg base (k + 1) "_law_echelon" p_L_echelon fa := by
  have nd := sc_L_echelon.nd
  refine Ok.of (N := N_L_echelon) D sc_L_echelon (by decide) many (fun f cdv A outer s H hr hg =>
    (pss_cons (ps_set (i := 2) nd rfl (by first | exact Or.inl rfl | exact Or.inr rfl) (pe_lst pa_nil)) (pss_cons (ps_for PassesOwn.never rfl (pi_enumA (by rfl) m_enumerate (pa_cons (pv 1) pa_nil)) (pg_tup (n := 2) rfl (pgs_cons (pg_name (i := 3) nd rfl (by first | exact Or.inl rfl | exact Or.inr rfl)) (pgs_cons (pg_name (i := 4) nd rfl (by first | exact Or.inl rfl | exact Or.inr rfl)) pgs_nil))) (pss_cons (ps_set (i := 5) nd rfl (by first | exact Or.inl rfl | exact Or.inr rfl) (pe_ok o__law_flat hr hg (by rfl) (pa_cons (pv 4) (pa_cons (pe_callB call_len (by rfl) m_len b_len (pa_cons (pv 1) pa_nil)) (pa_cons (pv 3) pa_nil))))) (pss_cons (ps_for PassesOwn.never rfl (pi_seq (pv 2)) (pg_tup (n := 2) rfl (pgs_cons (pg_name (i := 6) nd rfl (by first | exact Or.inl rfl | exact Or.inr rfl)) (pgs_cons (pg_name (i := 7) nd rfl (by first | exact Or.inl rfl | exact Or.inr rfl)) pgs_nil))) (pss_one (ps_set (i := 5) nd rfl (by first | exact Or.inl rfl | exact Or.inr rfl) (pe_ok o__law_plus hr hg (by rfl) (pa_cons (pv 0) (pa_cons (pv 5) (pa_cons (pe_un un_neg (pe_ix ix_seq (pv 5) (pv 6) (fun _ _ => rfl))) (pa_cons (pv 7) pa_nil)))))))) (pss_cons (ps_setLc (i := 8) (own := [("_law_place", 6)]) rfl nd rfl rfl (sw_true rfl rfl rfl (by decide +kernel)) (pi_range1 (by rfl) m_range (pa_cons (pe_ix ix_seq (pv 0) pe_int (fun _ _ => rfl)) pa_nil)) (blkOk_by (N := N_L_echelon) (sc := defScope s_L_echelon) (by decide +kernel)) (fun _ _ _ _ _ => (pg_name (i := 6) nd rfl (by first | exact Or.inl rfl | exact Or.inr rfl))) (fun _ _ _ _ _ => (pts_one (pt_cmpR (op_neD (un64 hr)) (pe_ix ix_seq (pv 5) (pv 6) (fun _ _ => rfl)) pe_int (nomark _)))) (fun _ _ _ _ _ => (pv 6))) (pss_cons (ps_if (pt_cmpR (op_eqD (un64 hr)) (pv 8) (pe_lst pa_nil) (nomark _)) (pss_one (ps_ret (pe_tupK (pa_cons (pv 2) (pa_cons (pe_callTy call_tupK (by rfl) m_tuple b_tuple (pa_cons (pe_slice sl_any (pv 5) (po_some (pe_op op_addA (pe_ix ix_seq (pv 0) pe_int (fun _ _ => rfl)) pe_int)) po_none) pa_nil)) pa_nil))))) pss_nil) (pss_cons (ps_set (i := 9) nd rfl (by first | exact Or.inl rfl | exact Or.inr rfl) (pe_ok o__law_inverse hr hg (by rfl) (pa_cons (pe_ix ix_seq (pv 0) pe_int (fun _ _ => rfl)) (pa_cons (pe_ix ix_seq (pv 5) (pe_ix ix_seq (pv 8) pe_int (fun _ _ => rfl)) (fun _ _ => rfl)) pa_nil)))) (pss_one (ps_expr (pe_bm PySem.F.plainAttrs_list PySem.F.slot_list_append PySem.F.type_list_append mt_append (pv 2) (pa_cons (pe_tupK (pa_cons (pe_ix ix_seq (pv 8) pe_int (fun _ _ => rfl)) (pa_cons (pe_ok o__law_plus hr hg (by rfl) (pa_cons (pv 0) (pa_cons (pe_op op_rep (pe_lst (pa_cons pe_int pa_nil)) (pe_callB call_len (by rfl) m_len b_len (pa_cons (pv 5) pa_nil))) (pa_cons (pv 9) (pa_cons (pv 5) pa_nil))))) pa_nil))) pa_nil)))))))))) (pss_one (ps_ret (pe_tupK (pa_cons (pv 2) (pa_cons pe_non pa_nil))))))))
    (ls_seq (ls_setN 2 (ln_lst ld_nil)) (ls_seq (ls_for (li_enum (le_var 1)) (lg_tup (lgs_cons (lg_name 3) (lgs_cons (lg_name 4) lgs_nil))) (ls_seq (ls_set 5 (le_call (fa := a__law_flat) (la_d (le_var 4) (la_d (le_CB lc_len (ld_cons (le_var 1) ld_nil)) (la_d (le_var 3) la_nil))))) (ls_seq (ls_forO 2 (lg_tup (lgs_cons (lg_name 6) (lgs_cons (lg_name 7) lgs_nil))) (ls_set 5 (le_call (fa := a__law_plus) (la_d (le_var 0) (la_d (le_var 5) (la_d (le_neg (le_op lr_ix (le_var 5) (le_var 6))) (la_d (le_var 7) la_nil))))))) (ls_seq (ls_set 8 (le_ofN (ln_lc (li_rng1 (le_op lr_ix (le_var 0) (le_int 1))) (lg_name 6) (lt_test (le_op lr_ne (le_op lr_ix (le_var 5) (le_var 6)) (le_int 0))) (le_var 6)))) (ls_seq (ls_if (lt_test (le_op lr_eq (le_var 8) (le_ofN (ln_lst ld_nil)))) (ls_ret (le_tup (ld_cons (le_frz 2) (ld_cons (le_CB lc_tuple (ld_cons (le_sl (le_var 5) (lo_some (le_op lr_add (le_op lr_ix (le_var 0) (le_int 1)) (le_int 1))) lo_none) ld_nil)) ld_nil)))) ls_next) (ls_seq (ls_set 9 (le_call (fa := a__law_inverse) (la_d (le_op lr_ix (le_var 0) (le_int 0)) (la_d (le_op lr_ix (le_var 5) (le_op lr_ix (le_var 8) (le_int 0))) la_nil)))) (ls_app 2 (le_tup (ld_cons (le_op lr_ix (le_var 8) (le_int 0)) (ld_cons (le_call (fa := a__law_plus) (la_d (le_var 0) (la_d (le_ofN (ln_rep (ln_lst (ld_cons (le_int 0) ld_nil)) (le_CB lc_len (ld_cons (le_var 5) ld_nil)))) (la_d (le_var 9) (la_d (le_var 5) la_nil))))) ld_nil)))))))))) (ls_ret (le_tup (ld_cons (le_frz 2) (ld_cons le_non ld_nil)))))) ?_
  exact does

abbrev s_L_given : Stmt := topS 45
abbrev N_L_given : List Str := ["_law_house_here", "_law_rows", "_law_sums_here", "_law_items", "_law_place", "_law_lead", "_law_back"]
abbrev p_L_given : List Str := ["_law_house_here", "_law_rows", "_law_sums_here"]
theorem sc_L_given : FnScope N_L_given p_L_given (defScope s_L_given) := ⟨rfl, rfl, rfl, by decide +kernel, rfl, by decide +kernel, by decide +kernel⟩
def A_L_given (a__law_echelon : AF) (a__law_plus : AF) : AS := (aSeq (aSet 3 (aOp fAdd (aOfN (aListOf (aVar 2))) (aOfN (aRep (aLst (aCons (aC (.int 0)) aNil)) (aOp fAdd (aC (.int 1)) (aCB fLen (aCons (aVar 1) aNil))))))) (aSeq (aFor (aSeqI (aOp fIx (aCall a__law_echelon (aaD (aVar 0) (aaD (aVar 1) aaNil))) (aC (.int 0)))) (aGTup 2 (aGCons (aName 4) (aGCons (aName 5) aGNil))) (aSet 3 (aCall a__law_plus (aaD (aVar 0) (aaD (aVar 3) (aaD (aNeg (aOp fIx (aVar 3) (aVar 4))) (aaD (aVar 5) aaNil))))))) (aSeq (aIfS (aTest (aOp fNe (aOfN (aLc (aRng1 (aOp fIx (aVar 0) (aC (.int 1)))) (aName 4) (aTest (aOp fNe (aOp fIx (aVar 3) (aVar 4)) (aC (.int 0)))) (aVar 4) [4])) (aOfN (aLst aNil)))) (aRet (aC .none)) aNext) (aSeq (aSet 6 (aCall a__law_plus (aaD (aVar 0) (aaD (aOfN (aRep (aLst (aCons (aC (.int 0)) aNil)) (aOp fAdd (aC (.int 1)) (aCB fLen (aCons (aVar 1) aNil))))) (aaD (aNeg (aC (.int 1))) (aaD (aSl (aVar 3) (aPart (aOp fIx (aVar 0) (aC (.int 1)))) aNoPart) aaNil)))))) (aRet (aTup (aCons (aOp fIx (aVar 6) (aC (.int 0))) (aCons (aCB fTuple (aCons (aSl (aVar 6) (aPart (aC (.int 1))) aNoPart) aNil)) aNil))))))))
theorem g_L_given {k : Nat} {fa : AF}  (D : Def K mg "_law_given" p_L_given s_L_given) {a__law_echelon : AF} (o__law_echelon : Ok P w K mg base k "_law_echelon" p_L_echelon a__law_echelon) {a__law_plus : AF} (o__law_plus : Ok P w K mg base k "_law_plus" p_L_plus a__law_plus) (m_list : mg "list" = none) (m_len : mg "len" = none) (m_range : mg "range" = none) (m_tuple : mg "tuple" = none)
    (many : ∀ as Q, fa as Q → as.length = 3)
    (does : ∀ as Q, fa as Q → A_L_given a__law_echelon a__law_plus { nx := fun sl' => Q .none (finS as sl'), rt := fun d sl' => Q d (finS as sl') } (startS 7 as)) : Ok P w K mg base (k + 1) "_law_given" p_L_given fa := by
  have nd := sc_L_given.nd
  refine Ok.of (N := N_L_given) D sc_L_given (by decide) many (fun f cdv A outer s H hr hg =>
    (pss_cons (ps_set (i := 3) nd rfl (by first | exact Or.inl rfl | exact Or.inr rfl) (pe_op op_addA (pe_callTy call_list_of (by rfl) m_list b_list (pa_cons (pv 2) pa_nil)) (pe_op op_rep (pe_lst (pa_cons pe_int pa_nil)) (pe_op op_addA pe_int (pe_callB call_len (by rfl) m_len b_len (pa_cons (pv 1) pa_nil)))))) (pss_cons (ps_for PassesOwn.never rfl (pi_seq (pe_ix ix_seq (pe_ok o__law_echelon hr hg (by rfl) (pa_cons (pv 0) (pa_cons (pv 1) pa_nil))) pe_int (fun _ _ => rfl))) (pg_tup (n := 2) rfl (pgs_cons (pg_name (i := 4) nd rfl (by first | exact Or.inl rfl | exact Or.inr rfl)) (pgs_cons (pg_name (i := 5) nd rfl (by first | exact Or.inl rfl | exact Or.inr rfl)) pgs_nil))) (pss_one (ps_set (i := 3) nd rfl (by first | exact Or.inl rfl | exact Or.inr rfl) (pe_ok o__law_plus hr hg (by rfl) (pa_cons (pv 0) (pa_cons (pv 3) (pa_cons (pe_un un_neg (pe_ix ix_seq (pv 3) (pv 4) (fun _ _ => rfl))) (pa_cons (pv 5) pa_nil)))))))) (pss_cons (ps_if (pt_cmpR (op_neD (un64 hr)) (pe_lc (own := [("_law_place", 4)]) rfl nd (pi_range1 (by rfl) m_range (pa_cons (pe_ix ix_seq (pv 0) pe_int (fun _ _ => rfl)) pa_nil)) (blkOk_by (N := N_L_given) (sc := defScope s_L_given) (by decide +kernel)) (fun _ _ _ _ _ => (pg_name (i := 4) nd rfl (by first | exact Or.inl rfl | exact Or.inr rfl))) (fun _ _ _ _ _ => (pts_one (pt_cmpR (op_neD (un64 hr)) (pe_ix ix_seq (pv 3) (pv 4) (fun _ _ => rfl)) pe_int (nomark _)))) (fun _ _ _ _ _ => (pv 4))) (pe_lst pa_nil) (nomark _)) (pss_one (ps_ret pe_non)) pss_nil) (pss_cons (ps_set (i := 6) nd rfl (by first | exact Or.inl rfl | exact Or.inr rfl) (pe_ok o__law_plus hr hg (by rfl) (pa_cons (pv 0) (pa_cons (pe_op op_rep (pe_lst (pa_cons pe_int pa_nil)) (pe_op op_addA pe_int (pe_callB call_len (by rfl) m_len b_len (pa_cons (pv 1) pa_nil)))) (pa_cons (pe_un un_neg pe_int) (pa_cons (pe_slice sl_any (pv 3) (po_some (pe_ix ix_seq (pv 0) pe_int (fun _ _ => rfl))) po_none) pa_nil)))))) (pss_one (ps_ret (pe_tupK (pa_cons (pe_ix ix_seq (pv 6) pe_int (fun _ _ => rfl)) (pa_cons (pe_callTy call_tupK (by rfl) m_tuple b_tuple (pa_cons (pe_slice sl_any (pv 6) (po_some pe_int) po_none) pa_nil)) pa_nil))))))))))
    (ls_seq (ls_set 3 (le_op lr_add (le_ofN (ln_list (le_var 2))) (le_ofN (ln_rep (ln_lst (ld_cons (le_int 0) ld_nil)) (le_op lr_add (le_int 1) (le_CB lc_len (ld_cons (le_var 1) ld_nil))))))) (ls_seq (ls_for (li_seq (le_op lr_ix (le_call (fa := a__law_echelon) (la_d (le_var 0) (la_d (le_var 1) la_nil))) (le_int 0))) (lg_tup (lgs_cons (lg_name 4) (lgs_cons (lg_name 5) lgs_nil))) (ls_set 3 (le_call (fa := a__law_plus) (la_d (le_var 0) (la_d (le_var 3) (la_d (le_neg (le_op lr_ix (le_var 3) (le_var 4))) (la_d (le_var 5) la_nil))))))) (ls_seq (ls_if (lt_test (le_op lr_ne (le_ofN (ln_lc (li_rng1 (le_op lr_ix (le_var 0) (le_int 1))) (lg_name 4) (lt_test (le_op lr_ne (le_op lr_ix (le_var 3) (le_var 4)) (le_int 0))) (le_var 4))) (le_ofN (ln_lst ld_nil)))) (ls_ret le_non) ls_next) (ls_seq (ls_set 6 (le_call (fa := a__law_plus) (la_d (le_var 0) (la_d (le_ofN (ln_rep (ln_lst (ld_cons (le_int 0) ld_nil)) (le_op lr_add (le_int 1) (le_CB lc_len (ld_cons (le_var 1) ld_nil))))) (la_d (le_neg (le_int 1)) (la_d (le_sl (le_var 3) (lo_some (le_op lr_ix (le_var 0) (le_int 1))) lo_none) la_nil)))))) (ls_ret (le_tup (ld_cons (le_op lr_ix (le_var 6) (le_int 0)) (ld_cons (le_CB lc_tuple (ld_cons (le_sl (le_var 6) (lo_some (le_int 1)) lo_none) ld_nil)) ld_nil)))))))) ?_
  exact does

abbrev s_L_comes_to : Stmt := topS 46
abbrev N_L_comes_to : List Str := ["_law_house_here", "_law_world_here", "_law_sums_here", "_law_factor", "_law_number"]
abbrev p_L_comes_to : List Str := ["_law_house_here", "_law_world_here", "_law_sums_here"]
theorem sc_L_comes_to : FnScope N_L_comes_to p_L_comes_to (defScope s_L_comes_to) := ⟨rfl, rfl, rfl, by decide +kernel, rfl, by decide +kernel, by decide +kernel⟩
def A_L_comes_to (a__law_rest : AF) : AS := (aRet (aCall a__law_rest (aaD (aCB fSum (aCons (aOfN (aLc (aZip (aVar 2) (aVar 1)) (aGTup 2 (aGCons (aName 3) (aGCons (aName 4) aGNil))) aYes (aOp fMul (aVar 3) (aVar 4)) [3, 4])) aNil)) (aaD (aOp fIx (aVar 0) (aC (.int 0))) aaNil))))
theorem g_L_comes_to {k : Nat} {fa : AF}  (D : Def K mg "_law_comes_to" p_L_comes_to s_L_comes_to) {a__law_rest : AF} (o__law_rest : Ok P w K mg base k "_law_rest" p_L_rest a__law_rest) (m_zip : mg "zip" = none) (m_sum : mg "sum" = none)
    (many : ∀ as Q, fa as Q → as.length = 3)
    (does : ∀ as Q, fa as Q → A_L_comes_to a__law_rest { nx := fun sl' => Q .none (finS as sl'), rt := fun d sl' => Q d (finS as sl') } (startS 5 as)) : Ok P w K mg base (k + 1) "_law_comes_to" p_L_comes_to fa := by
  have nd := sc_L_comes_to.nd
  refine Ok.of (N := N_L_comes_to) D sc_L_comes_to (by decide) many (fun f cdv A outer s H hr hg =>
    (pss_one (ps_ret (pe_ok o__law_rest hr hg (by rfl) (pa_cons (pe_callB (cr_sum rfl) (by rfl) m_sum b_sum (pa_cons (pe_lc (own := [("_law_factor", 3), ("_law_number", 4)]) rfl nd (pi_zipM (by rfl) m_zip (pa_cons (pv 2) (pa_cons (pv 1) pa_nil))) (blkOk_by (N := N_L_comes_to) (sc := defScope s_L_comes_to) (by decide +kernel)) (fun _ _ _ _ _ => (pg_tup (n := 2) rfl (pgs_cons (pg_name (i := 3) nd rfl (by first | exact Or.inl rfl | exact Or.inr rfl)) (pgs_cons (pg_name (i := 4) nd rfl (by first | exact Or.inl rfl | exact Or.inr rfl)) pgs_nil)))) (fun _ _ _ _ _ => pts_nil) (fun _ _ _ _ _ => (pe_op op_mulA (pv 3) (pv 4)))) pa_nil)) (pa_cons (pe_ix ix_seq (pv 0) pe_int (fun _ _ => rfl)) pa_nil))))))
    (ls_ret (le_call (fa := a__law_rest) (la_d (le_CB lc_sum (ld_cons (le_ofN (ln_lc (li_zip (le_var 2) (le_var 1)) (lg_tup (lgs_cons (lg_name 3) (lgs_cons (lg_name 4) lgs_nil))) lt_yes (le_op lr_mul (le_var 3) (le_var 4)))) ld_nil)) (la_d (le_op lr_ix (le_var 0) (le_int 0)) la_nil)))) ?_
  exact does

abbrev s_L_answer : Stmt := topS 47
abbrev N_L_answer : List Str := ["_law_house_here", "_law_rows", "_law_deed_here", "_law_given_here"]
abbrev p_L_answer : List Str := ["_law_house_here", "_law_rows", "_law_deed_here"]
theorem sc_L_answer : FnScope N_L_answer p_L_answer (defScope s_L_answer) := ⟨rfl, rfl, rfl, by decide +kernel, rfl, by decide +kernel, by decide +kernel⟩
def A_L_answer (a__law_given : AF) : AS := (aSeq (aSet 3 (aCall a__law_given (aaD (aVar 0) (aaD (aVar 1) (aaD (aOp fIx (aVar 2) (aC (.int 1))) aaNil))))) (aSeq (aIfS (aTest (aOp fEq (aOp fIx (aVar 2) (aC (.int 0))) (aC (.str (Str.ofString "ask"))))) (aRet (aIf (aTest (aIsN (aVar 3))) (aC (.str (Str.ofString "open"))) (aOp fIx (aVar 3) (aC (.int 0))))) aNext) (aSeq (aIfS (aTest (aIsN (aVar 3))) (aRet (aC (.str (Str.ofString "new")))) aNext) (aRet (aIf (aTest (aOp fEq (aOp fIx (aVar 3) (aC (.int 0))) (aOp fIx (aVar 2) (aC (.int 2))))) (aC (.str (Str.ofString "known"))) (aC (.str (Str.ofString "clash"))))))))
theorem g_L_answer {k : Nat} {fa : AF}  (D : Def K mg "_law_answer" p_L_answer s_L_answer) {a__law_given : AF} (o__law_given : Ok P w K mg base k "_law_given" p_L_given a__law_given) 
    (many : ∀ as Q, fa as Q → as.length = 3)
    (does : ∀ as Q, fa as Q → A_L_answer a__law_given { nx := fun sl' => Q .none (finS as sl'), rt := fun d sl' => Q d (finS as sl') } (startS 4 as)) : Ok P w K mg base (k + 1) "_law_answer" p_L_answer fa := by
  have nd := sc_L_answer.nd
  refine Ok.of (N := N_L_answer) D sc_L_answer (by decide) many (fun f cdv A outer s H hr hg =>
    (pss_cons (ps_set (i := 3) nd rfl (by first | exact Or.inl rfl | exact Or.inr rfl) (pe_ok o__law_given hr hg (by rfl) (pa_cons (pv 0) (pa_cons (pv 1) (pa_cons (pe_ix ix_seq (pv 2) pe_int (fun _ _ => rfl)) pa_nil))))) (pss_cons (ps_if (pt_cmpR (op_eqD (un64 hr)) (pe_ix ix_seq (pv 2) pe_int (fun _ _ => rfl)) pe_str (nomark _)) (pss_one (ps_ret (pe_ifExp (pt_cmp (pc_isN (pv 3))) pe_str (pe_ix ix_seq (pv 3) pe_int (fun _ _ => rfl))))) pss_nil) (pss_cons (ps_if (pt_cmp (pc_isN (pv 3))) (pss_one (ps_ret pe_str)) pss_nil) (pss_one (ps_ret (pe_ifExp (pt_cmpR (op_eqD (un64 hr)) (pe_ix ix_seq (pv 3) pe_int (fun _ _ => rfl)) (pe_ix ix_seq (pv 2) pe_int (fun _ _ => rfl)) (nomark _)) pe_str pe_str)))))))
    (ls_seq (ls_set 3 (le_call (fa := a__law_given) (la_d (le_var 0) (la_d (le_var 1) (la_d (le_op lr_ix (le_var 2) (le_int 1)) la_nil))))) (ls_seq (ls_if (lt_test (le_op lr_eq (le_op lr_ix (le_var 2) (le_int 0)) (le_str "ask"))) (ls_ret (le_if (lt_B (le_isN (le_var 3))) (le_str "open") (le_op lr_ix (le_var 3) (le_int 0)))) ls_next) (ls_seq (ls_if (lt_B (le_isN (le_var 3))) (ls_ret (le_str "new")) ls_next) (ls_ret (le_if (lt_test (le_op lr_eq (le_op lr_ix (le_var 3) (le_int 0)) (le_op lr_ix (le_var 2) (le_int 2)))) (le_str "known") (le_str "clash")))))) ?_
  exact does

abbrev s_L_answers_by : Stmt := topS 48
abbrev N_L_answers_by : List Str := ["_law_house_here", "_law_deeds", "_law_rows", "_law_found", "_law_deed_here", "_law_answer_here"]
abbrev p_L_answers_by : List Str := ["_law_house_here", "_law_deeds"]
theorem sc_L_answers_by : FnScope N_L_answers_by p_L_answers_by (defScope s_L_answers_by) := ⟨rfl, rfl, rfl, by decide +kernel, rfl, by decide +kernel, by decide +kernel⟩
def A_L_answers_by (a__law_answer : AF) : AS := (aSeq (aParLL 2 3 (aLst aNil) (aLst aNil)) (aSeq (aFor (aSeqI (aVar 1)) (aName 4) (aSeq (aSet 5 (aBor2 2 (aCall a__law_answer (aaD (aVar 0) (aaD (aVar 2) (aaD (aVar 4) aaNil)))))) (aSeq (aIfS (aTest (aOp fEq (aVar 5) (aC (.str (Str.ofString "new"))))) (aApp 2 (aTup (aCons (aOp fIx (aVar 4) (aC (.int 1))) (aCons (aOp fIx (aVar 4) (aC (.int 2))) aNil)))) aNext) (aApp 3 (aVar 5))))) (aRet (aFrz 3))))
theorem g_L_answers_by {k : Nat} {fa : AF}  (D : Def K mg "_law_answers_by" p_L_answers_by s_L_answers_by) {a__law_answer : AF} (o__law_answer : Ok P w K mg base k "_law_answer" p_L_answer a__law_answer) 
    (many : ∀ as Q, fa as Q → as.length = 2)
    (does : ∀ as Q, fa as Q → A_L_answers_by a__law_answer { nx := fun sl' => Q .none (finS as sl'), rt := fun d sl' => Q d (finS as sl') } (startS 6 as)) : Ok P w K mg base (k + 1) "_law_answers_by" p_L_answers_by fa := by
  have nd := sc_L_answers_by.nd
  refine Ok.of (N := N_L_answers_by) D sc_L_answers_by (by decide) many (fun f cdv A outer s H hr hg =>
    (pss_cons (ps_par rfl nd rfl rfl (by decide) rfl rfl (pa_cons (pe_lst pa_nil) (pa_cons (pe_lst pa_nil) pa_nil)) (by rfl)) (pss_cons (ps_for PassesOwn.never rfl (pi_seq (pv 1)) (pg_name (i := 4) nd rfl (by first | exact Or.inl rfl | exact Or.inr rfl)) (pss_cons (ps_set (i := 5) nd rfl (by first | exact Or.inl rfl | exact Or.inr rfl) (pe_ok o__law_answer hr hg (by rfl) (pa_cons (pv 0) (pa_cons (pv 2) (pa_cons (pv 4) pa_nil))))) (pss_cons (ps_if (pt_cmpR (op_eqD (un64 hr)) (pv 5) pe_str (nomark _)) (pss_one (ps_expr (pe_bm PySem.F.plainAttrs_list PySem.F.slot_list_append PySem.F.type_list_append mt_append (pv 2) (pa_cons (pe_tupK (pa_cons (pe_ix ix_seq (pv 4) pe_int (fun _ _ => rfl)) (pa_cons (pe_ix ix_seq (pv 4) pe_int (fun _ _ => rfl)) pa_nil))) pa_nil)))) pss_nil) (pss_one (ps_expr (pe_bm PySem.F.plainAttrs_list PySem.F.slot_list_append PySem.F.type_list_append mt_append (pv 3) (pa_cons (pv 5) pa_nil))))))) (pss_one (ps_ret (pv 3))))))
    (ls_seq (ls_parLL 2 3 (ln_lst ld_nil) (ln_lst ld_nil)) (ls_seq (ls_for (li_seq (le_var 1)) (lg_name 4) (ls_seq (ls_set 5 (le_bor2 2 (le_call (fa := a__law_answer) (la_d (le_var 0) (la_d (le_var 2) (la_d (le_var 4) la_nil)))))) (ls_seq (ls_if (lt_test (le_op lr_eq (le_var 5) (le_str "new"))) (ls_app 2 (le_tup (ld_cons (le_op lr_ix (le_var 4) (le_int 1)) (ld_cons (le_op lr_ix (le_var 4) (le_int 2)) ld_nil)))) ls_next) (ls_app 3 (le_var 5))))) (ls_ret (le_frz 3)))) ?_
  exact does

abbrev s_L_house : Stmt := topS 49
abbrev N_L_house : List Str := ["_law_bag_here", "_law_most", "_law_menu"]
abbrev p_L_house : List Str := ["_law_bag_here", "_law_most"]
theorem sc_L_house : FnScope N_L_house p_L_house (defScope s_L_house) := ⟨rfl, rfl, rfl, by decide +kernel, rfl, by decide +kernel, by decide +kernel⟩
def A_L_house (a__law_one : AF) : AS := (aSeq (aSet 2 (aIf (aTest (aOp fGe (aVar 1) (aC (.int 3)))) (aOfN (aLst (aCons (aVar 1) (aCons (aC (.int 2)) (aCons (aC (.int 3)) (aCons (aC (.int 1)) (aCons (aVar 1) (aCons (aC (.int 0)) aNil)))))))) (aOfN (aListRg (aOp fAdd (aVar 1) (aC (.int 1))))))) (aRet (aTup (aCons (aCall a__law_one (aaO 0 (aaD (aOfN (aLst (aCons (aC (.int 2)) (aCons (aC (.int 3)) (aCons (aC (.int 2)) (aCons (aC (.int 5)) (aCons (aC (.int 7)) aNil))))))) aaNil))) (aCons (aCall a__law_one (aaO 0 (aaD (aVar 2) aaNil))) aNil)))))
theorem g_L_house {k : Nat} {fa : AF}  (D : Def K mg "_law_house" p_L_house s_L_house) {a__law_one : AF} (o__law_one : Ok P w K mg base k "_law_one" p_L_one a__law_one) (m_list : mg "list" = none) (m_range : mg "range" = none)
    (many : ∀ as Q, fa as Q → as.length = 2)
    (does : ∀ as Q, fa as Q → A_L_house a__law_one { nx := fun sl' => Q .none (finS as sl'), rt := fun d sl' => Q d (finS as sl') } (startS 3 as)) : Ok P w K mg base (k + 1) "_law_house" p_L_house fa := by
  have nd := sc_L_house.nd
  refine Ok.of (N := N_L_house) D sc_L_house (by decide) many (fun f cdv A outer s H hr hg =>
    (pss_cons (ps_set (i := 2) nd rfl (by first | exact Or.inl rfl | exact Or.inr rfl) (pe_ifExp (pt_cmpR op_ge (pv 1) pe_int (nomark _)) (pe_lst (pa_cons (pv 1) (pa_cons pe_int (pa_cons pe_int (pa_cons pe_int (pa_cons (pv 1) (pa_cons pe_int pa_nil))))))) (pe_listRg rfl (by rfl) m_list (prg_1 (by rfl) m_range (pe_op op_addA (pv 1) pe_int))))) (pss_one (ps_ret (pe_tupK (pa_cons (pe_ok o__law_one hr hg (by rfl) (pa_cons (pv 0) (pa_cons (pe_lst (pa_cons pe_int (pa_cons pe_int (pa_cons pe_int (pa_cons pe_int (pa_cons pe_int pa_nil)))))) pa_nil))) (pa_cons (pe_ok o__law_one hr hg (by rfl) (pa_cons (pv 0) (pa_cons (pv 2) pa_nil))) pa_nil)))))))
    (ls_seq (ls_set 2 (le_if (lt_test (le_op lr_ge (le_var 1) (le_int 3))) (le_ofN (ln_lst (ld_cons (le_var 1) (ld_cons (le_int 2) (ld_cons (le_int 3) (ld_cons (le_int 1) (ld_cons (le_var 1) (ld_cons (le_int 0) ld_nil)))))))) (le_ofN (ln_listRg (le_op lr_add (le_var 1) (le_int 1)))))) (ls_ret (le_tup (ld_cons (le_call (fa := a__law_one) (la_o 0 (la_d (le_ofN (ln_lst (ld_cons (le_int 2) (ld_cons (le_int 3) (ld_cons (le_int 2) (ld_cons (le_int 5) (ld_cons (le_int 7) ld_nil))))))) la_nil))) (ld_cons (le_call (fa := a__law_one) (la_o 0 (la_d (le_var 2) la_nil))) ld_nil))))) ?_
  exact does

abbrev s_L_sum : Stmt := topS 50
abbrev N_L_sum : List Str := ["_law_bag_here", "_law_house_here", "_law_items", "_law_turn"]
abbrev p_L_sum : List Str := ["_law_bag_here", "_law_house_here"]
theorem sc_L_sum : FnScope N_L_sum p_L_sum (defScope s_L_sum) := ⟨rfl, rfl, rfl, by decide +kernel, rfl, by decide +kernel, by decide +kernel⟩
def A_L_sum (a__law_one : AF) (a__law_take : AF) : AS := (aSeq (aSetN 2 (aRep (aLst (aCons (aC (.int 0)) aNil)) (aOp fIx (aVar 1) (aC (.int 1))))) (aSeq (aFor (aRng1 (aCall a__law_one (aaO 0 (aaD (aOfN (aLst (aCons (aC (.int 1)) (aCons (aC (.int 2)) (aCons (aC (.int 1)) (aCons (aC (.int 2)) (aCons (aC (.int 3)) (aCons (aC (.int 8)) (aCons (aC (.int 0)) aNil))))))))) aaNil)))) (aName 3) (aIfS (aTest (aOp fGt (aOp fIx (aVar 1) (aC (.int 1))) (aC (.int 0)))) (aPutL 2 (aCall a__law_take (aaO 0 (aaD (aOp fIx (aVar 1) (aC (.int 1))) aaNil))) (aOp fAdd (aC (.int 1)) (aCall a__law_take (aaO 0 (aaD (aOp fSub (aOp fIx (aVar 1) (aC (.int 0))) (aC (.int 1))) aaNil))))) aNext)) (aRet (aTupO 2))))
theorem g_L_sum {k : Nat} {fa : AF}  (D : Def K mg "_law_sum" p_L_sum s_L_sum) {a__law_one : AF} (o__law_one : Ok P w K mg base k "_law_one" p_L_one a__law_one) {a__law_take : AF} (o__law_take : Ok P w K mg base k "_law_take" p_L_take a__law_take) (m_range : mg "range" = none) (m_tuple : mg "tuple" = none)
    (many : ∀ as Q, fa as Q → as.length = 2)
    (does : ∀ as Q, fa as Q → A_L_sum a__law_one a__law_take { nx := fun sl' => Q .none (finS as sl'), rt := fun d sl' => Q d (finS as sl') } (startS 4 as)) : Ok P w K mg base (k + 1) "_law_sum" p_L_sum fa := by
  have nd := sc_L_sum.nd
  refine Ok.of (N := N_L_sum) D sc_L_sum (by decide) many (fun f cdv A outer s H hr hg =>
    (pss_cons (ps_set (i := 2) nd rfl (by first | exact Or.inl rfl | exact Or.inr rfl) (pe_op op_rep (pe_lst (pa_cons pe_int pa_nil)) (pe_ix ix_seq (pv 1) pe_int (fun _ _ => rfl)))) (pss_cons (ps_for PassesOwn.never rfl (pi_range1 (by rfl) m_range (pa_cons (pe_ok o__law_one hr hg (by rfl) (pa_cons (pv 0) (pa_cons (pe_lst (pa_cons pe_int (pa_cons pe_int (pa_cons pe_int (pa_cons pe_int (pa_cons pe_int (pa_cons pe_int (pa_cons pe_int pa_nil)))))))) pa_nil))) pa_nil)) (pg_name (i := 3) nd rfl (by first | exact Or.inl rfl | exact Or.inr rfl)) (pss_one (ps_if (pt_cmpR op_gt (pe_ix ix_seq (pv 1) pe_int (fun _ _ => rfl)) pe_int (nomark _)) (pss_one (ps_asg (pe_op op_addA pe_int (pe_ok o__law_take hr hg (by rfl) (pa_cons (pv 0) (pa_cons (pe_op op_sub (pe_ix ix_seq (pv 1) pe_int (fun _ _ => rfl)) pe_int) pa_nil)))) (pg_sub (pv 2) (pe_ok o__law_take hr hg (by rfl) (pa_cons (pv 0) (pa_cons (pe_ix ix_seq (pv 1) pe_int (fun _ _ => rfl)) pa_nil))) set_list))) pss_nil))) (pss_one (ps_ret (pe_callTy call_tupK (by rfl) m_tuple b_tuple (pa_cons (pv 2) pa_nil)))))))
    (ls_seq (ls_setN 2 (ln_rep (ln_lst (ld_cons (le_int 0) ld_nil)) (le_op lr_ix (le_var 1) (le_int 1)))) (ls_seq (ls_for (li_rng1 (le_call (fa := a__law_one) (la_o 0 (la_d (le_ofN (ln_lst (ld_cons (le_int 1) (ld_cons (le_int 2) (ld_cons (le_int 1) (ld_cons (le_int 2) (ld_cons (le_int 3) (ld_cons (le_int 8) (ld_cons (le_int 0) ld_nil))))))))) la_nil)))) (lg_name 3) (ls_if (lt_test (le_op lr_gt (le_op lr_ix (le_var 1) (le_int 1)) (le_int 0))) (ls_putL 2 (le_call (fa := a__law_take) (la_o 0 (la_d (le_op lr_ix (le_var 1) (le_int 1)) la_nil))) (le_op lr_add (le_int 1) (le_call (fa := a__law_take) (la_o 0 (la_d (le_op lr_sub (le_op lr_ix (le_var 1) (le_int 0)) (le_int 1)) la_nil))))) ls_next)) (ls_ret (le_tupO 2)))) ?_
  exact does

abbrev s_L_sums : Stmt := topS 51
abbrev N_L_sums : List Str := ["_law_bag_here", "_law_house_here", "_law_many", "_law_found", "_law_turn", "_law_one_here", "_law_other", "_law_both"]
abbrev p_L_sums : List Str := ["_law_bag_here", "_law_house_here", "_law_many"]
theorem sc_L_sums : FnScope N_L_sums p_L_sums (defScope s_L_sums) := ⟨rfl, rfl, rfl, by decide +kernel, rfl, by decide +kernel, by decide +kernel⟩
def A_L_sums (a__law_sum : AF) (a__law_one : AF) (a__law_plus : AF) (a__law_take : AF) : AS := (aSeq (aSetN 3 (aLst (aCons (aCall a__law_sum (aaO 0 (aaD (aVar 1) aaNil))) aNil))) (aSeq (aFor (aRng1 (aOp fSub (aVar 2) (aC (.int 1)))) (aName 4) (aSeq (aPar 5 6 (aCons (aCall a__law_one (aaO 0 (aaO 3 aaNil))) (aCons (aCall a__law_one (aaO 0 (aaO 3 aaNil))) aNil))) (aSeq (aSet 7 (aCB fTuple (aCons (aCall a__law_plus (aaD (aVar 1) (aaD (aVar 5) (aaD (aOp fAdd (aC (.int 1)) (aCall a__law_take (aaO 0 (aaD (aOp fSub (aOp fIx (aVar 1) (aC (.int 0))) (aC (.int 1))) aaNil)))) (aaD (aVar 6) aaNil))))) aNil))) (aApp 3 (aCall a__law_one (aaO 0 (aaD (aOfN (aLst (aCons (aCall a__law_sum (aaO 0 (aaD (aVar 1) aaNil))) (aCons (aCall a__law_sum (aaO 0 (aaD (aVar 1) aaNil))) (aCons (aVar 7) aNil))))) aaNil))))))) (aRet (aFrz 3))))
theorem g_L_sums {k : Nat} {fa : AF}  (D : Def K mg "_law_sums" p_L_sums s_L_sums) {a__law_sum : AF} (o__law_sum : Ok P w K mg base k "_law_sum" p_L_sum a__law_sum) {a__law_one : AF} (o__law_one : Ok P w K mg base k "_law_one" p_L_one a__law_one) {a__law_plus : AF} (o__law_plus : Ok P w K mg base k "_law_plus" p_L_plus a__law_plus) {a__law_take : AF} (o__law_take : Ok P w K mg base k "_law_take" p_L_take a__law_take) (m_range : mg "range" = none) (m_tuple : mg "tuple" = none)
    (many : ∀ as Q, fa as Q → as.length = 3)
    (does : ∀ as Q, fa as Q → A_L_sums a__law_sum a__law_one a__law_plus a__law_take { nx := fun sl' => Q .none (finS as sl'), rt := fun d sl' => Q d (finS as sl') } (startS 8 as)) : Ok P w K mg base (k + 1) "_law_sums" p_L_sums fa := by
  have nd := sc_L_sums.nd
  refine Ok.of (N := N_L_sums) D sc_L_sums (by decide) many (fun f cdv A outer s H hr hg =>
    (pss_cons (ps_set (i := 3) nd rfl (by first | exact Or.inl rfl | exact Or.inr rfl) (pe_lst (pa_cons (pe_ok o__law_sum hr hg (by rfl) (pa_cons (pv 0) (pa_cons (pv 1) pa_nil))) pa_nil))) (pss_cons (ps_for PassesOwn.never rfl (pi_range1 (by rfl) m_range (pa_cons (pe_op op_sub (pv 2) pe_int) pa_nil)) (pg_name (i := 4) nd rfl (by first | exact Or.inl rfl | exact Or.inr rfl)) (pss_cons (ps_par rfl nd rfl rfl (by decide) rfl rfl (pa_cons (pe_ok o__law_one hr hg (by rfl) (pa_cons (pv 0) (pa_cons (pv 3) pa_nil))) (pa_cons (pe_ok o__law_one hr hg (by rfl) (pa_cons (pv 0) (pa_cons (pv 3) pa_nil))) pa_nil)) (by rfl)) (pss_cons (ps_set (i := 7) nd rfl (by first | exact Or.inl rfl | exact Or.inr rfl) (pe_callTy call_tupK (by rfl) m_tuple b_tuple (pa_cons (pe_ok o__law_plus hr hg (by rfl) (pa_cons (pv 1) (pa_cons (pv 5) (pa_cons (pe_op op_addA pe_int (pe_ok o__law_take hr hg (by rfl) (pa_cons (pv 0) (pa_cons (pe_op op_sub (pe_ix ix_seq (pv 1) pe_int (fun _ _ => rfl)) pe_int) pa_nil)))) (pa_cons (pv 6) pa_nil))))) pa_nil))) (pss_one (ps_expr (pe_bm PySem.F.plainAttrs_list PySem.F.slot_list_append PySem.F.type_list_append mt_append (pv 3) (pa_cons (pe_ok o__law_one hr hg (by rfl) (pa_cons (pv 0) (pa_cons (pe_lst (pa_cons (pe_ok o__law_sum hr hg (by rfl) (pa_cons (pv 0) (pa_cons (pv 1) pa_nil))) (pa_cons (pe_ok o__law_sum hr hg (by rfl) (pa_cons (pv 0) (pa_cons (pv 1) pa_nil))) (pa_cons (pv 7) pa_nil)))) pa_nil))) pa_nil))))))) (pss_one (ps_ret (pv 3))))))
    (ls_seq (ls_setN 3 (ln_lst (ld_cons (le_call (fa := a__law_sum) (la_o 0 (la_d (le_var 1) la_nil))) ld_nil))) (ls_seq (ls_for (li_rng1 (le_op lr_sub (le_var 2) (le_int 1))) (lg_name 4) (ls_seq (ls_par 5 6 (ld_cons (le_call (fa := a__law_one) (la_o 0 (la_o 3 la_nil))) (ld_cons (le_call (fa := a__law_one) (la_o 0 (la_o 3 la_nil))) ld_nil))) (ls_seq (ls_set 7 (le_CB lc_tuple (ld_cons (le_call (fa := a__law_plus) (la_d (le_var 1) (la_d (le_var 5) (la_d (le_op lr_add (le_int 1) (le_call (fa := a__law_take) (la_o 0 (la_d (le_op lr_sub (le_op lr_ix (le_var 1) (le_int 0)) (le_int 1)) la_nil)))) (la_d (le_var 6) la_nil))))) ld_nil))) (ls_app 3 (le_call (fa := a__law_one) (la_o 0 (la_d (le_ofN (ln_lst (ld_cons (le_call (fa := a__law_sum) (la_o 0 (la_d (le_var 1) la_nil))) (ld_cons (le_call (fa := a__law_sum) (la_o 0 (la_d (le_var 1) la_nil))) (ld_cons (le_var 7) ld_nil))))) la_nil))))))) (ls_ret (le_frz 3)))) ?_
  exact does

abbrev s_L_deed : Stmt := topS 52
abbrev N_L_deed : List Str := ["_law_bag_here", "_law_house_here", "_law_sums_here", "_law_world_here", "_law_some", "_law_number"]
abbrev p_L_deed : List Str := ["_law_bag_here", "_law_house_here", "_law_sums_here", "_law_world_here"]
theorem sc_L_deed : FnScope N_L_deed p_L_deed (defScope s_L_deed) := ⟨rfl, rfl, rfl, by decide +kernel, rfl, by decide +kernel, by decide +kernel⟩
def A_L_deed (a__law_one : AF) (a__law_take : AF) (a__law_comes_to : AF) : AS := (aSeq (aSet 4 (aCall a__law_one (aaO 0 (aaD (aVar 2) aaNil)))) (aSeq (aIfS (aTest (aOp fLt (aCall a__law_take (aaO 0 (aaD (aC (.int 5)) aaNil))) (aC (.int 2)))) (aRet (aTup (aCons (aC (.str (Str.ofString "ask"))) (aCons (aVar 4) aNil)))) aNext) (aSeq (aSet 5 (aCall a__law_comes_to (aaD (aVar 1) (aaD (aVar 3) (aaD (aVar 4) aaNil))))) (aRet (aTup (aCons (aC (.str (Str.ofString "tell"))) (aCons (aVar 4) (aCons (aIf (aTest (aOp fEq (aCall a__law_take (aaO 0 (aaD (aC (.int 6)) aaNil))) (aC (.int 0)))) (aCall a__law_take (aaO 0 (aaD (aOp fIx (aVar 1) (aC (.int 0))) aaNil))) (aVar 5)) aNil))))))))
theorem g_L_deed {k : Nat} {fa : AF}  (D : Def K mg "_law_deed" p_L_deed s_L_deed) {a__law_one : AF} (o__law_one : Ok P w K mg base k "_law_one" p_L_one a__law_one) {a__law_take : AF} (o__law_take : Ok P w K mg base k "_law_take" p_L_take a__law_take) {a__law_comes_to : AF} (o__law_comes_to : Ok P w K mg base k "_law_comes_to" p_L_comes_to a__law_comes_to) 
    (many : ∀ as Q, fa as Q → as.length = 4)
    (does : ∀ as Q, fa as Q → A_L_deed a__law_one a__law_take a__law_comes_to { nx := fun sl' => Q .none (finS as sl'), rt := fun d sl' => Q d (finS as sl') } (startS 6 as)) : Ok P w K mg base (k + 1) "_law_deed" p_L_deed fa := by
  have nd := sc_L_deed.nd
  refine Ok.of (N := N_L_deed) D sc_L_deed (by decide) many (fun f cdv A outer s H hr hg =>
    (pss_cons (ps_set (i := 4) nd rfl (by first | exact Or.inl rfl | exact Or.inr rfl) (pe_ok o__law_one hr hg (by rfl) (pa_cons (pv 0) (pa_cons (pv 2) pa_nil)))) (pss_cons (ps_if (pt_cmpR op_lt (pe_ok o__law_take hr hg (by rfl) (pa_cons (pv 0) (pa_cons pe_int pa_nil))) pe_int (nomark _)) (pss_one (ps_ret (pe_tupK (pa_cons pe_str (pa_cons (pv 4) pa_nil))))) pss_nil) (pss_cons (ps_set (i := 5) nd rfl (by first | exact Or.inl rfl | exact Or.inr rfl) (pe_ok o__law_comes_to hr hg (by rfl) (pa_cons (pv 1) (pa_cons (pv 3) (pa_cons (pv 4) pa_nil))))) (pss_one (ps_ret (pe_tupK (pa_cons pe_str (pa_cons (pv 4) (pa_cons (pe_ifExp (pt_cmpR (op_eqD (un64 hr)) (pe_ok o__law_take hr hg (by rfl) (pa_cons (pv 0) (pa_cons pe_int pa_nil))) pe_int (nomark _)) (pe_ok o__law_take hr hg (by rfl) (pa_cons (pv 0) (pa_cons (pe_ix ix_seq (pv 1) pe_int (fun _ _ => rfl)) pa_nil))) (pv 5)) pa_nil))))))))))
    (ls_seq (ls_set 4 (le_call (fa := a__law_one) (la_o 0 (la_d (le_var 2) la_nil)))) (ls_seq (ls_if (lt_test (le_op lr_lt (le_call (fa := a__law_take) (la_o 0 (la_d (le_int 5) la_nil))) (le_int 2))) (ls_ret (le_tup (ld_cons (le_str "ask") (ld_cons (le_var 4) ld_nil)))) ls_next) (ls_seq (ls_set 5 (le_call (fa := a__law_comes_to) (la_d (le_var 1) (la_d (le_var 3) (la_d (le_var 4) la_nil))))) (ls_ret (le_tup (ld_cons (le_str "tell") (ld_cons (le_var 4) (ld_cons (le_if (lt_test (le_op lr_eq (le_call (fa := a__law_take) (la_o 0 (la_d (le_int 6) la_nil))) (le_int 0))) (le_call (fa := a__law_take) (la_o 0 (la_d (le_op lr_ix (le_var 1) (le_int 0)) la_nil))) (le_var 5)) ld_nil)))))))) ?_
  exact does

abbrev s_L_world : Stmt := topS 53
abbrev N_L_world : List Str := ["_law_bag_here", "_law_house_here", "_law_unknown"]
abbrev p_L_world : List Str := ["_law_bag_here", "_law_house_here"]
theorem sc_L_world : FnScope N_L_world p_L_world (defScope s_L_world) := ⟨rfl, rfl, rfl, by decide +kernel, rfl, by decide +kernel, by decide +kernel⟩
def A_L_world (a__law_take : AF) : AS := (aRet (aCB fTuple (aCons (aOfN (aLc (aRng1 (aOp fIx (aVar 1) (aC (.int 1)))) (aName 2) aYes (aCall a__law_take (aaO 0 (aaD (aOp fIx (aVar 1) (aC (.int 0))) aaNil))) [2])) aNil)))
theorem g_L_world {k : Nat} {fa : AF}  (D : Def K mg "_law_world" p_L_world s_L_world) {a__law_take : AF} (o__law_take : Ok P w K mg base k "_law_take" p_L_take a__law_take) (m_range : mg "range" = none) (m_tuple : mg "tuple" = none)
    (many : ∀ as Q, fa as Q → as.length = 2)
    (does : ∀ as Q, fa as Q → A_L_world a__law_take { nx := fun sl' => Q .none (finS as sl'), rt := fun d sl' => Q d (finS as sl') } (startS 3 as)) : Ok P w K mg base (k + 1) "_law_world" p_L_world fa := by
  have nd := sc_L_world.nd
  refine Ok.of (N := N_L_world) D sc_L_world (by decide) many (fun f cdv A outer s H hr hg =>
    (pss_one (ps_ret (pe_callTy call_tupK (by rfl) m_tuple b_tuple (pa_cons (pe_lc (own := [("_law_unknown", 2)]) rfl nd (pi_range1 (by rfl) m_range (pa_cons (pe_ix ix_seq (pv 1) pe_int (fun _ _ => rfl)) pa_nil)) (blkOk_by (N := N_L_world) (sc := defScope s_L_world) (by decide +kernel)) (fun _ _ _ _ _ => (pg_name (i := 2) nd rfl (by first | exact Or.inl rfl | exact Or.inr rfl))) (fun _ _ _ _ _ => pts_nil) (fun _ _ _ _ _ => (pe_ok o__law_take hr hg (by rfl) (pa_cons (pv 0) (pa_cons (pe_ix ix_seq (pv 1) pe_int (fun _ _ => rfl)) pa_nil))))) pa_nil)))))
    (ls_ret (le_CB lc_tuple (ld_cons (le_ofN (ln_lc (li_rng1 (le_op lr_ix (le_var 1) (le_int 1))) (lg_name 2) lt_yes (le_call (fa := a__law_take) (la_o 0 (la_d (le_op lr_ix (le_var 1) (le_int 0)) la_nil))))) ld_nil))) ?_
  exact does

abbrev s_L_stretch : Stmt := topS 54
abbrev N_L_stretch : List Str := ["_law_bag_here", "_law_moment", "_law_way", "_law_short", "_law_long"]
abbrev p_L_stretch : List Str := ["_law_bag_here", "_law_moment", "_law_way"]
theorem sc_L_stretch : FnScope N_L_stretch p_L_stretch (defScope s_L_stretch) := ⟨rfl, rfl, rfl, by decide +kernel, rfl, by decide +kernel, by decide +kernel⟩
def A_L_stretch (a__law_one : AF) : AS := (aSeq (aSet 3 (aCall a__law_one (aaO 0 (aaD (aOfN (aLst (aCons (aC (.int 0)) (aCons (aC (.int 1)) (aCons (aC (.int 4)) (aCons (aC (.int 5)) aNil)))))) aaNil)))) (aSeq (aIfS (aTest (aOp fEq (aVar 2) (aC (.int 0)))) (aRet (aTup (aCons (aOp fSub (aVar 1) (aVar 3)) (aCons (aOp fAdd (aVar 1) (aCall a__law_one (aaO 0 (aaD (aOfN (aLst (aCons (aC (.int 0)) (aCons (aC (.int 1)) (aCons (aC (.int 4)) (aCons (aC (.int 5)) aNil)))))) aaNil)))) aNil)))) aNext) (aSeq (aIfS (aTest (aOp fEq (aVar 2) (aC (.int 1)))) (aRet (aTup (aCons (aOp fSub (aVar 1) (aC (.int 5))) (aCons (aOp fAdd (aVar 1) (aCall a__law_one (aaO 0 (aaD (aOfN (aLst (aCons (aC (.int 5)) (aCons (aC (.int 5)) (aCons (aC (.int 4)) aNil))))) aaNil)))) aNil)))) aNext) (aSeq (aSet 4 (aCall a__law_one (aaO 0 (aaD (aOfN (aLst (aCons (aC (.int 9)) (aCons (aC (.int 15)) (aCons (aC (.int 30)) (aCons (aC (.int 10)) (aCons (aC (.int 20)) (aCons (aC (.int 300)) aNil)))))))) aaNil)))) (aSeq (aIfS (aTest (aOp fEq (aVar 2) (aC (.int 2)))) (aRet (aTup (aCons (aOp fSub (aVar 1) (aVar 4)) (aCons (aOp fAdd (aVar 1) (aCall a__law_one (aaO 0 (aaD (aOfN (aLst (aCons (aC (.int 9)) (aCons (aC (.int 15)) (aCons (aC (.int 10)) (aCons (aC (.int 60)) (aCons (aC (.int 300)) aNil))))))) aaNil)))) aNil)))) aNext) (aRet (aTup (aCons (aOp fSub (aVar 1) (aCall a__law_one (aaO 0 (aaD (aOfN (aLst (aCons (aVar 3) (aCons (aVar 4) aNil)))) aaNil)))) (aCons (aCall a__law_one (aaO 0 (aaD (aOfN (aLst (aCons (aOp fAdd (aVar 1) (aVar 4)) (aCons (aOp fAdd (aVar 1) (aVar 3)) (aCons (aOp fAdd (aVar 1) (aC (.int 15))) (aCons (aC .none) aNil)))))) aaNil))) aNil)))))))))
theorem g_L_stretch {k : Nat} {fa : AF}  (D : Def K mg "_law_stretch" p_L_stretch s_L_stretch) {a__law_one : AF} (o__law_one : Ok P w K mg base k "_law_one" p_L_one a__law_one) 
    (many : ∀ as Q, fa as Q → as.length = 3)
    (does : ∀ as Q, fa as Q → A_L_stretch a__law_one { nx := fun sl' => Q .none (finS as sl'), rt := fun d sl' => Q d (finS as sl') } (startS 5 as)) : Ok P w K mg base (k + 1) "_law_stretch" p_L_stretch fa := by
  have nd := sc_L_stretch.nd
  refine Ok.of (N := N_L_stretch) D sc_L_stretch (by decide) many (fun f cdv A outer s H hr hg =>
    (pss_cons (ps_set (i := 3) nd rfl (by first | exact Or.inl rfl | exact Or.inr rfl) (pe_ok o__law_one hr hg (by rfl) (pa_cons (pv 0) (pa_cons (pe_lst (pa_cons pe_int (pa_cons pe_int (pa_cons pe_int (pa_cons pe_int pa_nil))))) pa_nil)))) (pss_cons (ps_if (pt_cmpR (op_eqD (un64 hr)) (pv 2) pe_int (nomark _)) (pss_one (ps_ret (pe_tupK (pa_cons (pe_op op_sub (pv 1) (pv 3)) (pa_cons (pe_op op_addA (pv 1) (pe_ok o__law_one hr hg (by rfl) (pa_cons (pv 0) (pa_cons (pe_lst (pa_cons pe_int (pa_cons pe_int (pa_cons pe_int (pa_cons pe_int pa_nil))))) pa_nil)))) pa_nil))))) pss_nil) (pss_cons (ps_if (pt_cmpR (op_eqD (un64 hr)) (pv 2) pe_int (nomark _)) (pss_one (ps_ret (pe_tupK (pa_cons (pe_op op_sub (pv 1) pe_int) (pa_cons (pe_op op_addA (pv 1) (pe_ok o__law_one hr hg (by rfl) (pa_cons (pv 0) (pa_cons (pe_lst (pa_cons pe_int (pa_cons pe_int (pa_cons pe_int pa_nil)))) pa_nil)))) pa_nil))))) pss_nil) (pss_cons (ps_set (i := 4) nd rfl (by first | exact Or.inl rfl | exact Or.inr rfl) (pe_ok o__law_one hr hg (by rfl) (pa_cons (pv 0) (pa_cons (pe_lst (pa_cons pe_int (pa_cons pe_int (pa_cons pe_int (pa_cons pe_int (pa_cons pe_int (pa_cons pe_int pa_nil))))))) pa_nil)))) (pss_cons (ps_if (pt_cmpR (op_eqD (un64 hr)) (pv 2) pe_int (nomark _)) (pss_one (ps_ret (pe_tupK (pa_cons (pe_op op_sub (pv 1) (pv 4)) (pa_cons (pe_op op_addA (pv 1) (pe_ok o__law_one hr hg (by rfl) (pa_cons (pv 0) (pa_cons (pe_lst (pa_cons pe_int (pa_cons pe_int (pa_cons pe_int (pa_cons pe_int (pa_cons pe_int pa_nil)))))) pa_nil)))) pa_nil))))) pss_nil) (pss_one (ps_ret (pe_tupK (pa_cons (pe_op op_sub (pv 1) (pe_ok o__law_one hr hg (by rfl) (pa_cons (pv 0) (pa_cons (pe_lst (pa_cons (pv 3) (pa_cons (pv 4) pa_nil))) pa_nil)))) (pa_cons (pe_ok o__law_one hr hg (by rfl) (pa_cons (pv 0) (pa_cons (pe_lst (pa_cons (pe_op op_addA (pv 1) (pv 4)) (pa_cons (pe_op op_addA (pv 1) (pv 3)) (pa_cons (pe_op op_addA (pv 1) pe_int) (pa_cons pe_non pa_nil))))) pa_nil))) pa_nil)))))))))))
    (ls_seq (ls_set 3 (le_call (fa := a__law_one) (la_o 0 (la_d (le_ofN (ln_lst (ld_cons (le_int 0) (ld_cons (le_int 1) (ld_cons (le_int 4) (ld_cons (le_int 5) ld_nil)))))) la_nil)))) (ls_seq (ls_if (lt_test (le_op lr_eq (le_var 2) (le_int 0))) (ls_ret (le_tup (ld_cons (le_op lr_sub (le_var 1) (le_var 3)) (ld_cons (le_op lr_add (le_var 1) (le_call (fa := a__law_one) (la_o 0 (la_d (le_ofN (ln_lst (ld_cons (le_int 0) (ld_cons (le_int 1) (ld_cons (le_int 4) (ld_cons (le_int 5) ld_nil)))))) la_nil)))) ld_nil)))) ls_next) (ls_seq (ls_if (lt_test (le_op lr_eq (le_var 2) (le_int 1))) (ls_ret (le_tup (ld_cons (le_op lr_sub (le_var 1) (le_int 5)) (ld_cons (le_op lr_add (le_var 1) (le_call (fa := a__law_one) (la_o 0 (la_d (le_ofN (ln_lst (ld_cons (le_int 5) (ld_cons (le_int 5) (ld_cons (le_int 4) ld_nil))))) la_nil)))) ld_nil)))) ls_next) (ls_seq (ls_set 4 (le_call (fa := a__law_one) (la_o 0 (la_d (le_ofN (ln_lst (ld_cons (le_int 9) (ld_cons (le_int 15) (ld_cons (le_int 30) (ld_cons (le_int 10) (ld_cons (le_int 20) (ld_cons (le_int 300) ld_nil)))))))) la_nil)))) (ls_seq (ls_if (lt_test (le_op lr_eq (le_var 2) (le_int 2))) (ls_ret (le_tup (ld_cons (le_op lr_sub (le_var 1) (le_var 4)) (ld_cons (le_op lr_add (le_var 1) (le_call (fa := a__law_one) (la_o 0 (la_d (le_ofN (ln_lst (ld_cons (le_int 9) (ld_cons (le_int 15) (ld_cons (le_int 10) (ld_cons (le_int 60) (ld_cons (le_int 300) ld_nil))))))) la_nil)))) ld_nil)))) ls_next) (ls_ret (le_tup (ld_cons (le_op lr_sub (le_var 1) (le_call (fa := a__law_one) (la_o 0 (la_d (le_ofN (ln_lst (ld_cons (le_var 3) (ld_cons (le_var 4) ld_nil)))) la_nil)))) (ld_cons (le_call (fa := a__law_one) (la_o 0 (la_d (le_ofN (ln_lst (ld_cons (le_op lr_add (le_var 1) (le_var 4)) (ld_cons (le_op lr_add (le_var 1) (le_var 3)) (ld_cons (le_op lr_add (le_var 1) (le_int 15)) (ld_cons le_non ld_nil)))))) la_nil))) ld_nil))))))))) ?_
  exact does

abbrev s_L_history : Stmt := topS 55
abbrev N_L_history : List Str := ["_law_bag_here", "_law_house_here", "_law_most", "_law_many", "_law_world_here", "_law_sums_here", "_law_deeds", "_law_answers", "_law_way", "_law_places", "_law_calls", "_law_place", "_law_begin", "_law_end", "_law_turn"]
abbrev p_L_history : List Str := ["_law_bag_here", "_law_house_here", "_law_most"]
theorem sc_L_history : FnScope N_L_history p_L_history (defScope s_L_history) := ⟨rfl, rfl, rfl, by decide +kernel, rfl, by decide +kernel, by decide +kernel⟩
def A_L_history (a__law_one : AF) (a__law_take : AF) (a__law_world : AF) (a__law_sums : AF) (a__law_deed : AF) (a__law_answers_by : AF) (a__law_mixed : AF) (a__law_stretch : AF) : AS := (aSeq (aGSet (aGTup 2 (aGCons (aName 3) (aGCons (aName 4) aGNil))) (aTup (aCons (aCall a__law_one (aaO 0 (aaD (aOfN (aLst (aCons (aVar 2) (aCons (aVar 2) (aCons (aOp fSub (aVar 2) (aC (.int 1))) (aCons (aOp fFdiv (aVar 2) (aC (.int 2))) (aCons (aCall a__law_take (aaO 0 (aaD (aOp fAdd (aVar 2) (aC (.int 1))) aaNil))) aNil))))))) aaNil))) (aCons (aCall a__law_world (aaO 0 (aaD (aVar 1) aaNil))) aNil)))) (aSeq (aSet 5 (aCall a__law_sums (aaO 0 (aaD (aVar 1) (aaD (aCall a__law_one (aaO 0 (aaD (aOfN (aLst (aCons (aC (.int 2)) (aCons (aC (.int 3)) (aCons (aC (.int 4)) (aCons (aC (.int 6)) aNil)))))) aaNil))) aaNil))))) (aSeq (aSet 6 (aOfN (aLc (aRng1 (aVar 3)) (aName 14) aYes (aCall a__law_deed (aaO 0 (aaD (aVar 1) (aaD (aVar 5) (aaD (aVar 4) aaNil))))) [14]))) (aSeq (aPar 7 8 (aCons (aCall a__law_answers_by (aaD (aVar 1) (aaD (aVar 6) aaNil))) (aCons (aCall a__law_one (aaO 0 (aaD (aOfN (aLst (aCons (aC (.int 2)) (aCons (aC (.int 3)) (aCons (aC (.int 3)) (aCons (aC (.int 2)) (aCons (aC (.int 1)) (aCons (aC (.int 0)) aNil)))))))) aaNil))) aNil))) (aSeq (aSet 9 (aCall a__law_mixed (aaO 0 (aaD (aOfN (aListRg (aVar 3))) aaNil)))) (aSeq (aSetN 10 (aLst aNil)) (aSeq (aFor (aSeqI (aVar 9)) (aName 11) (aSeq (aGSet (aGTup 2 (aGCons (aName 12) (aGCons (aName 13) aGNil))) (aCall a__law_stretch (aaO 0 (aaD (aOp fMul (aC (.int 10)) (aVar 11)) (aaD (aIf (aTest (aOp fGt (aCall a__law_take (aaO 0 (aaD (aC (.int 4)) aaNil))) (aC (.int 0)))) (aVar 8) (aCall a__law_take (aaO 0 (aaD (aC (.int 4)) aaNil)))) aaNil))))) (aApp 10 (aTup (aCons (aOp fIx (aVar 6) (aVar 11)) (aCons (aVar 12) (aCons (aVar 13) (aCons (aOp fIx (aVar 7) (aVar 11)) aNil)))))))) (aRet (aTup (aCons (aTup (aCons (aVar 1) (aCons (aTupO 10) aNil))) (aCons (aCB fTuple (aCons (aOfN (aLc (aRng1 (aVar 3)) (aName 11) aYes (aIndex (aVar 9) (aVar 11)) [11])) aNil)) aNil)))))))))))
theorem g_L_history {k : Nat} {fa : AF}  (D : Def K mg "_law_history" p_L_history s_L_history) {a__law_one : AF} (o__law_one : Ok P w K mg base k "_law_one" p_L_one a__law_one) {a__law_take : AF} (o__law_take : Ok P w K mg base k "_law_take" p_L_take a__law_take) {a__law_world : AF} (o__law_world : Ok P w K mg base k "_law_world" p_L_world a__law_world) {a__law_sums : AF} (o__law_sums : Ok P w K mg base k "_law_sums" p_L_sums a__law_sums) {a__law_deed : AF} (o__law_deed : Ok P w K mg base k "_law_deed" p_L_deed a__law_deed) {a__law_answers_by : AF} (o__law_answers_by : Ok P w K mg base k "_law_answers_by" p_L_answers_by a__law_answers_by) {a__law_mixed : AF} (o__law_mixed : Ok P w K mg base k "_law_mixed" p_L_mixed a__law_mixed) {a__law_stretch : AF} (o__law_stretch : Ok P w K mg base k "_law_stretch" p_L_stretch a__law_stretch) (m_range : mg "range" = none) (m_list : mg "list" = none) (m_tuple : mg "tuple" = none)
    (many : ∀ as Q, fa as Q → as.length = 3)
    (does : ∀ as Q, fa as Q → A_L_history a__law_one a__law_take a__law_world a__law_sums a__law_deed a__law_answers_by a__law_mixed a__law_stretch { nx := fun sl' => Q .none (finS as sl'), rt := fun d sl' => Q d (finS as sl') } (startS 15 as)) : Ok P w K mg base (k + 1) "_law_history" p_L_history fa := by
  have nd := sc_L_history.nd
  refine Ok.of (N := N_L_history) D sc_L_history (by decide) many (fun f cdv A outer s H hr hg =>
    (pss_cons (ps_asg (pe_tupK (pa_cons (pe_ok o__law_one hr hg (by rfl) (pa_cons (pv 0) (pa_cons (pe_lst (pa_cons (pv 2) (pa_cons (pv 2) (pa_cons (pe_op op_sub (pv 2) pe_int) (pa_cons (pe_op op_fdivN (pv 2) pe_int) (pa_cons (pe_ok o__law_take hr hg (by rfl) (pa_cons (pv 0) (pa_cons (pe_op op_addA (pv 2) pe_int) pa_nil))) pa_nil)))))) pa_nil))) (pa_cons (pe_ok o__law_world hr hg (by rfl) (pa_cons (pv 0) (pa_cons (pv 1) pa_nil))) pa_nil))) (pg_tup (n := 2) rfl (pgs_cons (pg_name (i := 3) nd rfl (by first | exact Or.inl rfl | exact Or.inr rfl)) (pgs_cons (pg_name (i := 4) nd rfl (by first | exact Or.inl rfl | exact Or.inr rfl)) pgs_nil)))) (pss_cons (ps_set (i := 5) nd rfl (by first | exact Or.inl rfl | exact Or.inr rfl) (pe_ok o__law_sums hr hg (by rfl) (pa_cons (pv 0) (pa_cons (pv 1) (pa_cons (pe_ok o__law_one hr hg (by rfl) (pa_cons (pv 0) (pa_cons (pe_lst (pa_cons pe_int (pa_cons pe_int (pa_cons pe_int (pa_cons pe_int pa_nil))))) pa_nil))) pa_nil))))) (pss_cons (ps_setLc (i := 6) (own := [("_law_turn", 14)]) rfl nd rfl rfl (sw_true rfl rfl rfl (by decide +kernel)) (pi_range1 (by rfl) m_range (pa_cons (pv 3) pa_nil)) (blkOk_by (N := N_L_history) (sc := defScope s_L_history) (by decide +kernel)) (fun _ _ _ _ _ => (pg_name (i := 14) nd rfl (by first | exact Or.inl rfl | exact Or.inr rfl))) (fun _ _ _ _ _ => pts_nil) (fun _ _ _ _ _ => (pe_ok o__law_deed hr hg (by rfl) (pa_cons (pv 0) (pa_cons (pv 1) (pa_cons (pv 5) (pa_cons (pv 4) pa_nil))))))) (pss_cons (ps_par rfl nd rfl rfl (by decide) rfl rfl (pa_cons (pe_ok o__law_answers_by hr hg (by rfl) (pa_cons (pv 1) (pa_cons (pv 6) pa_nil))) (pa_cons (pe_ok o__law_one hr hg (by rfl) (pa_cons (pv 0) (pa_cons (pe_lst (pa_cons pe_int (pa_cons pe_int (pa_cons pe_int (pa_cons pe_int (pa_cons pe_int (pa_cons pe_int pa_nil))))))) pa_nil))) pa_nil)) (by rfl)) (pss_cons (ps_set (i := 9) nd rfl (by first | exact Or.inl rfl | exact Or.inr rfl) (pe_ok o__law_mixed hr hg (by rfl) (pa_cons (pv 0) (pa_cons (pe_listRg rfl (by rfl) m_list (prg_1 (by rfl) m_range (pv 3))) pa_nil)))) (pss_cons (ps_set (i := 10) nd rfl (by first | exact Or.inl rfl | exact Or.inr rfl) (pe_lst pa_nil)) (pss_cons (ps_for PassesOwn.never rfl (pi_seq (pv 9)) (pg_name (i := 11) nd rfl (by first | exact Or.inl rfl | exact Or.inr rfl)) (pss_cons (ps_asg (pe_ok o__law_stretch hr hg (by rfl) (pa_cons (pv 0) (pa_cons (pe_op op_mulA pe_int (pv 11)) (pa_cons (pe_ifExp (pt_cmpR op_gt (pe_ok o__law_take hr hg (by rfl) (pa_cons (pv 0) (pa_cons pe_int pa_nil))) pe_int (nomark _)) (pv 8) (pe_ok o__law_take hr hg (by rfl) (pa_cons (pv 0) (pa_cons pe_int pa_nil)))) pa_nil)))) (pg_tup (n := 2) rfl (pgs_cons (pg_name (i := 12) nd rfl (by first | exact Or.inl rfl | exact Or.inr rfl)) (pgs_cons (pg_name (i := 13) nd rfl (by first | exact Or.inl rfl | exact Or.inr rfl)) pgs_nil)))) (pss_one (ps_expr (pe_bm PySem.F.plainAttrs_list PySem.F.slot_list_append PySem.F.type_list_append mt_append (pv 10) (pa_cons (pe_tupK (pa_cons (pe_ix ix_seq (pv 6) (pv 11) (fun _ _ => rfl)) (pa_cons (pv 12) (pa_cons (pv 13) (pa_cons (pe_ix ix_seq (pv 7) (pv 11) (fun _ _ => rfl)) pa_nil))))) pa_nil)))))) (pss_one (ps_ret (pe_tupK (pa_cons (pe_tupK (pa_cons (pv 1) (pa_cons (pe_callTy call_tupK (by rfl) m_tuple b_tuple (pa_cons (pv 10) pa_nil)) pa_nil))) (pa_cons (pe_callTy call_tupK (by rfl) m_tuple b_tuple (pa_cons (pe_lc (own := [("_law_place", 11)]) rfl nd (pi_range1 (by rfl) m_range (pa_cons (pv 3) pa_nil)) (blkOk_by (N := N_L_history) (sc := defScope s_L_history) (by decide +kernel)) (fun _ _ _ _ _ => (pg_name (i := 11) nd rfl (by first | exact Or.inl rfl | exact Or.inr rfl))) (fun _ _ _ _ _ => pts_nil) (fun _ _ _ _ _ => (pe_bm PySem.F.plainAttrs_list PySem.F.slot_list_index PySem.F.type_list_index mt_index (pv 9) (pa_cons (pv 11) pa_nil)))) pa_nil)) pa_nil)))))))))))))
    (ls_seq (ls_asg (le_tup (ld_cons (le_call (fa := a__law_one) (la_o 0 (la_d (le_ofN (ln_lst (ld_cons (le_var 2) (ld_cons (le_var 2) (ld_cons (le_op lr_sub (le_var 2) (le_int 1)) (ld_cons (le_op lr_fdiv (le_var 2) (le_int 2)) (ld_cons (le_call (fa := a__law_take) (la_o 0 (la_d (le_op lr_add (le_var 2) (le_int 1)) la_nil))) ld_nil))))))) la_nil))) (ld_cons (le_call (fa := a__law_world) (la_o 0 (la_d (le_var 1) la_nil))) ld_nil))) (lg_tup (lgs_cons (lg_name 3) (lgs_cons (lg_name 4) lgs_nil)))) (ls_seq (ls_set 5 (le_call (fa := a__law_sums) (la_o 0 (la_d (le_var 1) (la_d (le_call (fa := a__law_one) (la_o 0 (la_d (le_ofN (ln_lst (ld_cons (le_int 2) (ld_cons (le_int 3) (ld_cons (le_int 4) (ld_cons (le_int 6) ld_nil)))))) la_nil))) la_nil))))) (ls_seq (ls_set 6 (le_ofN (ln_lc (li_rng1 (le_var 3)) (lg_name 14) lt_yes (le_call (fa := a__law_deed) (la_o 0 (la_d (le_var 1) (la_d (le_var 5) (la_d (le_var 4) la_nil)))))))) (ls_seq (ls_par 7 8 (ld_cons (le_call (fa := a__law_answers_by) (la_d (le_var 1) (la_d (le_var 6) la_nil))) (ld_cons (le_call (fa := a__law_one) (la_o 0 (la_d (le_ofN (ln_lst (ld_cons (le_int 2) (ld_cons (le_int 3) (ld_cons (le_int 3) (ld_cons (le_int 2) (ld_cons (le_int 1) (ld_cons (le_int 0) ld_nil)))))))) la_nil))) ld_nil))) (ls_seq (ls_set 9 (le_call (fa := a__law_mixed) (la_o 0 (la_d (le_ofN (ln_listRg (le_var 3))) la_nil)))) (ls_seq (ls_setN 10 (ln_lst ld_nil)) (ls_seq (ls_for (li_seq (le_var 9)) (lg_name 11) (ls_seq (ls_asg (le_call (fa := a__law_stretch) (la_o 0 (la_d (le_op lr_mul (le_int 10) (le_var 11)) (la_d (le_if (lt_test (le_op lr_gt (le_call (fa := a__law_take) (la_o 0 (la_d (le_int 4) la_nil))) (le_int 0))) (le_var 8) (le_call (fa := a__law_take) (la_o 0 (la_d (le_int 4) la_nil)))) la_nil)))) (lg_tup (lgs_cons (lg_name 12) (lgs_cons (lg_name 13) lgs_nil)))) (ls_app 10 (le_tup (ld_cons (le_op lr_ix (le_var 6) (le_var 11)) (ld_cons (le_var 12) (ld_cons (le_var 13) (ld_cons (le_op lr_ix (le_var 7) (le_var 11)) ld_nil)))))))) (ls_ret (le_tup (ld_cons (le_tup (ld_cons (le_var 1) (ld_cons (le_tupO 10) ld_nil))) (ld_cons (le_CB lc_tuple (ld_cons (le_ofN (ln_lc (li_rng1 (le_var 3)) (lg_name 11) lt_yes (le_index (le_var 9) (le_var 11)))) ld_nil)) ld_nil))))))))))) ?_
  exact does

abbrev s_L_put : Stmt := topS 56
abbrev N_L_put : List Str := ["_law_items", "_law_index", "_law_item"]
abbrev p_L_put : List Str := ["_law_items", "_law_index", "_law_item"]
theorem sc_L_put : FnScope N_L_put p_L_put (defScope s_L_put) := ⟨rfl, rfl, rfl, by decide +kernel, rfl, by decide +kernel, by decide +kernel⟩
def A_L_put  : AS := (aRet (aOp fAdd (aOp fAdd (aSl (aVar 0) aNoPart (aPart (aVar 1))) (aTup (aCons (aVar 2) aNil))) (aSl (aVar 0) (aPart (aOp fAdd (aVar 1) (aC (.int 1)))) aNoPart)))
theorem g_L_put {k : Nat} {fa : AF}  (D : Def K mg "_law_put" p_L_put s_L_put)  
    (many : ∀ as Q, fa as Q → as.length = 3)
    (does : ∀ as Q, fa as Q → A_L_put  { nx := fun sl' => Q .none (finS as sl'), rt := fun d sl' => Q d (finS as sl') } (startS 3 as)) : Ok P w K mg base (k + 1) "_law_put" p_L_put fa := by
  have nd := sc_L_put.nd
  refine Ok.of (N := N_L_put) D sc_L_put (by decide) many (fun f cdv A outer s H hr hg =>
    (pss_one (ps_ret (pe_op op_addA (pe_op op_addA (pe_slice sl_any (pv 0) po_none (po_some (pv 1))) (pe_tupK (pa_cons (pv 2) pa_nil))) (pe_slice sl_any (pv 0) (po_some (pe_op op_addA (pv 1) pe_int)) po_none)))))
    (ls_ret (le_op lr_add (le_op lr_add (le_sl (le_var 0) lo_none (lo_some (le_var 1))) (le_tup (ld_cons (le_var 2) ld_nil))) (le_sl (le_var 0) (lo_some (le_op lr_add (le_var 1) (le_int 1))) lo_none))) ?_
  exact does

abbrev s_L_other_answer : Stmt := topS 57
abbrev N_L_other_answer : List Str := ["_law_bag_here", "_law_house_here", "_law_call", "_law_menu", "_law_one_here"]
abbrev p_L_other_answer : List Str := ["_law_bag_here", "_law_house_here", "_law_call"]
theorem sc_L_other_answer : FnScope N_L_other_answer p_L_other_answer (defScope s_L_other_answer) := ⟨rfl, rfl, rfl, by decide +kernel, rfl, by decide +kernel, by decide +kernel⟩
def A_L_other_answer (a__law_one : AF) (a__law_alike : AF) : AS := (aSeq (aSet 3 (aIf (aTest (aOp fEq (aOp fIx (aOp fIx (aVar 2) (aC (.int 0))) (aC (.int 0))) (aC (.str (Str.ofString "tell"))))) (aOfN (aLst (aCons (aC (.str (Str.ofString "new"))) (aCons (aC (.str (Str.ofString "known"))) (aCons (aC (.str (Str.ofString "clash"))) aNil))))) (aOp fAdd (aOfN (aLst (aCons (aC (.str (Str.ofString "open"))) aNil))) (aOfN (aListRg (aOp fIx (aVar 1) (aC (.int 0)))))))) (aRet (aCall a__law_one (aaO 0 (aaD (aOfN (aLc (aSeqI (aVar 3)) (aName 4) (aNot (aTest (aCall a__law_alike (aaD (aVar 4) (aaD (aOp fIx (aVar 2) (aC (.int 3))) aaNil))))) (aVar 4) [4])) aaNil)))))
theorem g_L_other_answer {k : Nat} {fa : AF}  (D : Def K mg "_law_other_answer" p_L_other_answer s_L_other_answer) {a__law_one : AF} (o__law_one : Ok P w K mg base k "_law_one" p_L_one a__law_one) {a__law_alike : AF} (o__law_alike : Ok P w K mg base k "_law_alike" p_L_alike a__law_alike) (m_list : mg "list" = none) (m_range : mg "range" = none)
    (many : ∀ as Q, fa as Q → as.length = 3)
    (does : ∀ as Q, fa as Q → A_L_other_answer a__law_one a__law_alike { nx := fun sl' => Q .none (finS as sl'), rt := fun d sl' => Q d (finS as sl') } (startS 5 as)) : Ok P w K mg base (k + 1) "_law_other_answer" p_L_other_answer fa := by
  have nd := sc_L_other_answer.nd
  refine Ok.of (N := N_L_other_answer) D sc_L_other_answer (by decide) many (fun f cdv A outer s H hr hg =>
    (pss_cons (ps_set (i := 3) nd rfl (by first | exact Or.inl rfl | exact Or.inr rfl) (pe_ifExp (pt_cmpR (op_eqD (un64 hr)) (pe_ix ix_seq (pe_ix ix_seq (pv 2) pe_int (fun _ _ => rfl)) pe_int (fun _ _ => rfl)) pe_str (nomark _)) (pe_lst (pa_cons pe_str (pa_cons pe_str (pa_cons pe_str pa_nil)))) (pe_op op_addA (pe_lst (pa_cons pe_str pa_nil)) (pe_listRg rfl (by rfl) m_list (prg_1 (by rfl) m_range (pe_ix ix_seq (pv 1) pe_int (fun _ _ => rfl))))))) (pss_one (ps_ret (pe_ok o__law_one hr hg (by rfl) (pa_cons (pv 0) (pa_cons (pe_lc (own := [("_law_one_here", 4)]) rfl nd (pi_seq (pv 3)) (blkOk_by (N := N_L_other_answer) (sc := defScope s_L_other_answer) (by decide +kernel)) (fun _ _ _ _ _ => (pg_name (i := 4) nd rfl (by first | exact Or.inl rfl | exact Or.inr rfl))) (fun _ _ _ _ _ => (pts_one (pt_not (pt_val (pe_ok o__law_alike hr hg (by rfl) (pa_cons (pv 4) (pa_cons (pe_ix ix_seq (pv 2) pe_int (fun _ _ => rfl)) pa_nil))))))) (fun _ _ _ _ _ => (pv 4))) pa_nil)))))))
    (ls_seq (ls_set 3 (le_if (lt_test (le_op lr_eq (le_op lr_ix (le_op lr_ix (le_var 2) (le_int 0)) (le_int 0)) (le_str "tell"))) (le_ofN (ln_lst (ld_cons (le_str "new") (ld_cons (le_str "known") (ld_cons (le_str "clash") ld_nil))))) (le_op lr_add (le_ofN (ln_lst (ld_cons (le_str "open") ld_nil))) (le_ofN (ln_listRg (le_op lr_ix (le_var 1) (le_int 0))))))) (ls_ret (le_call (fa := a__law_one) (la_o 0 (la_d (le_ofN (ln_lc (li_seq (le_var 3)) (lg_name 4) (lt_not (lt_B (le_call (fa := a__law_alike) (la_d (le_var 4) (la_d (le_op lr_ix (le_var 2) (le_int 3)) la_nil))))) (le_var 4))) la_nil))))) ?_
  exact does

abbrev s_L_is_ahead : Stmt := topS 58
abbrev N_L_is_ahead : List Str := ["_law_calls", "_law_one_here", "_law_other"]
abbrev p_L_is_ahead : List Str := ["_law_calls", "_law_one_here", "_law_other"]
theorem sc_L_is_ahead : FnScope N_L_is_ahead p_L_is_ahead (defScope s_L_is_ahead) := ⟨rfl, rfl, rfl, by decide +kernel, rfl, by decide +kernel, by decide +kernel⟩
def A_L_is_ahead  : AS := (aRet (aAndV (aNotN (aOp fIx (aOp fIx (aVar 0) (aVar 1)) (aC (.int 2)))) (aOp fLt (aOp fIx (aOp fIx (aVar 0) (aVar 1)) (aC (.int 2))) (aOp fIx (aOp fIx (aVar 0) (aVar 2)) (aC (.int 1))))))
theorem g_L_is_ahead {k : Nat} {fa : AF}  (D : Def K mg "_law_is_ahead" p_L_is_ahead s_L_is_ahead)  
    (many : ∀ as Q, fa as Q → as.length = 3)
    (does : ∀ as Q, fa as Q → A_L_is_ahead  { nx := fun sl' => Q .none (finS as sl'), rt := fun d sl' => Q d (finS as sl') } (startS 3 as)) : Ok P w K mg base (k + 1) "_law_is_ahead" p_L_is_ahead fa := by
  have nd := sc_L_is_ahead.nd
  refine Ok.of (N := N_L_is_ahead) D sc_L_is_ahead (by decide) many (fun f cdv A outer s H hr hg =>
    (pss_one (ps_ret (pe_and (pe_cmp (pc_notN (pe_ix ix_seq (pe_ix ix_seq (pv 0) (pv 1) (fun _ _ => rfl)) pe_int (fun _ _ => rfl)))) (pe_one (pe_cmpR op_lt (pe_ix ix_seq (pe_ix ix_seq (pv 0) (pv 1) (fun _ _ => rfl)) pe_int (fun _ _ => rfl)) (pe_ix ix_seq (pe_ix ix_seq (pv 0) (pv 2) (fun _ _ => rfl)) pe_int (fun _ _ => rfl)) (nomark _)))))))
    (ls_ret (le_andV (le_notN (le_op lr_ix (le_op lr_ix (le_var 0) (le_var 1)) (le_int 2))) (le_op lr_lt (le_op lr_ix (le_op lr_ix (le_var 0) (le_var 1)) (le_int 2)) (le_op lr_ix (le_op lr_ix (le_var 0) (le_var 2)) (le_int 1))))) ?_
  exact does

abbrev s_L_is_weaving : Stmt := topS 59
abbrev N_L_is_weaving : List Str := ["_law_history_here", "_law_order", "_law_house_here", "_law_calls", "_law_found", "_law_index"]
abbrev p_L_is_weaving : List Str := ["_law_history_here", "_law_order"]
theorem sc_L_is_weaving : FnScope N_L_is_weaving p_L_is_weaving (defScope s_L_is_weaving) := ⟨rfl, rfl, rfl, by decide +kernel, rfl, by decide +kernel, by decide +kernel⟩
def A_L_is_weaving (a__law_answers_by : AF) (a__law_alike : AF) : AS := (aSeq (aGSet (aGTup 2 (aGCons (aName 2) (aGCons (aName 3) aGNil))) (aVar 0)) (aSeq (aSet 4 (aCall a__law_answers_by (aaD (aVar 2) (aaD (aOfN (aLc (aSeqI (aVar 1)) (aName 5) aYes (aOp fIx (aOp fIx (aVar 3) (aVar 5)) (aC (.int 0))) [5])) aaNil)))) (aRet (aCall a__law_alike (aaD (aVar 4) (aaD (aOfN (aLc (aSeqI (aVar 1)) (aName 5) aYes (aOp fIx (aOp fIx (aVar 3) (aVar 5)) (aC (.int 3))) [5])) aaNil))))))
theorem g_L_is_weaving {k : Nat} {fa : AF}  (D : Def K mg "_law_is_weaving" p_L_is_weaving s_L_is_weaving) {a__law_answers_by : AF} (o__law_answers_by : Ok P w K mg base k "_law_answers_by" p_L_answers_by a__law_answers_by) {a__law_alike : AF} (o__law_alike : Ok P w K mg base k "_law_alike" p_L_alike a__law_alike) 
    (many : ∀ as Q, fa as Q → as.length = 2)
    (does : ∀ as Q, fa as Q → A_L_is_weaving a__law_answers_by a__law_alike { nx := fun sl' => Q .none (finS as sl'), rt := fun d sl' => Q d (finS as sl') } (startS 6 as)) : Ok P w K mg base (k + 1) "_law_is_weaving" p_L_is_weaving fa := by
  have nd := sc_L_is_weaving.nd
  refine Ok.of (N := N_L_is_weaving) D sc_L_is_weaving (by decide) many (fun f cdv A outer s H hr hg =>
    (pss_cons (ps_asg (pv 0) (pg_tup (n := 2) rfl (pgs_cons (pg_name (i := 2) nd rfl (by first | exact Or.inl rfl | exact Or.inr rfl)) (pgs_cons (pg_name (i := 3) nd rfl (by first | exact Or.inl rfl | exact Or.inr rfl)) pgs_nil)))) (pss_cons (ps_set (i := 4) nd rfl (by first | exact Or.inl rfl | exact Or.inr rfl) (pe_ok o__law_answers_by hr hg (by rfl) (pa_cons (pv 2) (pa_cons (pe_lc (own := [("_law_index", 5)]) rfl nd (pi_seq (pv 1)) (blkOk_by (N := N_L_is_weaving) (sc := defScope s_L_is_weaving) (by decide +kernel)) (fun _ _ _ _ _ => (pg_name (i := 5) nd rfl (by first | exact Or.inl rfl | exact Or.inr rfl))) (fun _ _ _ _ _ => pts_nil) (fun _ _ _ _ _ => (pe_ix ix_seq (pe_ix ix_seq (pv 3) (pv 5) (fun _ _ => rfl)) pe_int (fun _ _ => rfl)))) pa_nil)))) (pss_one (ps_ret (pe_ok o__law_alike hr hg (by rfl) (pa_cons (pv 4) (pa_cons (pe_lc (own := [("_law_index", 5)]) rfl nd (pi_seq (pv 1)) (blkOk_by (N := N_L_is_weaving) (sc := defScope s_L_is_weaving) (by decide +kernel)) (fun _ _ _ _ _ => (pg_name (i := 5) nd rfl (by first | exact Or.inl rfl | exact Or.inr rfl))) (fun _ _ _ _ _ => pts_nil) (fun _ _ _ _ _ => (pe_ix ix_seq (pe_ix ix_seq (pv 3) (pv 5) (fun _ _ => rfl)) pe_int (fun _ _ => rfl)))) pa_nil))))))))
    (ls_seq (ls_asg (le_var 0) (lg_tup (lgs_cons (lg_name 2) (lgs_cons (lg_name 3) lgs_nil)))) (ls_seq (ls_set 4 (le_call (fa := a__law_answers_by) (la_d (le_var 2) (la_d (le_ofN (ln_lc (li_seq (le_var 1)) (lg_name 5) lt_yes (le_op lr_ix (le_op lr_ix (le_var 3) (le_var 5)) (le_int 0)))) la_nil)))) (ls_ret (le_call (fa := a__law_alike) (la_d (le_var 4) (la_d (le_ofN (ln_lc (li_seq (le_var 1)) (lg_name 5) lt_yes (le_op lr_ix (le_op lr_ix (le_var 3) (le_var 5)) (le_int 3)))) la_nil)))))) ?_
  exact does

abbrev s_L_is_order : Stmt := topS 60
abbrev N_L_is_order : List Str := ["_law_calls", "_law_thing", "_law_place", "_law_index", "_law_one_here", "_law_other"]
abbrev p_L_is_order : List Str := ["_law_calls", "_law_thing"]
theorem sc_L_is_order : FnScope N_L_is_order p_L_is_order (defScope s_L_is_order) := ⟨rfl, rfl, rfl, by decide +kernel, rfl, by decide +kernel, by decide +kernel⟩
def A_L_is_order (a__law_is_int : AF) (a__law_is_ahead : AF) : AS := (aSeq (aIfS (aOr (aNot (aTest (aCB (fIsi "tuple") (aCons (aVar 1) aNil)))) (aTest (aOp fNe (aOfN (aLc (aSeqI (aVar 1)) (aName 4) (aNot (aTest (aCall a__law_is_int (aaD (aVar 4) aaNil)))) (aC (.int 1)) [4])) (aOfN (aLst aNil))))) (aRet (aC (.bool false))) aNext) (aSeq (aIfS (aTest (aOp fNe (aCB fSortI (aCons (aVar 1) aNil)) (aOfN (aListRg (aCB fLen (aCons (aVar 0) aNil)))))) (aRet (aC (.bool false))) aNext) (aSeq (aFor (aEnum (aVar 1)) (aGTup 2 (aGCons (aName 2) (aGCons (aName 3) aGNil))) (aIfS (aTest (aOp fNe (aOfN (aLc (aSeqI (aSl (aVar 1) (aPart (aVar 2)) aNoPart)) (aName 5) (aTest (aCall a__law_is_ahead (aaD (aVar 0) (aaD (aVar 5) (aaD (aVar 3) aaNil))))) (aC (.int 1)) [5])) (aOfN (aLst aNil)))) (aRet (aC (.bool false))) aNext)) (aRet (aC (.bool true))))))
theorem g_L_is_order {k : Nat} {fa : AF}  (D : Def K mg "_law_is_order" p_L_is_order s_L_is_order) {a__law_is_int : AF} (o__law_is_int : Ok P w K mg base k "_law_is_int" p_L_is_int a__law_is_int) {a__law_is_ahead : AF} (o__law_is_ahead : Ok P w K mg base k "_law_is_ahead" p_L_is_ahead a__law_is_ahead) (m_isinstance : mg "isinstance" = none) (m_tuple : mg "tuple" = none) (m_sorted : mg "sorted" = none) (m_len : mg "len" = none) (m_list : mg "list" = none) (m_range : mg "range" = none) (m_enumerate : mg "enumerate" = none)
    (many : ∀ as Q, fa as Q → as.length = 2)
    (does : ∀ as Q, fa as Q → A_L_is_order a__law_is_int a__law_is_ahead { nx := fun sl' => Q .none (finS as sl'), rt := fun d sl' => Q d (finS as sl') } (startS 6 as)) : Ok P w K mg base (k + 1) "_law_is_order" p_L_is_order fa := by
  have nd := sc_L_is_order.nd
  refine Ok.of (N := N_L_is_order) D sc_L_is_order (by decide) many (fun f cdv A outer s H hr hg =>
    (pss_cons (ps_if (PW.pt (pw_or (pt_not (pt_val (pe_callB call_isi (by rfl) m_isinstance b_isi (pa_cons (pv 1) (pa_cons (pe_bltn (v := .ty "tuple") (by rfl) m_tuple b_tuple rfl) pa_nil))))) (pw_or1 (pt_cmpR (op_neD (un64 hr)) (pe_lc (own := [("_law_one_here", 4)]) rfl nd (pi_seq (pv 1)) (blkOk_by (N := N_L_is_order) (sc := defScope s_L_is_order) (by decide +kernel)) (fun _ _ _ _ _ => (pg_name (i := 4) nd rfl (by first | exact Or.inl rfl | exact Or.inr rfl))) (fun _ _ _ _ _ => (pts_one (pt_not (pt_val (pe_ok o__law_is_int hr hg (by rfl) (pa_cons (pv 4) pa_nil)))))) (fun _ _ _ _ _ => pe_int)) (pe_lst pa_nil) (nomark _))))) (pss_one (ps_ret pe_bl)) pss_nil) (pss_cons (ps_if (pt_cmpR (op_neD (un64 hr)) (pe_callB cr_sortedQ (by rfl) m_sorted b_sorted (pa_cons (pv 1) pa_nil)) (pe_listRg rfl (by rfl) m_list (prg_1 (by rfl) m_range (pe_callB call_len (by rfl) m_len b_len (pa_cons (pv 0) pa_nil)))) (nomark _)) (pss_one (ps_ret pe_bl)) pss_nil) (pss_cons (ps_for PassesOwn.never rfl (pi_enumA (by rfl) m_enumerate (pa_cons (pv 1) pa_nil)) (pg_tup (n := 2) rfl (pgs_cons (pg_name (i := 2) nd rfl (by first | exact Or.inl rfl | exact Or.inr rfl)) (pgs_cons (pg_name (i := 3) nd rfl (by first | exact Or.inl rfl | exact Or.inr rfl)) pgs_nil))) (pss_one (ps_if (pt_cmpR (op_neD (un64 hr)) (pe_lc (own := [("_law_other", 5)]) rfl nd (pi_seq (pe_slice sl_any (pv 1) (po_some (pv 2)) po_none)) (blkOk_by (N := N_L_is_order) (sc := defScope s_L_is_order) (by decide +kernel)) (fun _ _ _ _ _ => (pg_name (i := 5) nd rfl (by first | exact Or.inl rfl | exact Or.inr rfl))) (fun _ _ _ _ _ => (pts_one (pt_val (pe_ok o__law_is_ahead hr hg (by rfl) (pa_cons (pv 0) (pa_cons (pv 5) (pa_cons (pv 3) pa_nil))))))) (fun _ _ _ _ _ => pe_int)) (pe_lst pa_nil) (nomark _)) (pss_one (ps_ret pe_bl)) pss_nil))) (pss_one (ps_ret pe_bl))))))
    (ls_seq (ls_if (lt_or (lt_not (lt_B (le_isi "tuple" (by decide) (le_var 1)))) (lt_test (le_op lr_ne (le_ofN (ln_lc (li_seq (le_var 1)) (lg_name 4) (lt_not (lt_B (le_call (fa := a__law_is_int) (la_d (le_var 4) la_nil)))) (le_int 1))) (le_ofN (ln_lst ld_nil))))) (ls_ret (le_bl false)) ls_next) (ls_seq (ls_if (lt_test (le_op lr_ne (le_CB lc_sortI (ld_cons (le_var 1) ld_nil)) (le_ofN (ln_listRg (le_CB lc_len (ld_cons (le_var 0) ld_nil)))))) (ls_ret (le_bl false)) ls_next) (ls_seq (ls_for (li_enum (le_var 1)) (lg_tup (lgs_cons (lg_name 2) (lgs_cons (lg_name 3) lgs_nil))) (ls_if (lt_test (le_op lr_ne (le_ofN (ln_lc (li_seq (le_sl (le_var 1) (lo_some (le_var 2)) lo_none)) (lg_name 5) (lt_B (le_call (fa := a__law_is_ahead) (la_d (le_var 0) (la_d (le_var 5) (la_d (le_var 3) la_nil))))) (le_int 1))) (le_ofN (ln_lst ld_nil)))) (ls_ret (le_bl false)) ls_next)) (ls_ret (le_bl true))))) ?_
  exact does

abbrev s_L_moved : Stmt := topS 61
abbrev N_L_moved : List Str := ["_law_bag_here", "_law_order", "_law_at", "_law_rest_here", "_law_to"]
abbrev p_L_moved : List Str := ["_law_bag_here", "_law_order"]
theorem sc_L_moved : FnScope N_L_moved p_L_moved (defScope s_L_moved) := ⟨rfl, rfl, rfl, by decide +kernel, rfl, by decide +kernel, by decide +kernel⟩
def A_L_moved (a__law_take : AF) : AS := (aSeq (aIfS (aTest (aOp fLt (aCB fLen (aCons (aVar 1) aNil)) (aC (.int 2)))) (aRet (aVar 1)) aNext) (aSeq (aSet 2 (aCall a__law_take (aaO 0 (aaD (aOp fSub (aCB fLen (aCons (aVar 1) aNil)) (aC (.int 1))) aaNil)))) (aSeq (aIfS (aTest (aOp fEq (aCall a__law_take (aaO 0 (aaD (aC (.int 2)) aaNil))) (aC (.int 0)))) (aRet (aOp fAdd (aOp fAdd (aSl (aVar 1) aNoPart (aPart (aVar 2))) (aTup (aCons (aOp fIx (aVar 1) (aOp fAdd (aVar 2) (aC (.int 1)))) (aCons (aOp fIx (aVar 1) (aVar 2)) aNil)))) (aSl (aVar 1) (aPart (aOp fAdd (aVar 2) (aC (.int 2)))) aNoPart))) aNext) (aSeq (aSet 3 (aOp fAdd (aSl (aVar 1) aNoPart (aPart (aVar 2))) (aSl (aVar 1) (aPart (aOp fAdd (aVar 2) (aC (.int 1)))) aNoPart))) (aSeq (aSet 4 (aCall a__law_take (aaO 0 (aaD (aCB fLen (aCons (aVar 1) aNil)) aaNil)))) (aRet (aOp fAdd (aOp fAdd (aSl (aVar 3) aNoPart (aPart (aVar 4))) (aTup (aCons (aOp fIx (aVar 1) (aVar 2)) aNil))) (aSl (aVar 3) (aPart (aVar 4)) aNoPart))))))))
theorem g_L_moved {k : Nat} {fa : AF}  (D : Def K mg "_law_moved" p_L_moved s_L_moved) {a__law_take : AF} (o__law_take : Ok P w K mg base k "_law_take" p_L_take a__law_take) (m_len : mg "len" = none)
    (many : ∀ as Q, fa as Q → as.length = 2)
    (does : ∀ as Q, fa as Q → A_L_moved a__law_take { nx := fun sl' => Q .none (finS as sl'), rt := fun d sl' => Q d (finS as sl') } (startS 5 as)) : Ok P w K mg base (k + 1) "_law_moved" p_L_moved fa := by
  have nd := sc_L_moved.nd
  refine Ok.of (N := N_L_moved) D sc_L_moved (by decide) many (fun f cdv A outer s H hr hg =>
    (pss_cons (ps_if (pt_cmpR op_lt (pe_callB call_len (by rfl) m_len b_len (pa_cons (pv 1) pa_nil)) pe_int (nomark _)) (pss_one (ps_ret (pv 1))) pss_nil) (pss_cons (ps_set (i := 2) nd rfl (by first | exact Or.inl rfl | exact Or.inr rfl) (pe_ok o__law_take hr hg (by rfl) (pa_cons (pv 0) (pa_cons (pe_op op_sub (pe_callB call_len (by rfl) m_len b_len (pa_cons (pv 1) pa_nil)) pe_int) pa_nil)))) (pss_cons (ps_if (pt_cmpR (op_eqD (un64 hr)) (pe_ok o__law_take hr hg (by rfl) (pa_cons (pv 0) (pa_cons pe_int pa_nil))) pe_int (nomark _)) (pss_one (ps_ret (pe_op op_addA (pe_op op_addA (pe_slice sl_any (pv 1) po_none (po_some (pv 2))) (pe_tupK (pa_cons (pe_ix ix_seq (pv 1) (pe_op op_addA (pv 2) pe_int) (fun _ _ => rfl)) (pa_cons (pe_ix ix_seq (pv 1) (pv 2) (fun _ _ => rfl)) pa_nil)))) (pe_slice sl_any (pv 1) (po_some (pe_op op_addA (pv 2) pe_int)) po_none)))) pss_nil) (pss_cons (ps_set (i := 3) nd rfl (by first | exact Or.inl rfl | exact Or.inr rfl) (pe_op op_addA (pe_slice sl_any (pv 1) po_none (po_some (pv 2))) (pe_slice sl_any (pv 1) (po_some (pe_op op_addA (pv 2) pe_int)) po_none))) (pss_cons (ps_set (i := 4) nd rfl (by first | exact Or.inl rfl | exact Or.inr rfl) (pe_ok o__law_take hr hg (by rfl) (pa_cons (pv 0) (pa_cons (pe_callB call_len (by rfl) m_len b_len (pa_cons (pv 1) pa_nil)) pa_nil)))) (pss_one (ps_ret (pe_op op_addA (pe_op op_addA (pe_slice sl_any (pv 3) po_none (po_some (pv 4))) (pe_tupK (pa_cons (pe_ix ix_seq (pv 1) (pv 2) (fun _ _ => rfl)) pa_nil))) (pe_slice sl_any (pv 3) (po_some (pv 4)) po_none))))))))))
    (ls_seq (ls_if (lt_test (le_op lr_lt (le_CB lc_len (ld_cons (le_var 1) ld_nil)) (le_int 2))) (ls_ret (le_var 1)) ls_next) (ls_seq (ls_set 2 (le_call (fa := a__law_take) (la_o 0 (la_d (le_op lr_sub (le_CB lc_len (ld_cons (le_var 1) ld_nil)) (le_int 1)) la_nil)))) (ls_seq (ls_if (lt_test (le_op lr_eq (le_call (fa := a__law_take) (la_o 0 (la_d (le_int 2) la_nil))) (le_int 0))) (ls_ret (le_op lr_add (le_op lr_add (le_sl (le_var 1) lo_none (lo_some (le_var 2))) (le_tup (ld_cons (le_op lr_ix (le_var 1) (le_op lr_add (le_var 2) (le_int 1))) (ld_cons (le_op lr_ix (le_var 1) (le_var 2)) ld_nil)))) (le_sl (le_var 1) (lo_some (le_op lr_add (le_var 2) (le_int 2))) lo_none))) ls_next) (ls_seq (ls_set 3 (le_op lr_add (le_sl (le_var 1) lo_none (lo_some (le_var 2))) (le_sl (le_var 1) (lo_some (le_op lr_add (le_var 2) (le_int 1))) lo_none))) (ls_seq (ls_set 4 (le_call (fa := a__law_take) (la_o 0 (la_d (le_CB lc_len (ld_cons (le_var 1) ld_nil)) la_nil)))) (ls_ret (le_op lr_add (le_op lr_add (le_sl (le_var 3) lo_none (lo_some (le_var 4))) (le_tup (ld_cons (le_op lr_ix (le_var 1) (le_var 2)) ld_nil))) (le_sl (le_var 3) (lo_some (le_var 4)) lo_none)))))))) ?_
  exact does

abbrev s_law : Stmt := topS 62
abbrev N_law : List Str := ["_law_script", "_law_bag_here", "_law_house_here", "_law_history_here", "_law_order", "_law_calls", "_law_shown", "_law_rows", "_law_turn", "_law_other", "_law_is_one", "_law_due", "_law_index", "_law_deed_here", "_law_begin", "_law_end", "_law_answer_here", "_law_bent", "_law_call"]
abbrev p_law : List Str := ["_law_script"]
theorem sc_law : FnScope N_law p_law (defScope s_law) := ⟨rfl, rfl, rfl, by decide +kernel, rfl, by decide +kernel, by decide +kernel⟩
def A_law (a__law_bag : AFn) (a__law_house : AF) (a__law_one : AF) (a__law_history : AF) (a__law_alike : AF) (a_is_order : AF) (a_is_weaving : AF) (a_first_wrong : AF) (a_answers_by : AF) (a_store_at : AF) (a__law_moved : AF) (a__law_is_order : AF) (a__law_is_weaving : AF) (a__law_take : AF) (a__law_put : AF) (a__law_other_answer : AF) : AS := (aSeq (aSetN 1 (aCallN a__law_bag (aCons (aVar 0) aNil))) (aSeq (aSet 2 (aCall a__law_house (aaO 1 (aaD (aCall a__law_one (aaO 1 (aaD (aOfN (aLst (aCons (aC (.int 4)) (aCons (aC (.int 3)) (aCons (aC (.int 6)) aNil))))) aaNil))) aaNil)))) (aSeq (aGSet (aGTup 2 (aGCons (aName 3) (aGCons (aName 4) aGNil))) (aCall a__law_history (aaO 1 (aaD (aVar 2) (aaD (aCall a__law_one (aaO 1 (aaD (aOfN (aLst (aCons (aC (.int 16)) (aCons (aC (.int 10)) (aCons (aC (.int 12)) aNil))))) aaNil))) aaNil))))) (aSeq (aGSet (aGTup 2 (aGCons (aName 5) (aGCons (aName 6) aGNil))) (aTup (aCons (aOp fIx (aVar 3) (aC (.int 1))) (aCons (aCB fRepr (aCons (aVar 3) aNil)) aNil)))) (aSeq (aIfS (aNot (aTest (aCall a__law_alike (aaD (aOfN (aLst (aCons (aCall a_is_order (aaD (aVar 3) (aaD (aVar 4) aaNil))) (aCons (aCall a_is_weaving (aaD (aVar 3) (aaD (aVar 4) aaNil))) (aCons (aCall a_first_wrong (aaD (aVar 3) (aaD (aVar 4) aaNil))) aNil))))) (aaD (aOfN (aLst (aCons (aC (.bool true)) (aCons (aC (.bool true)) (aCons (aC .none) aNil))))) aaNil))))) (aRet (aC (.bool false))) aNext) (aSeq (aIfS (aNot (aTest (aCall a__law_alike (aaD (aCall a_answers_by (aaD (aVar 3) (aaD (aVar 4) aaNil))) (aaD (aCB fTuple (aCons (aOfN (aLc (aSeqI (aVar 5)) (aName 18) aYes (aOp fIx (aVar 18) (aC (.int 3))) [18])) aNil)) aaNil))))) (aRet (aC (.bool false))) aNext) (aSeq (aSet 7 (aCB fTuple (aCons (aOfN (aLc (aSeqI (aVar 4)) (aName 12) (aTest (aOp fEq (aOp fIx (aOp fIx (aVar 5) (aVar 12)) (aC (.int 3))) (aC (.str (Str.ofString "new"))))) (aTup (aCons (aOp fIx (aOp fIx (aOp fIx (aVar 5) (aVar 12)) (aC (.int 0))) (aC (.int 1))) (aCons (aOp fIx (aOp fIx (aOp fIx (aVar 5) (aVar 12)) (aC (.int 0))) (aC (.int 2))) aNil))) [12])) aNil))) (aSeq (aIfS (aNot (aTest (aCall a__law_alike (aaD (aCall a_store_at (aaD (aVar 3) (aaD (aVar 4) (aaD (aCB fLen (aCons (aVar 5) aNil)) aaNil)))) (aaD (aVar 7) aaNil))))) (aRet (aC (.bool false))) aNext) (aSeq (aFor (aRng1 (aC (.int 6))) (aName 8) (aSeq (aSet 9 (aCall a__law_moved (aaO 1 (aaD (aVar 4) aaNil)))) (aSeq (aSet 10 (aCall a__law_is_order (aaD (aVar 5) (aaD (aVar 9) aaNil)))) (aSeq (aSet 11 (aOfN (aLst (aCons (aVar 10) (aCons (aAndV (aVar 10) (aCall a__law_is_weaving (aaD (aVar 3) (aaD (aVar 9) aaNil)))) aNil))))) (aIfS (aNot (aTest (aCall a__law_alike (aaD (aOfN (aLst (aCons (aCall a_is_order (aaD (aVar 3) (aaD (aVar 9) aaNil))) (aCons (aCall a_is_weaving (aaD (aVar 3) (aaD (aVar 9) aaNil))) aNil)))) (aaD (aVar 11) aaNil))))) (aRet (aC (.bool false))) aNext))))) (aSeq (aFor (aRng1 (aIf (aTest (aOp fNe (aVar 5) (aTup aNil))) (aC (.int 2)) (aC (.int 0)))) (aName 8) (aSeq (aSet 12 (aCall a__law_take (aaO 1 (aaD (aCB fLen (aCons (aVar 5) aNil)) aaNil)))) (aSeq (aGSet (aGTup 4 (aGCons (aName 13) (aGCons (aName 14) (aGCons (aName 15) (aGCons (aName 16) aGNil))))) (aOp fIx (aVar 5) (aVar 12))) (aSeq (aSet 17 (aTup (aCons (aVar 2) (aCons (aCall a__law_put (aaD (aVar 5) (aaD (aVar 12) (aaD (aTup (aCons (aVar 13) (aCons (aVar 14) (aCons (aVar 15) (aCons (aCall a__law_other_answer (aaO 1 (aaD (aVar 2) (aaD (aOp fIx (aVar 5) (aVar 12)) aaNil)))) aNil))))) aaNil)))) aNil)))) (aIfS (aNot (aTest (aCall a__law_alike (aaD (aOfN (aLst (aCons (aCall a_is_weaving (aaD (aVar 17) (aaD (aVar 4) aaNil))) (aCons (aCall a_first_wrong (aaD (aVar 17) (aaD (aVar 4) aaNil))) aNil)))) (aaD (aOfN (aLst (aCons (aC (.bool false)) (aCons (aTupIndex (aVar 4) (aVar 12)) aNil)))) aaNil))))) (aRet (aC (.bool false))) aNext))))) (aRet (aOp fEqS (aCB fRepr (aCons (aVar 3) aNil)) (aVar 6)))))))))))))
theorem g_law {k : Nat} {fa : AF}  (D : Def K mg "law" p_law s_law) {a__law_bag : AFn} (o__law_bag : OkN P w K mg base k "_law_bag" p_L_bag a__law_bag) {a__law_house : AF} (o__law_house : Ok P w K mg base k "_law_house" p_L_house a__law_house) {a__law_one : AF} (o__law_one : Ok P w K mg base k "_law_one" p_L_one a__law_one) {a__law_history : AF} (o__law_history : Ok P w K mg base k "_law_history" p_L_history a__law_history) {a__law_alike : AF} (o__law_alike : Ok P w K mg base k "_law_alike" p_L_alike a__law_alike) {a_is_order : AF} (o_is_order : Ok P w K mg base k "is_order" p_is_order a_is_order) {a_is_weaving : AF} (o_is_weaving : Ok P w K mg base k "is_weaving" p_is_weaving a_is_weaving) {a_first_wrong : AF} (o_first_wrong : Ok P w K mg base k "first_wrong" p_first_wrong a_first_wrong) {a_answers_by : AF} (o_answers_by : Ok P w K mg base k "answers_by" p_answers_by a_answers_by) {a_store_at : AF} (o_store_at : Ok P w K mg base k "store_at" p_store_at a_store_at) {a__law_moved : AF} (o__law_moved : Ok P w K mg base k "_law_moved" p_L_moved a__law_moved) {a__law_is_order : AF} (o__law_is_order : Ok P w K mg base k "_law_is_order" p_L_is_order a__law_is_order) {a__law_is_weaving : AF} (o__law_is_weaving : Ok P w K mg base k "_law_is_weaving" p_L_is_weaving a__law_is_weaving) {a__law_take : AF} (o__law_take : Ok P w K mg base k "_law_take" p_L_take a__law_take) {a__law_put : AF} (o__law_put : Ok P w K mg base k "_law_put" p_L_put a__law_put) {a__law_other_answer : AF} (o__law_other_answer : Ok P w K mg base k "_law_other_answer" p_L_other_answer a__law_other_answer) (m_repr : mg "repr" = none) (m_tuple : mg "tuple" = none) (m_len : mg "len" = none) (m_range : mg "range" = none)
    (many : ∀ as Q, fa as Q → as.length = 1)
    (does : ∀ as Q, fa as Q → A_law a__law_bag a__law_house a__law_one a__law_history a__law_alike a_is_order a_is_weaving a_first_wrong a_answers_by a_store_at a__law_moved a__law_is_order a__law_is_weaving a__law_take a__law_put a__law_other_answer { nx := fun sl' => Q .none (finS as sl'), rt := fun d sl' => Q d (finS as sl') } (startS 19 as)) : Ok P w K mg base (k + 1) "law" p_law fa := by
  have nd := sc_law.nd
  refine Ok.of (N := N_law) D sc_law (by decide) many (fun f cdv A outer s H hr hg =>
    (pss_cons (ps_set (i := 1) nd rfl (by first | exact Or.inl rfl | exact Or.inr rfl) (pe_okN o__law_bag hr hg (by rfl) (pa_cons (pv 0) pa_nil))) (pss_cons (ps_set (i := 2) nd rfl (by first | exact Or.inl rfl | exact Or.inr rfl) (pe_ok o__law_house hr hg (by rfl) (pa_cons (pv 1) (pa_cons (pe_ok o__law_one hr hg (by rfl) (pa_cons (pv 1) (pa_cons (pe_lst (pa_cons pe_int (pa_cons pe_int (pa_cons pe_int pa_nil)))) pa_nil))) pa_nil)))) (pss_cons (ps_asg (pe_ok o__law_history hr hg (by rfl) (pa_cons (pv 1) (pa_cons (pv 2) (pa_cons (pe_ok o__law_one hr hg (by rfl) (pa_cons (pv 1) (pa_cons (pe_lst (pa_cons pe_int (pa_cons pe_int (pa_cons pe_int pa_nil)))) pa_nil))) pa_nil)))) (pg_tup (n := 2) rfl (pgs_cons (pg_name (i := 3) nd rfl (by first | exact Or.inl rfl | exact Or.inr rfl)) (pgs_cons (pg_name (i := 4) nd rfl (by first | exact Or.inl rfl | exact Or.inr rfl)) pgs_nil)))) (pss_cons (ps_asg (pe_tupK (pa_cons (pe_ix ix_seq (pv 3) pe_int (fun _ _ => rfl)) (pa_cons (pe_callB (call_reprD hr hg) (by rfl) m_repr b_repr (pa_cons (pv 3) pa_nil)) pa_nil))) (pg_tup (n := 2) rfl (pgs_cons (pg_name (i := 5) nd rfl (by first | exact Or.inl rfl | exact Or.inr rfl)) (pgs_cons (pg_name (i := 6) nd rfl (by first | exact Or.inl rfl | exact Or.inr rfl)) pgs_nil)))) (pss_cons (ps_if (pt_not (pt_val (pe_ok o__law_alike hr hg (by rfl) (pa_cons (pe_lst (pa_cons (pe_ok o_is_order hr hg (by rfl) (pa_cons (pv 3) (pa_cons (pv 4) pa_nil))) (pa_cons (pe_ok o_is_weaving hr hg (by rfl) (pa_cons (pv 3) (pa_cons (pv 4) pa_nil))) (pa_cons (pe_ok o_first_wrong hr hg (by rfl) (pa_cons (pv 3) (pa_cons (pv 4) pa_nil))) pa_nil)))) (pa_cons (pe_lst (pa_cons pe_bl (pa_cons pe_bl (pa_cons pe_non pa_nil)))) pa_nil))))) (pss_one (ps_ret pe_bl)) pss_nil) (pss_cons (ps_if (pt_not (pt_val (pe_ok o__law_alike hr hg (by rfl) (pa_cons (pe_ok o_answers_by hr hg (by rfl) (pa_cons (pv 3) (pa_cons (pv 4) pa_nil))) (pa_cons (pe_callTy call_tupK (by rfl) m_tuple b_tuple (pa_cons (pe_lc (own := [("_law_call", 18)]) rfl nd (pi_seq (pv 5)) (blkOk_by (N := N_law) (sc := defScope s_law) (by decide +kernel)) (fun _ _ _ _ _ => (pg_name (i := 18) nd rfl (by first | exact Or.inl rfl | exact Or.inr rfl))) (fun _ _ _ _ _ => pts_nil) (fun _ _ _ _ _ => (pe_ix ix_seq (pv 18) pe_int (fun _ _ => rfl)))) pa_nil)) pa_nil))))) (pss_one (ps_ret pe_bl)) pss_nil) (pss_cons (ps_set (i := 7) nd rfl (by first | exact Or.inl rfl | exact Or.inr rfl) (pe_callTy call_tupK (by rfl) m_tuple b_tuple (pa_cons (pe_lc (own := [("_law_index", 12)]) rfl nd (pi_seq (pv 4)) (blkOk_by (N := N_law) (sc := defScope s_law) (by decide +kernel)) (fun _ _ _ _ _ => (pg_name (i := 12) nd rfl (by first | exact Or.inl rfl | exact Or.inr rfl))) (fun _ _ _ _ _ => (pts_one (pt_cmpR (op_eqD (un64 hr)) (pe_ix ix_seq (pe_ix ix_seq (pv 5) (pv 12) (fun _ _ => rfl)) pe_int (fun _ _ => rfl)) pe_str (nomark _)))) (fun _ _ _ _ _ => (pe_tupK (pa_cons (pe_ix ix_seq (pe_ix ix_seq (pe_ix ix_seq (pv 5) (pv 12) (fun _ _ => rfl)) pe_int (fun _ _ => rfl)) pe_int (fun _ _ => rfl)) (pa_cons (pe_ix ix_seq (pe_ix ix_seq (pe_ix ix_seq (pv 5) (pv 12) (fun _ _ => rfl)) pe_int (fun _ _ => rfl)) pe_int (fun _ _ => rfl)) pa_nil))))) pa_nil))) (pss_cons (ps_if (pt_not (pt_val (pe_ok o__law_alike hr hg (by rfl) (pa_cons (pe_ok o_store_at hr hg (by rfl) (pa_cons (pv 3) (pa_cons (pv 4) (pa_cons (pe_callB call_len (by rfl) m_len b_len (pa_cons (pv 5) pa_nil)) pa_nil)))) (pa_cons (pv 7) pa_nil))))) (pss_one (ps_ret pe_bl)) pss_nil) (pss_cons (ps_for PassesOwn.never rfl (pi_range1 (by rfl) m_range (pa_cons pe_int pa_nil)) (pg_name (i := 8) nd rfl (by first | exact Or.inl rfl | exact Or.inr rfl)) (pss_cons (ps_set (i := 9) nd rfl (by first | exact Or.inl rfl | exact Or.inr rfl) (pe_ok o__law_moved hr hg (by rfl) (pa_cons (pv 1) (pa_cons (pv 4) pa_nil)))) (pss_cons (ps_set (i := 10) nd rfl (by first | exact Or.inl rfl | exact Or.inr rfl) (pe_ok o__law_is_order hr hg (by rfl) (pa_cons (pv 5) (pa_cons (pv 9) pa_nil)))) (pss_cons (ps_set (i := 11) nd rfl (by first | exact Or.inl rfl | exact Or.inr rfl) (pe_lst (pa_cons (pv 10) (pa_cons (pe_and (pv 10) (pe_one (pe_ok o__law_is_weaving hr hg (by rfl) (pa_cons (pv 3) (pa_cons (pv 9) pa_nil))))) pa_nil)))) (pss_one (ps_if (pt_not (pt_val (pe_ok o__law_alike hr hg (by rfl) (pa_cons (pe_lst (pa_cons (pe_ok o_is_order hr hg (by rfl) (pa_cons (pv 3) (pa_cons (pv 9) pa_nil))) (pa_cons (pe_ok o_is_weaving hr hg (by rfl) (pa_cons (pv 3) (pa_cons (pv 9) pa_nil))) pa_nil))) (pa_cons (pv 11) pa_nil))))) (pss_one (ps_ret pe_bl)) pss_nil)))))) (pss_cons (ps_for PassesOwn.never rfl (pi_range1 (by rfl) m_range (pa_cons (pe_ifExp (pt_cmpR (op_neD (un64 hr)) (pv 5) (pe_tupK pa_nil) (nomark _)) pe_int pe_int) pa_nil)) (pg_name (i := 8) nd rfl (by first | exact Or.inl rfl | exact Or.inr rfl)) (pss_cons (ps_set (i := 12) nd rfl (by first | exact Or.inl rfl | exact Or.inr rfl) (pe_ok o__law_take hr hg (by rfl) (pa_cons (pv 1) (pa_cons (pe_callB call_len (by rfl) m_len b_len (pa_cons (pv 5) pa_nil)) pa_nil)))) (pss_cons (ps_asg (pe_ix ix_seq (pv 5) (pv 12) (fun _ _ => rfl)) (pg_tup (n := 4) rfl (pgs_cons (pg_name (i := 13) nd rfl (by first | exact Or.inl rfl | exact Or.inr rfl)) (pgs_cons (pg_name (i := 14) nd rfl (by first | exact Or.inl rfl | exact Or.inr rfl)) (pgs_cons (pg_name (i := 15) nd rfl (by first | exact Or.inl rfl | exact Or.inr rfl)) (pgs_cons (pg_name (i := 16) nd rfl (by first | exact Or.inl rfl | exact Or.inr rfl)) pgs_nil)))))) (pss_cons (ps_set (i := 17) nd rfl (by first | exact Or.inl rfl | exact Or.inr rfl) (pe_tupK (pa_cons (pv 2) (pa_cons (pe_ok o__law_put hr hg (by rfl) (pa_cons (pv 5) (pa_cons (pv 12) (pa_cons (pe_tupK (pa_cons (pv 13) (pa_cons (pv 14) (pa_cons (pv 15) (pa_cons (pe_ok o__law_other_answer hr hg (by rfl) (pa_cons (pv 1) (pa_cons (pv 2) (pa_cons (pe_ix ix_seq (pv 5) (pv 12) (fun _ _ => rfl)) pa_nil)))) pa_nil))))) pa_nil)))) pa_nil)))) (pss_one (ps_if (pt_not (pt_val (pe_ok o__law_alike hr hg (by rfl) (pa_cons (pe_lst (pa_cons (pe_ok o_is_weaving hr hg (by rfl) (pa_cons (pv 17) (pa_cons (pv 4) pa_nil))) (pa_cons (pe_ok o_first_wrong hr hg (by rfl) (pa_cons (pv 17) (pa_cons (pv 4) pa_nil))) pa_nil))) (pa_cons (pe_lst (pa_cons pe_bl (pa_cons (pe_bmK PySem.F.slot_tuple_index PySem.F.type_tuple_index mt_tupIndexI (pv 4) (pa_cons (pv 12) pa_nil)) pa_nil))) pa_nil))))) (pss_one (ps_ret pe_bl)) pss_nil)))))) (pss_one (ps_ret (pe_cmpR op_eq (pe_callB (call_reprD hr hg) (by rfl) m_repr b_repr (pa_cons (pv 3) pa_nil)) (pv 6) (nomark _)))))))))))))))
    (ls_seq (ls_setN 1 (ln_call (fa := a__law_bag) (ld_cons (le_var 0) ld_nil))) (ls_seq (ls_set 2 (le_call (fa := a__law_house) (la_o 1 (la_d (le_call (fa := a__law_one) (la_o 1 (la_d (le_ofN (ln_lst (ld_cons (le_int 4) (ld_cons (le_int 3) (ld_cons (le_int 6) ld_nil))))) la_nil))) la_nil)))) (ls_seq (ls_asg (le_call (fa := a__law_history) (la_o 1 (la_d (le_var 2) (la_d (le_call (fa := a__law_one) (la_o 1 (la_d (le_ofN (ln_lst (ld_cons (le_int 16) (ld_cons (le_int 10) (ld_cons (le_int 12) ld_nil))))) la_nil))) la_nil)))) (lg_tup (lgs_cons (lg_name 3) (lgs_cons (lg_name 4) lgs_nil)))) (ls_seq (ls_asg (le_tup (ld_cons (le_op lr_ix (le_var 3) (le_int 1)) (ld_cons (le_CB lc_repr (ld_cons (le_var 3) ld_nil)) ld_nil))) (lg_tup (lgs_cons (lg_name 5) (lgs_cons (lg_name 6) lgs_nil)))) (ls_seq (ls_if (lt_not (lt_B (le_call (fa := a__law_alike) (la_d (le_ofN (ln_lst (ld_cons (le_call (fa := a_is_order) (la_d (le_var 3) (la_d (le_var 4) la_nil))) (ld_cons (le_call (fa := a_is_weaving) (la_d (le_var 3) (la_d (le_var 4) la_nil))) (ld_cons (le_call (fa := a_first_wrong) (la_d (le_var 3) (la_d (le_var 4) la_nil))) ld_nil))))) (la_d (le_ofN (ln_lst (ld_cons (le_bl true) (ld_cons (le_bl true) (ld_cons le_non ld_nil))))) la_nil))))) (ls_ret (le_bl false)) ls_next) (ls_seq (ls_if (lt_not (lt_B (le_call (fa := a__law_alike) (la_d (le_call (fa := a_answers_by) (la_d (le_var 3) (la_d (le_var 4) la_nil))) (la_d (le_CB lc_tuple (ld_cons (le_ofN (ln_lc (li_seq (le_var 5)) (lg_name 18) lt_yes (le_op lr_ix (le_var 18) (le_int 3)))) ld_nil)) la_nil))))) (ls_ret (le_bl false)) ls_next) (ls_seq (ls_set 7 (le_CB lc_tuple (ld_cons (le_ofN (ln_lc (li_seq (le_var 4)) (lg_name 12) (lt_test (le_op lr_eq (le_op lr_ix (le_op lr_ix (le_var 5) (le_var 12)) (le_int 3)) (le_str "new"))) (le_tup (ld_cons (le_op lr_ix (le_op lr_ix (le_op lr_ix (le_var 5) (le_var 12)) (le_int 0)) (le_int 1)) (ld_cons (le_op lr_ix (le_op lr_ix (le_op lr_ix (le_var 5) (le_var 12)) (le_int 0)) (le_int 2)) ld_nil))))) ld_nil))) (ls_seq (ls_if (lt_not (lt_B (le_call (fa := a__law_alike) (la_d (le_call (fa := a_store_at) (la_d (le_var 3) (la_d (le_var 4) (la_d (le_CB lc_len (ld_cons (le_var 5) ld_nil)) la_nil)))) (la_d (le_var 7) la_nil))))) (ls_ret (le_bl false)) ls_next) (ls_seq (ls_for (li_rng1 (le_int 6)) (lg_name 8) (ls_seq (ls_set 9 (le_call (fa := a__law_moved) (la_o 1 (la_d (le_var 4) la_nil)))) (ls_seq (ls_set 10 (le_call (fa := a__law_is_order) (la_d (le_var 5) (la_d (le_var 9) la_nil)))) (ls_seq (ls_set 11 (le_ofN (ln_lst (ld_cons (le_var 10) (ld_cons (le_andV (le_var 10) (le_call (fa := a__law_is_weaving) (la_d (le_var 3) (la_d (le_var 9) la_nil)))) ld_nil))))) (ls_if (lt_not (lt_B (le_call (fa := a__law_alike) (la_d (le_ofN (ln_lst (ld_cons (le_call (fa := a_is_order) (la_d (le_var 3) (la_d (le_var 9) la_nil))) (ld_cons (le_call (fa := a_is_weaving) (la_d (le_var 3) (la_d (le_var 9) la_nil))) ld_nil)))) (la_d (le_var 11) la_nil))))) (ls_ret (le_bl false)) ls_next))))) (ls_seq (ls_for (li_rng1 (le_if (lt_test (le_op lr_ne (le_var 5) (le_tup ld_nil))) (le_int 2) (le_int 0))) (lg_name 8) (ls_seq (ls_set 12 (le_call (fa := a__law_take) (la_o 1 (la_d (le_CB lc_len (ld_cons (le_var 5) ld_nil)) la_nil)))) (ls_seq (ls_asg (le_op lr_ix (le_var 5) (le_var 12)) (lg_tup (lgs_cons (lg_name 13) (lgs_cons (lg_name 14) (lgs_cons (lg_name 15) (lgs_cons (lg_name 16) lgs_nil)))))) (ls_seq (ls_set 17 (le_tup (ld_cons (le_var 2) (ld_cons (le_call (fa := a__law_put) (la_d (le_var 5) (la_d (le_var 12) (la_d (le_tup (ld_cons (le_var 13) (ld_cons (le_var 14) (ld_cons (le_var 15) (ld_cons (le_call (fa := a__law_other_answer) (la_o 1 (la_d (le_var 2) (la_d (le_op lr_ix (le_var 5) (le_var 12)) la_nil)))) ld_nil))))) la_nil)))) ld_nil)))) (ls_if (lt_not (lt_B (le_call (fa := a__law_alike) (la_d (le_ofN (ln_lst (ld_cons (le_call (fa := a_is_weaving) (la_d (le_var 17) (la_d (le_var 4) la_nil))) (ld_cons (le_call (fa := a_first_wrong) (la_d (le_var 17) (la_d (le_var 4) la_nil))) ld_nil)))) (la_d (le_ofN (ln_lst (ld_cons (le_bl false) (ld_cons (le_tupIndex (le_var 4) (le_var 12)) ld_nil)))) la_nil))))) (ls_ret (le_bl false)) ls_next))))) (ls_ret (le_op lr_eqS (le_CB lc_repr (ld_cons (le_var 3) ld_nil)) (le_var 6))))))))))))) ?_
  exact does

end
end R

namespace R
open PySem PySem.Spec PyProof.Rows L2 RX
section
variable {P : Program} {w : World} {K : PySem.W.Frag} {mg : Str → Option Value} {base : Heap} {k : Nat}
theorem ok_is_integer (D : Def K mg "is_integer" p_is_integer s_is_integer) (m_isinstance : mg "isinstance" = none) (m_int : mg "int" = none) (m_bool : mg "bool" = none) : Ok P w K mg base (k + 1) "is_integer" p_is_integer a_is_integer :=
  g_is_integer (m_isinstance := m_isinstance) (m_int := m_int) (m_bool := m_bool) D (fun as Q ⟨_, e, _⟩ => by subst e; rfl) fun as Q ⟨d, e, q⟩ => by
    subst e
    refine ⟨_, rfl, ?_⟩
    cases d with
    | int i => exact ⟨fun _ => ⟨_, rfl, q⟩, fun c => (nomatch c)⟩
    | bool b => exact ⟨fun _ => ⟨_, rfl, q⟩, fun c => (nomatch c)⟩
    | _ => exact ⟨fun c => (nomatch c), fun _ => q⟩
theorem ok__has_parts (D : Def K mg "_has_parts" p__has_parts s__has_parts) (m_isinstance : mg "isinstance" = none) (m_tuple : mg "tuple" = none) (m_len : mg "len" = none) : Ok P w K mg base (k + 1) "_has_parts" p__has_parts a__has_parts :=
  g__has_parts (m_isinstance := m_isinstance) (m_tuple := m_tuple) (m_len := m_len) D (fun as Q ⟨_, _, e, _⟩ => by subst e; rfl) fun as Q ⟨m, d, e, q⟩ => by
    subst e
    refine ⟨_, rfl, ?_⟩
    cases d with
    | tuple xs =>
      refine ⟨fun _ => ⟨_, rfl, _, rfl, pl_int _, pl_int _, ?_⟩, fun c => (nomatch c)⟩
      rw [eqv_int]
      exact q
    | _ => exact ⟨fun c => (nomatch c), fun _ => q⟩
theorem ok__is_number (D : Def K mg "_is_number" p__is_number s__is_number) (o_is_integer : Ok P w K mg base k "is_integer" p_is_integer a_is_integer) : Ok P w K mg base (k + 1) "_is_number" p__is_number a__is_number :=
  g__is_number D o_is_integer (fun as Q ⟨_, _, _, e, _⟩ => by subst e; rfl) fun as Q ⟨p, n, d, e, q⟩ => by
    subst e
    refine ⟨_, rfl, trivial, d, rfl, ?_⟩
    cases d with
    | int i =>
      refine ⟨fun _ => ⟨_, rfl, ⟨fun c => ⟨_, rfl, _, rfl, ?_⟩, fun c => ?_⟩⟩, fun c => (nomatch c)⟩
      · have q' : Q (.bool (decide (0 ≤ i) && decide (i < p))) _ := q
        rw [c, Bool.true_and] at q'
        exact q'
      · have q' : Q (.bool (decide (0 ≤ i) && decide (i < p))) _ := q
        rw [c, Bool.false_and] at q'
        exact q'
    | _ => exact ⟨fun c => (nomatch c), fun _ => q⟩
theorem ok_is_sum (D : Def K mg "is_sum" p_is_sum s_is_sum) (o__has_parts : Ok P w K mg base k "_has_parts" p__has_parts a__has_parts) (o__is_number : Ok P w K mg base k "_is_number" p__is_number a__is_number) (m_all : mg "all" = none) : Ok P w K mg base (k + 1) "is_sum" p_is_sum a_is_sum :=
  g_is_sum (m_all := m_all) D o__has_parts o__is_number (fun as Q ⟨_, _, _, e, _⟩ => by subst e; rfl) fun as Q ⟨p, n, d, e, hn, q⟩ => by
    subst e
    refine ⟨_, rfl, _, rfl, _, rfl, trivial, n, d, rfl, ?_⟩
    cases d with
    | tuple xs =>
      refine ⟨fun c => ?_, fun c => ?_⟩
      · have hl : xs.length = n := by have := of_decide_eq_true c; omega
        refine ⟨_, rfl, xs, rfl, ?_⟩
        refine lc_mapD (f := fun d => PyData.bool (numB p d)) (sl0 := [.d (hD p n), .d (.tuple xs), .un]) rfl rfl (fun z hz Y Z hY => ⟨fun _ => ⟨_, rfl, _, rfl, trivial, p, n, z, rfl, hY _ rfl⟩, fun c => (nomatch c)⟩) (by omega) ?_
        refine ⟨xs.map (numB p), by rw [List.map_map]; rfl, ?_⟩
        have q' : Q (.bool (decide (xs.length = n) && xs.all (numB p))) _ := q
        rw [decide_eq_true hl, Bool.true_and] at q'
        rw [List.all_map]
        exact q'
      · have hl : ¬ xs.length = n := fun e => by have := of_decide_eq_false c; omega
        have q' : Q (.bool (decide (xs.length = n) && xs.all (numB p))) _ := q
        rw [decide_eq_false hl, Bool.false_and] at q'
        exact q'
    | _ => exact ⟨fun c => (nomatch c), fun _ => q⟩
theorem ok_is_row (D : Def K mg "is_row" p_is_row s_is_row) (o__has_parts : Ok P w K mg base k "_has_parts" p__has_parts a__has_parts) (o_is_sum : Ok P w K mg base k "is_sum" p_is_sum a_is_sum) (o__is_number : Ok P w K mg base k "_is_number" p__is_number a__is_number) :
    Ok P w K mg base (k + 1) "is_row" p_is_row a_is_row :=
  g_is_row D o__has_parts o_is_sum o__is_number (fun as Q ⟨_, _, _, e, _⟩ => by subst e; rfl) fun as Q ⟨p, n, d, e, hn, q⟩ => by
    subst e
    refine ⟨_, rfl, trivial, 2, d, rfl, ?_⟩
    match d, q with
    | .tuple [a, b], q =>
      refine ⟨fun _ => ⟨_, rfl, _, rfl, _, rfl, trivial, p, n, a, rfl, hn, ?_⟩, fun c => by simp [partsB] at c⟩
      have q' : Q (.bool (sumB p n a && numB p b)) _ := q
      refine ⟨fun c => ⟨_, rfl, _, rfl, _, rfl, trivial, p, n, b, rfl, ?_⟩, fun c => ?_⟩
      · rw [c, Bool.true_and] at q'
        exact q'
      · rw [c, Bool.false_and] at q'
        exact q'
    | .tuple [], q => exact ⟨fun c => by simp [partsB] at c, fun _ => q⟩
    | .tuple [_], q => exact ⟨fun c => by simp [partsB] at c, fun _ => q⟩
    | .tuple (_ :: _ :: _ :: _), q => exact ⟨fun c => by simp [partsB] at c; omega, fun _ => q⟩
    | .none, q => exact ⟨fun c => (nomatch c), fun _ => q⟩
    | .bool _, q => exact ⟨fun c => (nomatch c), fun _ => q⟩
    | .int _, q => exact ⟨fun c => (nomatch c), fun _ => q⟩
    | .str _, q => exact ⟨fun c => (nomatch c), fun _ => q⟩
    | .list _, q => exact ⟨fun c => (nomatch c), fun _ => q⟩
    | .dict _, q => exact ⟨fun c => (nomatch c), fun _ => q⟩
theorem ok_is_house (D : Def K mg "is_house" p_is_house s_is_house) (o_PRIMES : GlobOk K mg "PRIMES" D_PRIMES) (o__has_parts : Ok P w K mg base k "_has_parts" p__has_parts a__has_parts) (o_is_integer : Ok P w K mg base k "is_integer" p_is_integer a_is_integer) :
    Ok P w K mg base (k + 1) "is_house" p_is_house a_is_house :=
  g_is_house D o_PRIMES o__has_parts o_is_integer (fun as Q ⟨_, e, _⟩ => by subst e; rfl) fun as Q ⟨d, e, q⟩ => by
    subst e
    refine ⟨_, rfl, trivial, 2, d, rfl, ?_⟩
    cases hB : partsB 2 d with
    | false =>
      rw [houseB_no hB] at q
      exact ⟨fun _ => ⟨fun _ => q, fun c => (nomatch c)⟩, fun c => (nomatch c)⟩
    | true =>
      obtain ⟨a, b, rfl⟩ := parts2 hB
      refine ⟨fun c => (nomatch c), fun _ => ⟨_, rfl, _, rfl, trivial, a, rfl, ?_⟩⟩
      cases ha : isIntD a with
      | false =>
        rw [houseB_na ha] at q
        exact ⟨fun _ => ⟨fun _ => q, fun c => (nomatch c)⟩, fun c => (nomatch c)⟩
      | true =>
        refine ⟨fun c => (nomatch c), fun _ => ⟨_, rfl, _, rfl, trivial, b, rfl, ?_⟩⟩
        cases hb : isIntD b with
        | false =>
          rw [houseB_nb hb] at q
          exact ⟨fun _ => q, fun c => (nomatch c)⟩
        | true =>
          obtain ⟨p, rfl⟩ := isInt_of ha
          obtain ⟨n, rfl⟩ := isInt_of hb
          refine ⟨fun c => (nomatch c), fun _ => ⟨_, rfl, _, rfl, [.int 2, .int 3, .int 5, .int 7], rfl, rfl, rfl, ?_⟩⟩
          have q' : Q (.bool ((decide (p = 2) || decide (p = 3) || decide (p = 5) || decide (p = 7)) && decide (0 ≤ n))) [.d (.tuple [.int p, .int n])] := q
          have e : hasD [.int 2, .int 3, .int 5, .int 7] (.int p) = (decide (p = 2) || decide (p = 3) || decide (p = 5) || decide (p = 7)) := by
            unfold hasD
            simp only [List.any_cons, List.any_nil, Bool.or_false, eqv_int, Bool.or_assoc, eq_comm]
          show (hasD _ _ = true → _) ∧ (hasD _ _ = false → _)
          rw [e]
          refine ⟨fun c => ⟨_, rfl, _, rfl, ?_⟩, fun c => ?_⟩
          · rw [c, Bool.true_and] at q'
            exact q'
          · rw [c, Bool.false_and] at q'
            exact q'
end
end R

namespace R
open PySem PySem.Spec PyProof.Rows L2 RX
section
variable {P : Program} {w : World} {K : PySem.W.Frag} {mg : Str → Option Value} {base : Heap} {k : Nat} {C_Store : Addr}
theorem ok_Store___init__ (D : DefI K mg "Store" C_Store "Store.__init__" p_Store___init__ s_Store___init__) (T_Store : ClsF K C_Store ["_house", "_rows"]) (o_is_house : Ok P w K mg base k "is_house" p_is_house a_is_house) :
    OkI P w K mg base (k + 1) "Store" C_Store p_Store___init__ (a_Store___init__ C_Store) :=
  g_Store___init__ D T_Store o_is_house (fun as Q ⟨_, _, _, e, _⟩ => by subst e; rfl) fun as Q ⟨l, p, n, e, hh, q⟩ => by
    subst e
    refine ⟨_, rfl, trivial, hD p n, rfl, ?_⟩
    rw [houseB_ok hh]
    refine ⟨fun c => (nomatch c), fun _ => ⟨_, rfl, l, [], rfl, (by decide : (0 : Nat) < 1000), ?_⟩⟩
    refine ⟨Nat.zero_le _, l, _, rfl, (by decide : (1 : Nat) < 1000), ?_⟩
    rw [st_put1, st_put2]
    show Q _ (finS (.ob l C_Store [] :: _) (.ob l C_Store _ :: _))
    rw [finS_ob]
    exact q
theorem ok_Store_tell (D : DefM K C_Store "tell" "Store.tell" p_Store_tell s_Store_tell) (T_Store : ClsF K C_Store ["_house", "_rows"]) (o_is_sum : Ok P w K mg base k "is_sum" p_is_sum a_is_sum) (o_is_row : Ok P w K mg base k "is_row" p_is_row a_is_row)
    (o_given_by : Ok P w K mg base k "given_by" p_given_by a_given_by) : OkM P w K mg base (k + 1) C_Store "tell" p_Store_tell (a_Store_tell C_Store) :=
  g_Store_tell D T_Store o_is_sum o_is_row o_given_by (fun as Q ⟨_, _, _, _, _, _, e, _⟩ => by subst e; rfl) fun as Q ⟨l, p, n, rows, x, v, e, hh, hs, hl, hx, v0, v1, q⟩ => by
    subst e
    have hn : n ≤ 1000 := Nat.le_trans hh.n6 (by decide)
    refine ⟨l, _, _, rfl, st_house _ _, _, rfl, trivial, p, n, dI x, rfl, hn, ?_⟩
    rw [sumB_ok hx]
    refine ⟨fun c => (nomatch c), fun _ => ⟨l, _, _, rfl, st_house _ _, _, rfl, _, rfl, (by decide : (2 : Nat) ≤ sizeLine), trivial, p, n, _, rfl, hn, ?_⟩⟩
    rw [rowB_ok hx v0 v1]
    refine ⟨fun c => (nomatch c), fun _ => ⟨l, _, _, rfl, st_house _ _, l, _, _, rfl, st_rows _ _, _, rfl, trivial, p, n, rows, x, rfl, hh, hs.ok, by omega, hx.1, hx.2, ?_⟩⟩
    rw [M.given_eq hh.pr hs.ok hs.ind hx.1 hx.2]
    cases eg : M.givenL p n rows x with
    | none =>
      have ea : ansL p n rows (x, some v) = .new := by unfold ansL; rw [show M.givenL p n rows (x, some v).1 = none from eg]
      refine ⟨_, rfl, fun _ => ⟨l, _, _, rfl, st_rows _ _, _, rfl, _, rfl, (by decide : (2 : Nat) ≤ sizeLine), (by decide : (1 : Nat) ≤ sizeLine), ?_, l, _, rfl, (by decide : (2 : Nat) < 1000), ?_⟩, fun c => (nomatch c)⟩
      · show (rows.map rD).length + 1 ≤ sizeLine
        rw [List.length_map]
        unfold sizeLine
        omega
      · rw [st_put]
        show Q _ (finS (.ob l C_Store _ :: _) (.ob l C_Store _ :: _))
        rw [finS_ob]
        have er : rowStep p n rows (x, some v) = rows ++ [(x, v)] := by unfold rowStep; rw [if_pos ea]; rfl
        rw [ea, er] at q
        have e2 : PyData.tuple (rows.map rD ++ [.tuple [dI x, .int v]]) = rsD (rows ++ [(x, v)]) := by unfold rsD; rw [List.map_append]; rfl
        rw [e2]
        exact q
    | some r =>
      obtain ⟨r, y⟩ := r
      refine ⟨_, rfl, fun c => (nomatch c), fun _ => ⟨_, rfl, _, rfl, _, rfl, pl_int _, pl_int _, ?_⟩⟩
      rw [eqv_int]
      have ea : ansL p n rows (x, some v) = if r = v then .known else .clash := by unfold ansL; rw [show M.givenL p n rows (x, some v).1 = some (r, y) from eg]
      have er : rowStep p n rows (x, some v) = rows := by unfold rowStep; rw [if_neg (by rw [ea]; split <;> simp)]
      rw [er, ea] at q
      refine ⟨fun c => ?_, fun c => ?_⟩
      · rw [if_pos (of_decide_eq_true c)] at q
        show Q _ (finS (.ob l C_Store _ :: _) (.ob l C_Store _ :: _))
        rw [finS_ob]
        exact q
      · rw [if_neg (of_decide_eq_false c)] at q
        show Q _ (finS (.ob l C_Store _ :: _) (.ob l C_Store _ :: _))
        rw [finS_ob]
        exact q
theorem ok_Store_ask (D : DefM K C_Store "ask" "Store.ask" p_Store_ask s_Store_ask) (T_Store : ClsF K C_Store ["_house", "_rows"]) (o_is_sum : Ok P w K mg base k "is_sum" p_is_sum a_is_sum)
    (o_given_by : Ok P w K mg base k "given_by" p_given_by a_given_by) : OkM P w K mg base (k + 1) C_Store "ask" p_Store_ask (a_Store_ask C_Store) :=
  g_Store_ask D T_Store o_is_sum o_given_by (fun as Q ⟨_, _, _, _, _, e, _⟩ => by subst e; rfl) fun as Q ⟨l, p, n, rows, x, e, hh, hs, hl, hx, q⟩ => by
    subst e
    have hn : n ≤ 1000 := Nat.le_trans hh.n6 (by decide)
    refine ⟨l, _, _, rfl, st_house _ _, _, rfl, trivial, p, n, dI x, rfl, hn, ?_⟩
    rw [sumB_ok hx]
    refine ⟨fun c => (nomatch c), fun _ => ⟨l, _, _, rfl, st_house _ _, l, _, _, rfl, st_rows _ _, _, rfl, trivial, p, n, rows, x, rfl, hh, hs.ok, by omega, hx.1, hx.2, ?_⟩⟩
    rw [M.given_eq hh.pr hs.ok hs.ind hx.1 hx.2]
    cases eg : M.givenL p n rows x with
    | none =>
      have ea : ansL p n rows (x, none) = .opn := by unfold ansL; rw [show M.givenL p n rows (x, none).1 = none from eg]
      rw [ea] at q
      refine ⟨_, rfl, fun _ => ?_, fun c => (nomatch c)⟩
      show Q _ (finS (.ob l C_Store _ :: _) (.ob l C_Store _ :: _))
      rw [finS_ob]
      exact q
    | some r =>
      obtain ⟨r, y⟩ := r
      have ea : ansL p n rows (x, none) = .num r := by unfold ansL; rw [show M.givenL p n rows (x, none).1 = some (r, y) from eg]
      rw [ea] at q
      refine ⟨_, rfl, fun c => (nomatch c), fun _ => ⟨_, rfl, _, rfl, ?_⟩⟩
      show Q _ (finS (.ob l C_Store _ :: _) (.ob l C_Store _ :: _))
      rw [finS_ob]
      exact q
theorem ok_Store_rows (D : DefM K C_Store "rows" "Store.rows" p_Store_rows s_Store_rows) (T_Store : ClsF K C_Store ["_house", "_rows"]) : OkM P w K mg base (k + 1) C_Store "rows" p_Store_rows (a_Store_rows C_Store) :=
  g_Store_rows D T_Store (fun as Q ⟨_, _, _, _, e, _⟩ => by subst e; rfl) fun as Q ⟨l, p, n, rows, e, q⟩ => by
    subst e
    refine ⟨l, _, _, rfl, st_rows _ _, ?_⟩
    show Q _ (finS (.ob l C_Store _ :: _) (.ob l C_Store _ :: _))
    rw [finS_ob]
    exact q
theorem ok__answer_of (D : Def K mg "_answer_of" p__answer_of s__answer_of) (T_Store : ClsF K C_Store ["_house", "_rows"]) (o_Store_tell : OkM P w K mg base k C_Store "tell" p_Store_tell (a_Store_tell C_Store)) (o_Store_ask : OkM P w K mg base k C_Store "ask" p_Store_ask (a_Store_ask C_Store)) :
    Ok P w K mg base (k + 1) "_answer_of" p__answer_of (a__answer_of C_Store) :=
  g__answer_of D T_Store o_Store_tell o_Store_ask (fun as Q ⟨_, _, _, _, _, e, _⟩ => by subst e; rfl) fun as Q ⟨l, p, n, rows, d, e, hh, hs, hl, hd, q⟩ => by
    subst e
    refine ⟨_, rfl, ix_dd0 ⟨pl_kind _, pl_str (by decide +kernel), ?_⟩⟩
    rw [eqv_str, kind_tell]
    obtain ⟨x, o⟩ := d
    cases o with
    | some v =>
      have hv := hd.num v rfl
      refine ⟨fun _ => ⟨⟨l, _, rfl, st_no (by decide +kernel) (by decide +kernel)⟩, ⟨_, _, rfl, rfl⟩, _, rfl, _, rfl, _, rfl, _, rfl, ⟨_, _, rfl, rfl⟩, ⟨trivial, trivial⟩, l, p, n, rows, x, v, rfl, hh, hs, hl, hd.v, hv.1, hv.2, ?_⟩, fun c => (nomatch c)⟩
      show Q _ (finS (.ob l C_Store _ :: _) (.ob l C_Store _ :: _))
      rw [finS_ob]
      exact q
    | none =>
      refine ⟨fun c => (nomatch c), fun _ => ⟨⟨l, _, rfl, st_no (by decide +kernel) (by decide +kernel)⟩, ⟨_, _, rfl, rfl⟩, _, rfl, _, rfl, ⟨_, _, rfl, rfl⟩, ⟨trivial, trivial⟩, l, p, n, rows, x, rfl, hh, hs, hl, hd.v, ?_⟩⟩
      have er : rowStep p n rows (x, none) = rows := by
        unfold rowStep
        rw [if_neg]
        intro c
        obtain ⟨_, v, h⟩ := ansL_new c
        cases h
      rw [er] at q
      show Q _ (finS (.ob l C_Store _ :: _) (.ob l C_Store _ :: _))
      rw [finS_ob]
      exact q
theorem ok_answers_by (D : Def K mg "answers_by" p_answers_by s_answers_by) (T_Store : ClsF K C_Store ["_house", "_rows"]) (o__answer_of : Ok P w K mg base k "_answer_of" p__answer_of (a__answer_of C_Store)) {j : Nat} (hj : j + 1 ≤ k)
    (o_Store___init__ : OkI P w K mg base j "Store" C_Store p_Store___init__ (a_Store___init__ C_Store)) (m_len : mg "len" = none) (m_tuple : mg "tuple" = none) : Ok P w K mg base (k + 1) "answers_by" p_answers_by a_answers_by :=
  g_answers_by (m_len := m_len) (m_tuple := m_tuple) D T_Store o__answer_of hj o_Store___init__ (fun as Q ⟨_, _, _, _, e, _⟩ => by subst e; rfl) fun as Q ⟨p, n, cs, ns, e, hh, hd, hl, pm, q⟩ => by
    subst e
    have nd : ns.Nodup := pm.symm.nodup List.nodup_range
    have ln : ns.length = cs.length := by rw [pm.length_eq, List.length_range]
    have lt : ∀ i ∈ ns, i < cs.length := fun i hi => List.mem_range.mp (pm.mem_iff.mp hi)
    refine ⟨(by decide : (1 : Nat) ≤ sizeLine), _, rfl, ix_wh1 ⟨?_, fun l => ?_⟩⟩
    · rw [List.length_map]
      unfold sizeLine
      simp only [List.length_singleton]
      omega
    have e0 : (List.replicate ((((cs.map clD).length : Nat) : Int)).toNat [PyData.none]).flatten = ansP p n cs ns 0 := by
      rw [List.length_map, Int.toNat_natCast, ansP_zero]
      clear hl ln
      induction cs.length with
      | zero => rfl
      | succ m ih => rw [List.replicate_succ, List.flatten_cons, ih]; rfl
    rw [e0]
    refine ⟨_, rfl, ix_wh0 fun l2 => ⟨l2, p, n, rfl, hh, rfl, _, rfl, fun l3 => ⟨_, rfl, natsD ns, rfl, ?_⟩⟩⟩
    unfold natsD
    refine for_inv (fun zs sl => ∃ k u4, zs = ns.drop k ∧ k ≤ ns.length ∧ sl = [.d (whD p n cs), .d (ordD ns), .m l (ansP p n cs ns k), stO l3 C_Store p n (rowsFrom p n [] ((ddsOf cs ns).take k)), u4])
      (fun sl ⟨k, u4, hk, hle, e⟩ => ?_) (fun z zs sl R ⟨k, u4, hk, hle, e⟩ hR => ?_) ⟨0, _, rfl, Nat.zero_le _, rfl⟩
    · subst e
      have ek : k = ns.length := by
        have := congrArg List.length hk
        rw [List.length_drop, List.length_nil] at this
        omega
      subst ek
      refine ⟨l, _, rfl, ?_⟩
      rw [ansP_all pm]
      exact q
    · subst e
      have hlt : k < ns.length := by
        have := congrArg List.length hk
        rw [List.length_drop, List.length_cons] at this
        omega
      rw [List.drop_eq_getElem_cons hlt] at hk
      obtain ⟨ez, ezs⟩ := List.cons.inj hk
      subst ez
      have hz := lt _ (List.getElem_mem hlt)
      refine ⟨⟨_, _, rfl, rfl⟩, _, rfl, ix_wh1 ⟨_, rfl, ix_cs (clAt_get hz) (ix_cl0 ⟨⟨_, _, rfl, rfl⟩, ⟨trivial, trivial⟩, l3, p, n, _, _, rfl, hh, rows_ok hh.pr hd lt k, Nat.le_trans (rows_len k) (by omega), hd _ (clAt_mem hz), ?_⟩)⟩⟩
      refine ⟨⟨l, _, rfl⟩, _, rfl, l, _, ns[k], rfl, ?_, hR _ ⟨k + 1, .d (.int (ns[k] : Nat)), ezs, hlt, ?_⟩⟩
      · exact ixn (by rw [ansP_len]; exact hz)
      · rw [← ansO_get hlt, ansP_step nd hlt, rows_step hlt]
        rfl
end
end R

namespace R
open PySem PySem.Spec PyProof.Rows L2 RX
section
variable {P : Program} {w : World} {K : PySem.W.Frag} {mg : Str → Option Value} {base : Heap} {k : Nat} {C_Store : Addr}
theorem ok_first_wrong (D : Def K mg "first_wrong" p_first_wrong s_first_wrong) (o_answers_by : Ok P w K mg base k "answers_by" p_answers_by a_answers_by) (m_enumerate : mg "enumerate" = none) : Ok P w K mg base (k + 1) "first_wrong" p_first_wrong a_first_wrong :=
  g_first_wrong (m_enumerate := m_enumerate) D o_answers_by (fun as Q ⟨_, _, _, _, e, _⟩ => by subst e; rfl) fun as Q ⟨p, n, cs, ns, e, hh, hd, ha, hl, pm, q⟩ => by
    subst e
    have nd : ns.Nodup := pm.symm.nodup List.nodup_range
    have ln : ns.length = cs.length := by rw [pm.length_eq, List.length_range]
    have lt : ∀ i ∈ ns, i < cs.length := fun i hi => List.mem_range.mp (pm.mem_iff.mp hi)
    refine ⟨_, rfl, _, rfl, trivial, p, n, cs, ns, rfl, hh, hd, hl, pm, _, rfl, natsD ns, rfl, ?_⟩
    unfold natsD
    rw [enD_map (fun i : Nat => PyData.int (i : Nat)) 0 ns]
    rw [wrongK_eq] at q
    refine for_inv (fun zs sl => ∃ k u3 u4, zs = (List.range ns.length).drop k ∧ k ≤ ns.length ∧ (List.range ns.length).find? (fun k => !decide ((clAt cs (ns.getD k 0)).a = some (some ((ansO p n cs ns).getD k .opn)))) = ((List.range ns.length).drop k).find? (fun k => !decide ((clAt cs (ns.getD k 0)).a = some (some ((ansO p n cs ns).getD k .opn)))) ∧
        sl = [.d (whD p n cs), .d (ordD ns), .d (.tuple ((ansAt p n cs ns).map anD)), u3, u4])
      (fun sl ⟨k, u3, u4, hk, hle, hf, e⟩ => ?_) (fun z zs sl R ⟨k, u3, u4, hk, hle, hf, e⟩ hR => ?_) ⟨0, _, _, rfl, Nat.zero_le _, rfl, rfl⟩
    · subst e
      rw [hf, ← hk] at q
      exact q
    · subst e
      have hlt : k < ns.length := by
        have := congrArg List.length hk
        rw [List.length_drop, List.length_range, List.length_cons] at this
        omega
      rw [List.drop_eq_getElem_cons (by rw [List.length_range]; exact hlt), List.getElem_range] at hk
      obtain ⟨ez, ezs⟩ := List.cons.inj hk
      subst ez
      rw [List.drop_eq_getElem_cons (by rw [List.length_range]; exact hlt), List.getElem_range, List.find?_cons] at hf
      have eg : ns.getD z 0 = ns[z] := by rw [List.getD_eq_getElem?_getD, List.getElem?_eq_getElem hlt]; rfl
      have hz := lt _ (List.getElem_mem hlt)
      obtain ⟨a, ea⟩ := ha _ (clAt_mem hz)
      rw [eg] at hf
      refine ⟨rfl, _, rfl, ?_⟩
      rw [eg]
      refine ix_wh1 ⟨_, rfl, ix_cs (clAt_get hz) (ix_cl3 ea ⟨_, rfl, _, rfl, ix_t (d := anD ((ansO p n cs ns).getD z .opn)) (by rw [List.getElem?_map, ansAt_get pm hlt]; rfl) ⟨pl_oan _, pl_an _, ?_⟩⟩)⟩
      show ((!PyData.eqv (anD a) (anD ((ansO p n cs ns).getD z .opn))) = true → _) ∧ ((!PyData.eqv (anD a) (anD ((ansO p n cs ns).getD z .opn))) = false → _)
      rw [eqv_an]
      have ed : decide ((clAt cs ns[z]).a = some (some ((ansO p n cs ns).getD z .opn))) = decide (a = (ansO p n cs ns).getD z .opn) := by
        rw [ea]
        refine decide_eq_decide.mpr ⟨fun h => by injection h with h; injection h, fun h => by rw [h]⟩
      rw [ed] at hf
      refine ⟨fun c => ?_, fun c => ?_⟩
      · rw [c] at hf
        rw [hf] at q
        exact ⟨_, rfl, q⟩
      · rw [c] at hf
        refine hR _ ⟨z + 1, .d (.int (z : Nat)), .d (.int ((ns[z] : Nat))), ezs, hlt, hf, rfl⟩
theorem ok_store_at (D : Def K mg "store_at" p_store_at s_store_at) (T_Store : ClsF K C_Store ["_house", "_rows"]) (o__answer_of : Ok P w K mg base k "_answer_of" p__answer_of (a__answer_of C_Store)) (o_Store_rows : OkM P w K mg base k C_Store "rows" p_Store_rows (a_Store_rows C_Store))
    {j : Nat} (hj : j + 1 ≤ k) (o_Store___init__ : OkI P w K mg base j "Store" C_Store p_Store___init__ (a_Store___init__ C_Store)) : Ok P w K mg base (k + 1) "store_at" p_store_at a_store_at :=
  g_store_at D T_Store o__answer_of o_Store_rows hj o_Store___init__ (fun as Q ⟨_, _, _, _, _, e, _⟩ => by subst e; rfl) fun as Q ⟨p, n, cs, ns, m, e, hh, hd, hl, pm, hm, q⟩ => by
    subst e
    have ln : ns.length = cs.length := by rw [pm.length_eq, List.length_range]
    have lt : ∀ i ∈ ns, i < cs.length := fun i hi => List.mem_range.mp (pm.mem_iff.mp hi)
    refine ⟨_, rfl, ix_wh0 fun l2 => ⟨l2, p, n, rfl, hh, rfl, _, rfl, fun l3 => ⟨_, rfl, _, rfl, ?_⟩⟩⟩
    refine ⟨_, rfl, ?_⟩
    rw [cut_take]
    have et : (natsD ns).take m = (ns.take m).map fun i : Nat => PyData.int (i : Nat) := by unfold natsD; rw [List.map_take]
    rw [et]
    refine for_inv (fun zs sl => ∃ k u4, zs = (ns.take m).drop k ∧ k ≤ m ∧ sl = [.d (whD p n cs), .d (ordD ns), .d (.int (m : Nat)), stO l3 C_Store p n (rowsFrom p n [] ((ddsOf cs ns).take k)), u4])
      (fun sl ⟨k, u4, hk, hle, e⟩ => ?_) (fun z zs sl R ⟨k, u4, hk, hle, e⟩ hR => ?_) ⟨0, _, rfl, Nat.zero_le _, rfl⟩
    · subst e
      have ek : k = m := by
        have := congrArg List.length hk
        rw [List.length_drop, List.length_take, List.length_nil] at this
        omega
      subst ek
      exact ⟨⟨l3, _, rfl, st_no (by decide +kernel) (by decide +kernel)⟩, ⟨_, _, rfl, rfl⟩, ⟨_, _, rfl, rfl⟩, ⟨trivial, trivial⟩, l3, p, n, _, rfl, q⟩
    · subst e
      have hlt : k < (ns.take m).length := by
        have := congrArg List.length hk
        rw [List.length_drop, List.length_cons] at this
        omega
      have hlm : k < m ∧ k < ns.length := by rw [List.length_take] at hlt; omega
      rw [List.drop_eq_getElem_cons hlt, List.getElem_take] at hk
      obtain ⟨ez, ezs⟩ := List.cons.inj hk
      subst ez
      have hz := lt _ (List.getElem_mem hlm.2)
      refine ⟨⟨_, _, rfl, rfl⟩, _, rfl, ix_wh1 ⟨_, rfl, ix_cs (clAt_get hz) (ix_cl0 ⟨⟨_, _, rfl, rfl⟩, ⟨trivial, trivial⟩, l3, p, n, _, _, rfl, hh, rows_ok hh.pr hd lt k, Nat.le_trans (rows_len k) (by omega), hd _ (clAt_mem hz), ?_⟩)⟩⟩
      refine hR _ ⟨k + 1, .d (.int (ns[k] : Nat)), ezs, by omega, ?_⟩
      rw [rows_step hlm.2]
      rfl
theorem ok_is_order (D : Def K mg "is_order" p_is_order s_is_order) (o_is_integer : Ok P w K mg base k "is_integer" p_is_integer a_is_integer) (o_is_ahead : Ok P w K mg base k "is_ahead" p_is_ahead a_is_ahead)
    (m_isinstance : mg "isinstance" = none) (m_tuple : mg "tuple" = none) (m_all : mg "all" = none) (m_sorted : mg "sorted" = none) (m_len : mg "len" = none) (m_list : mg "list" = none) (m_range : mg "range" = none) (m_any : mg "any" = none) :
    Ok P w K mg base (k + 1) "is_order" p_is_order a_is_order :=
  g_is_order (m_isinstance := m_isinstance) (m_tuple := m_tuple) (m_all := m_all) (m_sorted := m_sorted) (m_len := m_len) (m_list := m_list) (m_range := m_range) (m_any := m_any) D o_is_integer o_is_ahead (fun as Q ⟨_, _, _, _, e, _⟩ => by subst e; rfl)
    fun as Q ⟨p, n, cs, d, e, hf, hl, hx, q⟩ => by
    subst e
    refine ⟨_, rfl, ?_⟩
    have no : intsB d = none → Q (.bool false) [.d (whD p n cs), .d d] := fun h => by
      have q' := q
      unfold ordB at q'
      rw [h] at q'
      exact q'
    cases d with
    | tuple xs =>
      have hz : xs.length ≤ 1000 := hx xs rfl
      refine ⟨fun c => (nomatch c), fun _ => ⟨_, rfl, xs, rfl, ?_⟩⟩
      refine lc_mapD (f := fun d => PyData.bool (isIntD d)) (sl0 := [.d (whD p n cs), .d (.tuple xs), .un, .un, .un]) rfl rfl (fun z hz Y Z hY => ⟨fun _ => ⟨_, rfl, trivial, z, rfl, hY _ rfl⟩, fun c => (nomatch c)⟩) (by omega) ?_
      refine ⟨xs.map isIntD, by rw [List.map_map]; rfl, ?_⟩
      rw [List.all_map, show (id ∘ isIntD) = isIntD from rfl]
      cases hi : xs.all isIntD with
      | false => exact ⟨fun _ => no (intsB_no hi), fun c => (nomatch c)⟩
      | true =>
        obtain ⟨is, rfl, ei⟩ := intsB_of hi
        refine ⟨fun c => (nomatch c), fun _ => ⟨_, rfl, .tuple (is.map .int), is, rfl, rfl, fun out h1 h2 => ⟨_, rfl, ix_wh1 ⟨⟨by omega, by rw [List.length_map]; omega⟩, ?_⟩⟩⟩⟩
        rw [rgD_cs]
        have er : (List.range cs.length).map (fun i : Nat => PyData.int (i : Nat)) = ((List.range cs.length).map fun i : Nat => (i : Int)).map PyData.int := by rw [List.map_map]; rfl
        rw [er]
        refine ⟨pl_lI _, pl_lI _, ?_⟩
        show ((!PyData.eqv (lI out) (lI ((List.range cs.length).map fun i : Nat => (i : Int)))) = true → _) ∧ ((!PyData.eqv (lI out) (lI ((List.range cs.length).map fun i : Nat => (i : Int)))) = false → _)
        rw [eqv_lI, sorted_rangeI h1 h2]
        have q' : Q (.bool (decide (is.Perm ((List.range cs.length).map fun i : Nat => (i : Int))) && isOrd cs (natsOf is))) [.d (whD p n cs), .d (.tuple (is.map .int))] := by
          unfold ordB at q
          rw [ei] at q
          exact q
        by_cases pm : is.Perm ((List.range cs.length).map fun i : Nat => (i : Int))
        · rw [decide_eq_true pm] at q' ⊢
          rw [Bool.true_and] at q'
          obtain ⟨e1, pn⟩ := nats_perm pm
          refine if_no rfl ⟨_, rfl, ?_⟩
          have hlen : is.length = (natsOf is).length := by rw [e1, List.length_map, ← e1]
          have hl2 : (natsOf is).length = cs.length := by rw [pn.length_eq, List.length_range]
          generalize natsOf is = ns at e1 pn q' hlen hl2
          subst e1
          unfold isOrd at q'
          rw [decide_eq_true pn, Bool.true_and, ← any_ahead (ah_irr hf)] at q'
          refine ⟨⟨by omega, by rw [List.length_map, List.length_map]; omega⟩, ?_⟩
          rw [List.length_map, List.length_map, Int.toNat_natCast, rgD0]
          unfold natsD
          have lt : ∀ {i : Nat}, i < ns.length → ns.getD i 0 < cs.length := fun {i} h => by
            rw [List.getD_eq_getElem?_getD, List.getElem?_eq_getElem h]
            exact List.mem_range.mp (pn.mem_iff.mp (List.getElem_mem h))
          have gt : ∀ {i : Nat}, i < ns.length → ((ns.map fun i : Nat => (i : Int)).map PyData.int)[i]? = some (.int ((ns.getD i 0 : Nat))) := fun {i} h => by
            rw [List.getElem?_map, List.getElem?_map, List.getElem?_eq_getElem h, List.getD_eq_getElem?_getD, List.getElem?_eq_getElem h]
            rfl
          refine lc2_map (h := fun i : Nat => PyData.int (i : Nat)) (F := fun j => (List.range j).map fun i => PyData.bool (aheadIx cs (ns.getD j 0) (ns.getD i 0)))
            (sl0 := [.d (whD p n cs), .d (.tuple ((ns.map fun i : Nat => (i : Int)).map .int)), .un, .un, .un]) rfl rfl (fun j hj acc Nx Z ha hN => ⟨fun _ => ⟨_, rfl, ⟨by omega, ?_⟩, ?_⟩, fun c => (nomatch c)⟩) ?_ ?_
          · have := List.mem_range.mp hj
            omega
          · have hj' := List.mem_range.mp hj
            rw [Int.toNat_natCast, rgD0]
            unfold natsD
            rw [List.length_map, List.length_range] at ha
            refine lcIn_map (h := fun i : Nat => PyData.int (i : Nat)) (f := fun i => PyData.bool (aheadIx cs (ns.getD j 0) (ns.getD i 0)))
              (sl0 := [.d (whD p n cs), .d (.tuple ((ns.map fun i : Nat => (i : Int)).map .int)), .un, .d (.int (j : Nat)), .un]) rfl rfl (fun i hi Y Z' hY => ⟨fun _ => ?_, fun c => (nomatch c)⟩) (by rw [List.length_range]; omega) (hN _ rfl)
            have hi' := List.mem_range.mp hi
            exact ⟨_, rfl, _, rfl, _, rfl, ix_t (gt hj') ⟨_, rfl, _, rfl, ix_t (gt (by omega)) ⟨trivial, p, n, cs, _, _, rfl, lt hj', lt (by omega), hY _ rfl⟩⟩⟩
          · rw [List.length_nil, Nat.zero_add]
            have h1 : ((List.range ns.length).flatMap fun j => (List.range j).map fun i => PyData.bool (aheadIx cs (ns.getD j 0) (ns.getD i 0))).length ≤ (List.range ns.length).length * 100 := flatMap_len fun j hj => by
              have := List.mem_range.mp hj
              rw [List.length_map, List.length_range]
              omega
            rw [List.length_range] at h1
            omega
          · refine ⟨((List.range ns.length).flatMap fun j => (List.range j).map fun i => aheadIx cs (ns.getD j 0) (ns.getD i 0)), ?_, q'⟩
            rw [List.nil_append, List.map_flatMap]
            simp only [List.map_map]
            rfl
        · rw [decide_eq_false pm] at q' ⊢
          rw [Bool.false_and] at q'
          exact if_yes rfl q'
    | _ => exact ⟨fun _ => ⟨fun _ => no rfl, fun c => (nomatch c)⟩, fun c => (nomatch c)⟩
theorem ok_is_weaving (D : Def K mg "is_weaving" p_is_weaving s_is_weaving) (o_is_order : Ok P w K mg base k "is_order" p_is_order a_is_order) (o_first_wrong : Ok P w K mg base k "first_wrong" p_first_wrong a_first_wrong) : Ok P w K mg base (k + 1) "is_weaving" p_is_weaving a_is_weaving :=
  g_is_weaving D o_is_order o_first_wrong (fun as Q ⟨_, _, _, _, e, _⟩ => by subst e; rfl) fun as Q ⟨p, n, cs, d, e, hh, hf, hd, ha, hl, hx, q⟩ => by
    subst e
    refine ⟨_, rfl, _, rfl, trivial, p, n, cs, d, rfl, hf, by omega, hx, ?_⟩
    unfold weavB at q
    cases hb : ordB cs d with
    | false =>
      rw [hb] at q
      exact ⟨fun c => (nomatch c), fun _ => q⟩
    | true =>
      rw [hb, Bool.true_and] at q
      obtain ⟨is, ei, pm⟩ := ordB_ints hb
      obtain ⟨e1, pn⟩ := nats_perm pm
      rw [ei] at q
      have q : Q (.bool (wrongK p n cs (natsOf is)).isNone) [.d (whD p n cs), .d d] := q
      have ed : d = ordD (natsOf is) := by
        rw [intsB_eq ei]
        unfold ordD natsD
        conv => lhs; rw [e1]
        rw [List.map_map]
        rfl
      refine ⟨fun _ => ⟨_, rfl, _, rfl, trivial, p, n, cs, natsOf is, by rw [ed]; rfl, hh, hd, ha, hl, pn, ?_⟩, fun c => (nomatch c)⟩
      show Q (.bool (isNone _)) _
      rw [isNone_oI]
      cases hw : wrongK p n cs (natsOf is) with
      | none => rw [hw] at q; exact q
      | some v => rw [hw] at q; exact q
end
end R

namespace R
open PySem PySem.Spec PyProof.Rows L2 RX
section
variable {P : Program} {w : World} {K : PySem.W.Frag} {mg : Str → Option Value} {base : Heap} {k : Nat}
theorem ok_empty_sum (D : Def K mg "empty_sum" p_empty_sum s_empty_sum) : Ok P w K mg base (k + 1) "empty_sum" p_empty_sum a_empty_sum :=
  g_empty_sum D (fun as Q ⟨p, n, e, _⟩ => by subst e; rfl) fun as Q ⟨p, n, e, hh, q⟩ => by
    subst e
    have := hh.n6
    refine ⟨by decide, _, rfl, ix_h1 ⟨⟨by simp, by omega, by omega, by decide⟩, ?_⟩⟩
    rw [rep0]
    exact q
theorem ok_times (D : Def K mg "times" p_times s_times) (m_tuple : mg "tuple" = none) : Ok P w K mg base (k + 1) "times" p_times a_times :=
  g_times D m_tuple (fun as Q ⟨p, n, k, x, e, _⟩ => by subst e; rfl) fun as Q ⟨p, n, k, x, e, hh, hk, hl, q⟩ => by
    subst e
    refine ⟨_, rfl, _, rfl, ?_⟩
    refine lc_map (f := fun z => .int ((k * z).fmod p)) rfl rfl (fun z hz Y Z hY => ⟨fun _ => ⟨_, rfl, _, rfl, cmul_l hk.1 hk.2, _, rfl, ix_h0 ⟨hh.ne, ?_⟩⟩, nofun⟩) (by omega) ?_
    · exact hY _ rfl
    · show Q (.tuple (x.map fun z => .int ((k * z).fmod p))) _
      rw [show (fun z : Int => PyData.int ((k * z).fmod p)) = PyData.int ∘ fun z => (k * z).fmod p from rfl, ← List.map_map]
      exact q
theorem ok__less (D : Def K mg "_less" p__less s__less) (m_tuple : mg "tuple" = none) (m_zip : mg "zip" = none) : Ok P w K mg base (k + 1) "_less" p__less a__less := by
  refine g__less (m_tuple := m_tuple) (m_zip := m_zip) D ?_ ?_
  · rintro as Q ⟨p, n, x, k, y, rfl, _⟩; rfl
  · rintro as Q ⟨p, n, x, k, y, rfl, hh, hk, hl, q⟩
    refine ⟨_, rfl, _, rfl, _, _, rfl, rfl, ?_⟩
    rw [zipI]
    refine lc_map (f := fun z => .int ((z.1 - k * z.2).fmod p)) rfl rfl (fun z hz Y Z hY => ⟨rfl, fun _ => ⟨_, rfl, _, rfl, _, rfl, cmul_l hk.1 hk.2, _, rfl, ix_h0 ⟨hh.ne, ?_⟩⟩, nofun⟩) (by rw [List.length_zip]; omega) ?_
    · exact hY _ rfl
    · show Q (.tuple ((x.zip y).map fun z => .int ((z.1 - k * z.2).fmod p))) _
      rw [show (fun z : Int × Int => PyData.int ((z.1 - k * z.2).fmod p)) = PyData.int ∘ fun z => (z.1 - k * z.2).fmod p from rfl, ← List.map_map, map_zip_less]
      exact q
theorem ok__lead_of (D : Def K mg "_lead_of" p__lead_of s__lead_of) (m_range : mg "range" = none) : Ok P w K mg base (k + 1) "_lead_of" p__lead_of a__lead_of :=
  g__lead_of D m_range (fun as Q ⟨p, n, y, e, _⟩ => by subst e; rfl) fun as Q ⟨p, n, y, e, hh, hl, q⟩ => by
    subst e
    have := hh.n6
    refine ⟨_, rfl, ix_h1 ⟨⟨by omega, by omega⟩, ?_⟩⟩
    rw [show ((n : Int)).toNat = n by omega]
    unfold rgD
    refine for_inv (fun zs sl => zs.find? (fun i => decide (M.at_ y i ≠ 0)) = M.leadOf n y ∧ (∀ z ∈ zs, z < n) ∧ ∃ u, sl = [.d (hD p n), .d (dI y), u]) (fun sl ⟨h1, _, u, h2⟩ => ?_) (fun z zs sl R ⟨h1, h2, u, h3⟩ hR => ?_) ⟨rfl, fun z hz => List.mem_range.mp hz, .un, rfl⟩
    · subst h2
      rw [← h1] at q
      exact q
    · subst h3
      have hz := h2 z (List.mem_cons_self ..)
      refine ⟨_, rfl, _, rfl, ?_⟩
      rw [show (0 : Int) + (z : Int) = (z : Int) by omega]
      refine ix_dI (by omega) ⟨pl_int _, pl_int _, ?_⟩
      rw [eqv_int]
      refine ⟨fun c => ⟨_, rfl, ?_⟩, fun c => hR _ ⟨?_, fun z' h' => h2 z' (List.mem_cons_of_mem _ h'), _, rfl⟩⟩
      · have c' : M.at_ y z ≠ 0 := by simpa using c
        rw [List.find?_cons_of_pos (by simpa using c')] at h1
        rw [← h1] at q
        exact q
      · have c' : M.at_ y z = 0 := by simpa using c
        rw [List.find?_cons_of_neg (by simpa using c')] at h1
        exact h1
theorem ok__inverse (D : Def K mg "_inverse" p__inverse s__inverse) (m_range : mg "range" = none) : Ok P w K mg base (k + 1) "_inverse" p__inverse a__inverse :=
  g__inverse D m_range (fun as Q ⟨p, n, y, e, _⟩ => by subst e; rfl) fun as Q ⟨p, n, a, e, hh, h0, h1, q⟩ => by
    subst e
    have := hh.p10
    refine ⟨_, rfl, ix_h0 ⟨by omega, ?_⟩⟩
    have er : rgD 1 (p - 1).toNat = (M.rng 1 p).map PyData.int := by unfold rgD M.rng; rw [List.map_map]; rfl
    obtain ⟨r, hr⟩ := M.inv_ne hh.pr h0 h1
    rw [er]
    refine lc_filter (f := PyData.int) (c := fun b => decide ((a * b).fmod p = 1)) rfl rfl (fun z hz Y Z hY hZ => ?_) ?_ ?_
    · have hz' := M.mem_rng.mp hz
      refine ⟨_, rfl, _, rfl, cmul_l (by omega) (by omega), _, rfl, ix_h0 ⟨hh.ne, pl_int _, pl_int _, ?_⟩⟩
      rw [eqv_int]
      exact ⟨fun c => ⟨_, rfl, hY c _ rfl⟩, fun c => hZ c _ rfl⟩
    · unfold M.rng; rw [List.length_map, List.length_range]; omega
    · rw [hr]
      exact ix_l (i := 0) rfl q
theorem ok__line_of (D : Def K mg "_line_of" p__line_of s__line_of) (m_tuple : mg "tuple" = none) (m_range : mg "range" = none) (m_len : mg "len" = none) : Ok P w K mg base (k + 1) "_line_of" p__line_of a__line_of :=
  g__line_of (m_tuple := m_tuple) (m_range := m_range) (m_len := m_len) D (fun as Q ⟨p, n, y, e, _⟩ => by subst e; rfl) fun as Q ⟨rows, i, r, e, hi, hl, hr, q⟩ => by
    subst e
    refine ⟨_, rfl, _, rfl, ix_t (d := rD r) (by rw [List.getElem?_map, hi]; rfl) ⟨rfl, ?_⟩⟩
    refine ⟨_, rfl, _, rfl, (by decide : (1 : Nat) ≤ sizeLine), ⟨?_, _, rfl, ⟨⟨?_, ?_⟩, ?_⟩⟩⟩
    · rw [List.length_map]; unfold sizeLine; simp; omega
    · omega
    · rw [List.length_map]; omega
    · rw [List.length_map, show ((rows.length : Int)).toNat = rows.length by omega]
      refine lc_map (f := fun j : Nat => .int (if j = i then 1 else 0)) rfl rfl (fun z hz Y Z hY => ⟨fun _ => ⟨_, rfl, _, rfl, pl_int _, pl_int _, ?_⟩, nofun⟩) (by rw [List.length_range]; omega) ⟨?_, ?_⟩
      · rw [eqv_int]
        refine ⟨fun c => ?_, fun c => ?_⟩
        · have e : (if z = i then (1 : Int) else 0) = 1 := if_pos (by have := of_decide_eq_true c; omega)
          rw [e] at hY
          exact hY _ rfl
        · have e : (if z = i then (1 : Int) else 0) = 0 := if_neg (by have := of_decide_eq_false c; omega)
          rw [e] at hY
          exact hY _ rfl
      · rw [List.length_append, List.length_map, List.length_map, List.length_range]
        unfold sizeLine
        simp
        omega
      · have e : r.1.map PyData.int ++ [PyData.int r.2] ++ (List.range rows.length).map (fun j : Nat => PyData.int (if j = i then 1 else 0)) = (M.lineOf rows.length i r).map PyData.int := by
          unfold M.lineOf M.unit
          rw [List.map_append, List.map_append, List.map_map]
          rfl
        show Q (.tuple (r.1.map PyData.int ++ [PyData.int r.2] ++ (List.range rows.length).map (fun j : Nat => PyData.int (if j = i then 1 else 0)))) _
        rw [e]
        exact q
theorem ok__cleared (D : Def K mg "_cleared" p__cleared s__cleared) (o__less : Ok P w K mg base k "_less" p__less a__less) : Ok P w K mg base (k + 1) "_cleared" p__cleared a__cleared :=
  g__cleared D o__less (fun as Q ⟨p, n, x, y, _, e, _⟩ => by subst e; rfl) fun as Q ⟨p, n, y0, E, N, e, hh, hE, hy0, hn, hN, rd0, q⟩ => by
    subst e
    have hpos := hh.pos
    have h10 := hh.p10
    refine ⟨_, rfl, ?_⟩
    rw [List.map_map]
    refine for_inv (h := (fun q : PyData × PyData => q.1) ∘ kvD) (fun zs sl => ∃ y u, sl = [.d (hD p n), .d (dI y), .d (eD E), u] ∧ y.length = N ∧ M.Red p y ∧ M.red p zs y = M.red p E y0 ∧ ∀ z ∈ zs, z ∈ E) (fun sl ⟨y, u, e, _, _, hm, _⟩ => ?_) (fun z zs sl R ⟨y, u, e, hy, rd, hm, hz⟩ hR => ?_) ⟨y0, .un, rfl, hy0, rd0, rfl, fun z hz => hz⟩
    · subst e
      have hm' : y = M.red p E y0 := hm
      rw [← hm'] at q
      exact ⟨_, rfl, q⟩
    · subst e
      have mz := hz z (List.mem_cons_self ..)
      have zl := hE.2.2.1 z mz
      have b := M.at_red hpos rd z.1
      refine ⟨_, rfl, _, rfl, _, rfl, _, rfl, ix_dI (by omega) ⟨_, rfl, _, rfl, .inl (z.1 : Int), dI z.2, rfl, look_mem mz hE.2.1, trivial, p, n, y, M.at_ y z.1, z.2, rfl, hh, ⟨by omega, by omega⟩, by omega, hR _ ⟨_, _, rfl, M.less_len hy (hE.1 z mz), M.red_less hpos, hm, fun z' h' => hz z' (List.mem_cons_of_mem _ h')⟩⟩⟩
theorem ok__sifted (D : Def K mg "_sifted" p__sifted s__sifted) (m_range : mg "range" = none) (m_len : mg "len" = none) (o__cleared : Ok P w K mg base k "_cleared" p__cleared a__cleared) (o__line_of : Ok P w K mg base k "_line_of" p__line_of a__line_of)
    (o__lead_of : Ok P w K mg base k "_lead_of" p__lead_of a__lead_of) (o_times : Ok P w K mg base k "times" p_times a_times) (o__inverse : Ok P w K mg base k "_inverse" p__inverse a__inverse) (o__less : Ok P w K mg base k "_less" p__less a__less) :
    Ok P w K mg base (k + 1) "_sifted" p__sifted a__sifted :=
  g__sifted (m_range := m_range) (m_len := m_len) D o__cleared o__line_of o__lead_of o_times o__inverse o__less (fun as Q ⟨p, n, x, e, _⟩ => by subst e; rfl) fun as Q ⟨p, n, rows, e, hh, hr, hl, q⟩ => by
    subst e
    have h6 := hh.n6
    have hpos := hh.pos
    have h10 := hh.p10
    have hp := hh.pr
    refine ⟨Nat.zero_le _, fun l2 l3 => ⟨_, rfl, ⟨by omega, by rw [List.length_map]; omega⟩, ?_⟩⟩
    rw [List.length_map, show ((rows.length : Int)).toNat = rows.length by omega]
    have nN : n ≤ n + 1 + rows.length := by omega
    refine for_inv (fun zs sl => ∃ E S Ls s2 l3 u4 u5 u6 u7, sl = [.d (hD p n), .d (rsD rows), s2, .m l3 (S.map dI), u4, u5, u6, u7] ∧ ((∃ l, s2 = .md l (E.map kvD)) ∨ s2 = .d (eD E)) ∧ M.Ech p (n + 1 + rows.length) n Ls E S ∧ M.Full E ∧
        (zs.map fun i => M.lineOf rows.length i (rows.getD i ([], 0))).foldl (M.step p n) (E, S) = M.sift p n (M.lines rows) ∧ (∀ z ∈ zs, z < rows.length) ∧ S.length + zs.length ≤ 100 ∧ E.length + zs.length ≤ 100)
      (fun sl ⟨E, S, Ls, s2, l3, u4, u5, u6, u7, e, h2, ec, fu, hm, _⟩ => ?_) (fun z zs sl R ⟨E, S, Ls, s2, l3, u4, u5, u6, u7, e, h2, ec, fu, hm, hz, hS, hE⟩ hR => ?_)
      ⟨[], [], [], _, l3, _, _, _, _, rfl, .inl ⟨l2, rfl⟩, M.ech_nil hpos nN, ⟨by simp, fun q hq => by simp at hq⟩, by rw [lines_eq]; rfl, fun z hz => List.mem_range.mp hz, by rw [List.length_range]; simp; omega, by rw [List.length_range]; simp; omega⟩
    · subst e
      have hm' : (E, S) = M.sift p n (M.lines rows) := hm
      rw [← hm'] at q
      rcases h2 with ⟨l, rfl⟩ | rfl
      · exact .inl ⟨_, _, rfl, _, _, rfl, (by decide : (2 : Nat) ≤ sizeLine), q⟩
      · exact .inr ⟨_, rfl, _, _, rfl, (by decide : (2 : Nat) ≤ sizeLine), q⟩
    · subst e
      have zlt := hz z (List.mem_cons_self ..)
      have hg : rows[z]? = some (rows.getD z ([], 0)) := by rw [List.getD_eq_getElem?_getD, List.getElem?_eq_getElem zlt]; rfl
      have hrow := hr (rows.getD z ([], 0)) (List.mem_of_getElem? hg)
      obtain ⟨lL, rL⟩ := M.lineOf_ok hp.1 (m := rows.length) (i := z) hrow
      have st := M.step_ok hp ec fu lL rL
      have hm1 : (zs.map fun i => M.lineOf rows.length i (rows.getD i ([], 0))).foldl (M.step p n) (M.step p n (E, S) (M.lineOf rows.length z (rows.getD z ([], 0)))) = M.sift p n (M.lines rows) := hm
      have lS : S.length + (zs.length + 1) ≤ 100 := hS
      have lE : E.length + (zs.length + 1) ≤ 100 := hE
      have ldk : Ldk p (n + 1 + rows.length) n E := ⟨ec.len, fu.1, ec.lt, ec.rd⟩
      generalize hL : M.lineOf rows.length z (rows.getD z ([], 0)) = L at *
      have ly : (M.red p E L).length = n + 1 + rows.length := M.red_len ec.len lL
      have ry : M.Red p (M.red p E L) := M.red_red hpos rL
      have zero := M.zero_exact hpos ec.tri ec.len lL rL
      show (aSeq _ _) _ _
      rcases h2 with ⟨l, rfl⟩ | rfl
      · refine ⟨_, rfl, _, rfl, _, rfl, trivial, rows, z, _, by show [Slot.d (rsD rows), Slot.d (.int (0 + (z : Int)))] = _; rw [Int.zero_add], hg, by omega, by rw [hrow.1]; omega, .inl ⟨_, _, rfl, ?_⟩⟩
        rw [hL]
        refine ⟨trivial, p, n, L, E, _, rfl, hh, ldk, lL, nN, by omega, rL, ?_⟩
        refine ⟨_, rfl, _, rfl, trivial, p, n, M.red p E L, rfl, hh, by omega, ?_⟩
        cases hl : M.leadOf n (M.red p E L) with
        | none =>
          rw [M.step_none hl] at st hm1
          refine ⟨_, rfl, fun _ => ⟨⟨_, _, rfl⟩, _, rfl, _, _, rfl, by rw [List.length_map]; unfold sizeLine; omega, hR _ ⟨E, S ++ [M.red p E L], _, .d (eD E), l3, .d (.int (0 + (z : Int))), .d (dI (M.red p E L)), .d .none, u7, ?_, .inr rfl, st.1, st.2, hm1, fun z' h' => hz z' (List.mem_cons_of_mem _ h'), by rw [List.length_append, List.length_singleton]; omega, by omega⟩⟩, fun c => nomatch c⟩
          rw [List.map_append]
          rfl
        | some ld =>
          rw [M.step_some hl] at st hm1
          obtain ⟨ldn, ld0⟩ := M.lead_some hl
          have b := M.at_red hpos ry ld
          have iv := M.inv_ok hp (a := M.at_ (M.red p E L) ld) (by omega) b.2
          generalize hy : M.red p E L = y at *
          refine ⟨_, rfl, fun c => (by cases c), fun _ => ⟨_, rfl, _, rfl, _, rfl, _, rfl, ix_dI (by omega) ⟨trivial, p, n, M.at_ y ld, rfl, hh, by omega, b.2, _, rfl, trivial, p, n, M.invOf p (M.at_ y ld), y, rfl, hh, ⟨by omega, by omega⟩, by omega, ?_⟩⟩⟩
          generalize hy2 : M.tms p (M.invOf p (M.at_ y ld)) y = y2 at *
          have ly2 : y2.length = n + 1 + rows.length := by rw [← hy2]; exact M.tms_len ly
          have ry2 : M.Red p y2 := by rw [← hy2]; exact M.red_tms hpos
          refine ⟨_, rfl, ?_⟩
          rw [List.map_map]
          refine dc_map (h := (fun q : PyData × PyData => q.1) ∘ kvD) (kf := fun q => (q.1 : Int)) (f := fun q => dI (M.less p q.2 (M.at_ q.2 ld) y2)) rfl rfl (fun q hq Y Z hY => ?_) (by simp; omega) (fun q hq => rfl) (key_nodup fu.1) ?_
          · have bq := M.at_red hpos (ec.rd q hq) ld
            have lq := ec.len q hq
            refine ⟨fun _ => ⟨_, rfl, _, rfl, _, rfl, _, rfl, .inl (q.1 : Int), dI q.2, rfl, look_mem hq fu.1, _, rfl, _, rfl, .inl (q.1 : Int), dI q.2, rfl, look_mem hq fu.1, _, rfl, ix_dI (by omega) ⟨_, rfl, trivial, p, n, q.2, M.at_ q.2 ld, y2, rfl, hh, ⟨by omega, by omega⟩, by omega, ?_⟩⟩, fun c => nomatch c⟩
            exact hY _ rfl
          · intro lm
            refine ⟨_, rfl, ⟨_, _, rfl⟩, _, rfl, _, _, .inl (ld : Int), rfl, rfl, by rw [List.nil_append, List.length_map]; unfold sizeLine; omega, hR _ ⟨_, S, _, _, _, .d (.int (0 + (z : Int))), .d (dI y2), .d (.int ld), .un, rfl, .inl ⟨lm, ?_⟩, st.1, st.2, hm1, fun z' h' => hz z' (List.mem_cons_of_mem _ h'), by omega, by rw [List.length_append, List.length_map, List.length_singleton]; omega⟩⟩
            have e1 : List.map (fun q : Nat × M.Vc => (PyData.int (q.1 : Int), dI (M.less p q.2 (M.at_ q.2 ld) y2))) E = (E.map fun q => (q.1, M.less p q.2 (M.at_ q.2 ld) y2)).map kvD := by rw [List.map_map]; rfl
            have fresh : lookD ([] ++ List.map (fun q : Nat × M.Vc => (PyData.int (q.1 : Int), dI (M.less p q.2 (M.at_ q.2 ld) y2))) E) (.inl (ld : Int)) = none := by
              rw [List.nil_append, e1]
              refine look_none ?_
              cases el : (E.map fun q => (q.1, M.less p q.2 (M.at_ q.2 ld) y2)).lookup ld with
              | none => rfl
              | some v =>
                obtain ⟨q, hq, eq⟩ := List.mem_map.mp (M.lookup_mem el)
                have e0 : q.1 = ld := congrArg Prod.fst eq
                exact absurd (zero q hq) (by rw [e0]; exact ld0)
            show Slot.md lm (putD _ _ _) = _
            rw [put_new fresh, List.nil_append, e1, List.map_append]
            rfl
      · refine ⟨_, rfl, _, rfl, _, rfl, trivial, rows, z, _, by show [Slot.d (rsD rows), Slot.d (.int (0 + (z : Int)))] = _; rw [Int.zero_add], hg, by omega, by rw [hrow.1]; omega, .inr ⟨_, rfl, ?_⟩⟩
        rw [hL]
        refine ⟨trivial, p, n, L, E, _, rfl, hh, ldk, lL, nN, by omega, rL, ?_⟩
        refine ⟨_, rfl, _, rfl, trivial, p, n, M.red p E L, rfl, hh, by omega, ?_⟩
        cases hl : M.leadOf n (M.red p E L) with
        | none =>
          rw [M.step_none hl] at st hm1
          refine ⟨_, rfl, fun _ => ⟨⟨_, _, rfl⟩, _, rfl, _, _, rfl, by rw [List.length_map]; unfold sizeLine; omega, hR _ ⟨E, S ++ [M.red p E L], _, .d (eD E), l3, .d (.int (0 + (z : Int))), .d (dI (M.red p E L)), .d .none, u7, ?_, .inr rfl, st.1, st.2, hm1, fun z' h' => hz z' (List.mem_cons_of_mem _ h'), by rw [List.length_append, List.length_singleton]; omega, by omega⟩⟩, fun c => nomatch c⟩
          rw [List.map_append]
          rfl
        | some ld =>
          rw [M.step_some hl] at st hm1
          obtain ⟨ldn, ld0⟩ := M.lead_some hl
          have b := M.at_red hpos ry ld
          have iv := M.inv_ok hp (a := M.at_ (M.red p E L) ld) (by omega) b.2
          generalize hy : M.red p E L = y at *
          refine ⟨_, rfl, fun c => (by cases c), fun _ => ⟨_, rfl, _, rfl, _, rfl, _, rfl, ix_dI (by omega) ⟨trivial, p, n, M.at_ y ld, rfl, hh, by omega, b.2, _, rfl, trivial, p, n, M.invOf p (M.at_ y ld), y, rfl, hh, ⟨by omega, by omega⟩, by omega, ?_⟩⟩⟩
          generalize hy2 : M.tms p (M.invOf p (M.at_ y ld)) y = y2 at *
          have ly2 : y2.length = n + 1 + rows.length := by rw [← hy2]; exact M.tms_len ly
          have ry2 : M.Red p y2 := by rw [← hy2]; exact M.red_tms hpos
          refine ⟨_, rfl, ?_⟩
          rw [List.map_map]
          refine dc_map (h := (fun q : PyData × PyData => q.1) ∘ kvD) (kf := fun q => (q.1 : Int)) (f := fun q => dI (M.less p q.2 (M.at_ q.2 ld) y2)) rfl rfl (fun q hq Y Z hY => ?_) (by simp; omega) (fun q hq => rfl) (key_nodup fu.1) ?_
          · have bq := M.at_red hpos (ec.rd q hq) ld
            have lq := ec.len q hq
            refine ⟨fun _ => ⟨_, rfl, _, rfl, _, rfl, _, rfl, .inl (q.1 : Int), dI q.2, rfl, look_mem hq fu.1, _, rfl, _, rfl, .inl (q.1 : Int), dI q.2, rfl, look_mem hq fu.1, _, rfl, ix_dI (by omega) ⟨_, rfl, trivial, p, n, q.2, M.at_ q.2 ld, y2, rfl, hh, ⟨by omega, by omega⟩, by omega, ?_⟩⟩, fun c => nomatch c⟩
            exact hY _ rfl
          · intro lm
            refine ⟨_, rfl, ⟨_, _, rfl⟩, _, rfl, _, _, .inl (ld : Int), rfl, rfl, by rw [List.nil_append, List.length_map]; unfold sizeLine; omega, hR _ ⟨_, S, _, _, _, .d (.int (0 + (z : Int))), .d (dI y2), .d (.int ld), .un, rfl, .inl ⟨lm, ?_⟩, st.1, st.2, hm1, fun z' h' => hz z' (List.mem_cons_of_mem _ h'), by omega, by rw [List.length_append, List.length_map, List.length_singleton]; omega⟩⟩
            have e1 : List.map (fun q : Nat × M.Vc => (PyData.int (q.1 : Int), dI (M.less p q.2 (M.at_ q.2 ld) y2))) E = (E.map fun q => (q.1, M.less p q.2 (M.at_ q.2 ld) y2)).map kvD := by rw [List.map_map]; rfl
            have fresh : lookD ([] ++ List.map (fun q : Nat × M.Vc => (PyData.int (q.1 : Int), dI (M.less p q.2 (M.at_ q.2 ld) y2))) E) (.inl (ld : Int)) = none := by
              rw [List.nil_append, e1]
              refine look_none ?_
              cases el : (E.map fun q => (q.1, M.less p q.2 (M.at_ q.2 ld) y2)).lookup ld with
              | none => rfl
              | some v =>
                obtain ⟨q, hq, eq⟩ := List.mem_map.mp (M.lookup_mem el)
                have e0 : q.1 = ld := congrArg Prod.fst eq
                exact absurd (zero q hq) (by rw [e0]; exact ld0)
            show Slot.md lm (putD _ _ _) = _
            rw [put_new fresh, List.nil_append, e1, List.map_append]
            rfl
theorem ok_given_by (D : Def K mg "given_by" p_given_by s_given_by) (m_len : mg "len" = none) (o__sifted : Ok P w K mg base k "_sifted" p__sifted a__sifted) (o__cleared : Ok P w K mg base k "_cleared" p__cleared a__cleared) (o_empty_sum : Ok P w K mg base k "empty_sum" p_empty_sum a_empty_sum)
    (o_times : Ok P w K mg base k "times" p_times a_times) : Ok P w K mg base (k + 1) "given_by" p_given_by a_given_by :=
  g_given_by (m_len := m_len) D o__sifted o__cleared o_empty_sum o_times (fun as Q ⟨p, n, x, _, e, _⟩ => by subst e; rfl) fun as Q ⟨p, n, rows, x, e, hh, hr, hl, hx, rx, q⟩ => by
    subst e
    have h6 := hh.n6
    have hpos := hh.pos
    have h10 := hh.p10
    have hp := hh.pr
    obtain ⟨ec, fu⟩ := M.sift_of hp hr
    obtain ⟨lp, rp, _⟩ := M.padded_ok (m := rows.length) hpos hx rx
    refine ⟨_, rfl, _, rfl, trivial, p, n, rows, rfl, hh, hr, hl, rfl, ?_⟩
    refine ⟨_, rfl, _, rfl, (by decide : (1 : Nat) ≤ sizeLine), _, rfl, ⟨by simp, by rw [List.length_map]; omega, by rw [List.length_map]; omega, by decide⟩, ?_⟩
    have e0 : (List.replicate (1 + ((rows.map rD).length : Int)).toNat [PyData.int 0]).flatten = (M.zer (1 + rows.length)).map PyData.int := by
      rw [List.length_map, show (1 + (rows.length : Int)) = ((1 + rows.length : Nat) : Int) by omega, rep0]
    rw [e0]
    refine ⟨by rw [List.length_map, List.length_map, M.zer_len]; unfold sizeLine; omega, ?_⟩
    rw [← List.map_append]
    unfold M.givenC M.out at q
    generalize hy : M.red p (M.sift p n (M.lines rows)).1 (M.padded rows.length x) = y at *
    have ly : y.length = n + 1 + rows.length := by rw [← hy]; exact M.red_len ec.len lp
    refine ⟨_, rfl, trivial, p, n, M.padded rows.length x, (M.sift p n (M.lines rows)).1, _, rfl, hh, ⟨ec.len, fu.1, ec.lt, ec.rd⟩, lp, by omega, by omega, rp, ?_⟩
    rw [hy]
    refine ⟨_, rfl, _, rfl, ix_h1 ?_⟩
    have ct : cutD (y.map PyData.int) none (some (n : Int)) = (y.take n).map PyData.int := by rw [cut_take, List.map_take]
    have cd : cutD (y.map PyData.int) (some (n : Int)) none = (y.drop n).map PyData.int := by rw [cut_drop, List.map_drop]
    refine ⟨_, rfl, trivial, p, n, rfl, hh, ?_⟩
    rw [ct]
    refine ⟨pl_dI _, pl_dI _, ?_⟩
    rw [show PyData.eqv (PyData.tuple ((y.take n).map PyData.int)) (dI (M.zer n)) = decide (y.take n = M.zer n) from eqv_dI _ _]
    by_cases hz : M.leadOf n y = none
    · rw [if_pos hz] at q
      have hz' := (take_zero (by omega)).mpr hz
      rw [decide_eq_true hz']
      refine ⟨fun c => (nomatch c), fun _ => ⟨_, rfl, _, rfl, ix_h0 ⟨_, rfl, _, rfl, ix_h1 ?_⟩⟩⟩
      refine ⟨trivial, p, n, p - 1, y.drop n, by show [Slot.d (hD p n), Slot.d (.int (p - 1)), Slot.d (.tuple (cutD (y.map PyData.int) (some (n : Int)) none))] = _; rw [cd]; rfl, hh, ⟨by omega, by omega⟩, by rw [List.length_drop]; omega, ?_⟩
      rw [tms_neg hpos]
      refine ⟨_, rfl, ix_dI (i := 0) (by rw [M.tms_len (N := y.length - n) List.length_drop]; omega) ?_⟩
      refine ⟨_, rfl, ?_⟩
      refine ⟨(by decide : (2 : Nat) ≤ sizeLine), ?_⟩
      rw [cut_drop1, ← List.map_drop]
      exact q
    · rw [if_neg hz] at q
      have hz' : ¬ y.take n = M.zer n := fun c => hz ((take_zero (by omega)).mp c)
      rw [decide_eq_false hz']
      exact ⟨fun _ => q, fun c => nomatch c⟩
theorem ok__law_bag (D : Def K mg "_law_bag" p_L_bag s_L_bag) (m_abs : mg "abs" = none) : OkN P w K mg base (k + 1) "_law_bag" p_L_bag a__law_bag :=
  g_L_bag D m_abs (fun as Q ⟨ns, e, _⟩ => by subst e; rfl) fun as Q ⟨ns, e, hl, q⟩ => by
    subst e
    refine ⟨_, rfl, _, rfl, ?_⟩
    have ct : cutD (ns.map PyData.int) none (some ((63 : Nat) : Int)) = (ns.take 63).map PyData.int := by rw [cut_take, List.map_take]
    show lcR _ _ _ _ _ (cutD (ns.map PyData.int) none (some ((63 : Nat) : Int))) _ _
    rw [ct]
    refine lc_map (f := fun i => .int (absI i)) rfl rfl (fun i hi Y Z hY => ⟨fun _ => ⟨_, rfl, hY _ rfl⟩, fun c => (nomatch c)⟩) (by rw [List.length_take]; omega) ⟨(by decide : (4 : Nat) ≤ sizeLine), ?_⟩
    have := q ((ns.take 63).map absI) ⟨by omega, by omega, by omega, by omega, by rw [List.length_map, List.length_take]; omega, fun x hx => ?_⟩
    · unfold bagL lI at this
      rw [List.map_map] at this
      exact this
    · obtain ⟨y, _, e⟩ := List.mem_map.mp hx
      rw [← e]
      unfold absI
      split <;> omega
theorem ok__law_take (D : Def K mg "_law_take" p_L_take s_L_take) (m_int : mg "int" = none) : Ok P w K mg base (k + 1) "_law_take" p_L_take a__law_take :=
  g_L_take D m_int (fun as Q ⟨_, s, m, e, _⟩ => by subst e; rfl) fun as Q ⟨l, s, many, e, ⟨a, b, c, cells, e2, bg⟩, m0, m1, q⟩ => by
    subst e e2
    have fin : ∀ {a' b' c' : Int} {v : Int} {rest : Sls}, Bg a' b' c' cells → 0 ≤ v → v < many → Q (.int v) (finS [.m l (bagL a b c cells), .d (.int many)] (.m l (bagL a' b' c' cells) :: .d (.int many) :: rest)) := fun h v0 v1 => by
      rw [finS_m]
      exact q _ _ ⟨_, _, _, cells, rfl, h⟩ v0 v1
    have mne : many ≠ 0 := by omega
    refine seq_I (fun sl => ∃ a b c u2 u3, sl = [.m l (bagL a b c cells), .d (.int many), u2, u3, .un, .un, .un] ∧ Bg a b c cells) (fun R hR => ?_) fun sl ⟨a, b, c, u2, u3, e, bg⟩ => ?_
    · refine ⟨⟨_, _, rfl⟩, _, _, .int a, rfl, rfl, pl_int _, pl_int _, ?_⟩
      rw [eqv_int]
      refine ⟨fun _ => ?_, fun _ => hR _ ⟨a, b, c, .un, .un, rfl, bg⟩⟩
      obtain ⟨cn, rfl⟩ : ∃ cn : Nat, c = (cn : Int) := ⟨c.toNat, by have := bg.c0; omega⟩
      have ct : cutD (cells.map PyData.int) (some (cn : Int)) none ++ [PyData.int 0] = (cells.drop cn ++ [0]).map PyData.int := by rw [cut_drop, List.map_append, List.map_drop]; rfl
      have cp : 0 ≤ M.at_ (cells.drop cn ++ [0]) 0 := by
        unfold M.at_
        rw [List.getD_eq_getElem?_getD]
        cases e : (cells.drop cn ++ [0])[0]? with
        | none => exact Int.le_refl 0
        | some x =>
          rcases List.mem_append.mp (List.mem_of_getElem? e) with h | h
          · exact bg.pos x (List.mem_of_mem_drop h)
          · rw [List.mem_singleton.mp h]; exact Int.le_refl 0
      have cl : (cutD (cells.map PyData.int) (some (cn : Int)) none).length ≤ 63 := by rw [cut_drop, List.length_drop, List.length_map]; have := bg.len; omega
      refine ⟨⟨_, _, rfl⟩, _, _, lI cells, rfl, rfl, ⟨_, _, rfl⟩, _, _, .int (cn : Int), rfl, rfl, (by decide : (1 : Nat) ≤ sizeLine), ?_, ?_⟩
      · show _ + 1 ≤ sizeLine
        unfold sizeLine
        omega
      rw [ct]
      refine ix_lI (i := 0) (by simp) ?_
      generalize M.at_ (cells.drop cn ++ [0]) 0 = cell at *
      refine ⟨_, _, _, rfl, rfl, _, _, rfl, (by decide : (2 : Nat) < 4), ?_⟩
      dsimp only
      refine seq_I (fun sl => ∃ a', sl = [.m l (bagL a' b (cn + 1) cells), .d (.int many), .d (.int cell), .un, .un, .un, .un] ∧ 0 ≤ a') (fun R' hR' => ?_) fun sl ⟨a', e, a'0⟩ => ?_
      · exact ⟨_, rfl, ⟨by decide, by decide, by decide⟩, fun _ => ⟨_, rfl, ⟨_, _, rfl⟩, _, _, 0, rfl, rfl, hR' _ ⟨cell, rfl, cp⟩⟩, fun _ => hR' _ ⟨a, rfl, bg.a0⟩⟩
      · subst e
        refine ⟨⟨_, _, rfl⟩, _, _, .int b, rfl, rfl, cmul_r (by omega) (by omega), _, rfl, (show (2147483647 : Int) ≠ 0 by decide), ⟨_, _, rfl⟩, _, _, .int ((cn : Int) + 1), rfl, rfl, cmul_l (by omega) (by omega), ?_⟩
        exact ⟨_, rfl, (show (2147483647 : Int) ≠ 0 by decide), ⟨_, _, rfl⟩, _, _, 1, rfl, rfl, hR _ ⟨a', _, _, _, _, rfl, a'0, M.fm_lo (by omega) _, M.fm_hi (by omega) _, by omega, bg.len, bg.pos⟩⟩
    · subst e
      refine ⟨⟨_, _, rfl⟩, _, _, .int a, rfl, rfl, fun _ => ?_, fun _ => ?_⟩
      · exact ⟨⟨_, _, rfl⟩, _, _, .int a, rfl, rfl, _, rfl, mne, ⟨_, _, rfl⟩, _, _, .int a, rfl, rfl, _, rfl, ⟨mne, by omega⟩, ⟨_, _, rfl⟩, _, _, 0, rfl, rfl, _, rfl, fin ⟨Int.fdiv_nonneg bg.a0 (by omega), bg.b0, bg.b1, bg.c0, bg.len, bg.pos⟩ (M.fm_lo m0 _) (M.fm_hi m0 _)⟩
      · have b0 := M.fm_lo (p := 1000000007) (by omega) ((b + 1) * 39373)
        have b1 := M.fm_hi (p := 1000000007) (by omega) ((b + 1) * 39373)
        refine ⟨⟨_, _, rfl⟩, _, _, .int b, rfl, rfl, cmul_r (by omega) (by omega), (show (1000000007 : Int) ≠ 0 by decide), _, rfl, _, rfl, .inl ⟨by omega, by omega⟩, (show (998244353 : Int) ≠ 0 by decide), cmul_r (by omega) (by omega), (show (998244353 : Int) ≠ 0 by decide), _, rfl, ⟨by decide, by decide⟩, _, rfl, mne, fin bg (M.fm_lo m0 _) (M.fm_hi m0 _)⟩
theorem ok__law_one (D : Def K mg "_law_one" p_L_one s_L_one) (m_len : mg "len" = none) (o__law_take : Ok P w K mg base k "_law_take" p_L_take a__law_take) : Ok P w K mg base (k + 1) "_law_one" p_L_one a__law_one :=
  g_L_one (m_len := m_len) D o__law_take (fun as Q ⟨_, s, t, xs, e, _⟩ => by subst e; rfl) fun as Q ⟨l, s, t, xs, e, hs, ht, h0, h1, q⟩ => by
    subst e
    have hb := hs
    obtain ⟨a, b, c, cells, rfl, bg⟩ := hs
    have pick : ∀ {v : Int}, 0 ≤ v → v < (xs.length : Int) → ∃ d, atI xs v = some d ∧ d ∈ xs := fun {v} v0 v1 => by
      obtain ⟨i, rfl⟩ : ∃ i : Nat, v = (i : Int) := ⟨v.toNat, by omega⟩
      have hi : i < xs.length := by omega
      exact ⟨xs[i], atI_nat (List.getElem?_eq_getElem hi), List.getElem_mem hi⟩
    rcases ht with rfl | rfl | ⟨l2, rfl⟩
    · refine .inl ⟨_, rfl, ⟨_, _, rfl, rfl⟩, _, rfl, ⟨_, _, rfl, rfl⟩, ⟨trivial, trivial⟩, l, _, _, rfl, hb, by omega, by omega, fun v s' hs' v0 v1 => ?_⟩
      obtain ⟨d, hd, md⟩ := pick v0 v1
      refine ⟨d, hd, ?_⟩
      obtain ⟨a', b', c', cells', rfl, bg'⟩ := hs'
      show Q d (finS [.m l _, _] (.m l _ :: _))
      rw [finS_m]
      exact q d _ ⟨_, _, _, _, rfl, bg'⟩ md
    · refine .inl ⟨_, rfl, ⟨_, _, rfl, rfl⟩, _, rfl, ⟨_, _, rfl, rfl⟩, ⟨trivial, trivial⟩, l, _, _, rfl, hb, by omega, by omega, fun v s' hs' v0 v1 => ?_⟩
      obtain ⟨d, hd, md⟩ := pick v0 v1
      refine ⟨d, hd, ?_⟩
      obtain ⟨a', b', c', cells', rfl, bg'⟩ := hs'
      show Q d (finS [.m l _, _] (.m l _ :: _))
      rw [finS_m]
      exact q d _ ⟨_, _, _, _, rfl, bg'⟩ md
    · refine .inr ⟨⟨_, _, rfl⟩, ⟨_, _, rfl, rfl⟩, _, _, rfl, ⟨_, _, rfl, rfl⟩, ⟨trivial, trivial⟩, l, _, _, rfl, hb, by omega, by omega, fun v s' hs' v0 v1 => ?_⟩
      obtain ⟨d, hd, md⟩ := pick v0 v1
      obtain ⟨a', b', c', cells', rfl, bg'⟩ := hs'
      refine ⟨_, _, d, rfl, hd, ?_⟩
      show Q d (finS [.m l _, .m l2 _] (.m l _ :: .m l2 _ :: _))
      rw [finS_m, finS_m]
      exact q d _ ⟨_, _, _, _, rfl, bg'⟩ md
theorem ok__law_rest (D : Def K mg "_law_rest" p_L_rest s_L_rest) : Ok P w K mg base (k + 1) "_law_rest" p_L_rest a__law_rest :=
  g_L_rest D (fun as Q ⟨_, s, e, _⟩ => by subst e; rfl) fun as Q ⟨a, p, e, h0, h1, q⟩ => by
    subst e
    refine ⟨_, rfl, _, rfl, _, rfl, ⟨by omega, by omega⟩, _, rfl, cmul_r (by omega) (by omega), ?_⟩
    show Q (.int (a - a.fdiv p * p)) _
    rw [rest_eq]
    exact q
theorem ok__law_inverse (D : Def K mg "_law_inverse" p_L_inverse s_L_inverse) (m_range : mg "range" = none) (o__law_rest : Ok P w K mg base k "_law_rest" p_L_rest a__law_rest) : Ok P w K mg base (k + 1) "_law_inverse" p_L_inverse a__law_inverse :=
  g_L_inverse (m_range := m_range) D o__law_rest (fun as Q ⟨_, s, e, _⟩ => by subst e; rfl) fun as Q ⟨p, a, e, hp, h10, h0, h1, q⟩ => by
    subst e
    refine ⟨_, rfl, by omega, ?_⟩
    have er : rgD 1 (p - 1).toNat = (M.rng 1 p).map PyData.int := by unfold rgD M.rng; rw [List.map_map]; rfl
    obtain ⟨r, hr⟩ := M.inv_ne hp h0 h1
    rw [er]
    refine lc_filter (f := PyData.int) (c := fun b => decide ((a * b).fmod p = 1)) rfl rfl (fun z hz Y Z hY hZ => ?_) ?_ ?_
    · have hz' := M.mem_rng.mp hz
      refine ⟨_, rfl, _, rfl, cmul_l (by omega) (by omega), _, rfl, trivial, _, p, rfl, by omega, h10, pl_int _, pl_int _, ?_⟩
      rw [eqv_int, Int.mul_comm z a]
      exact ⟨fun c => ⟨_, rfl, hY c _ rfl⟩, fun c => hZ c _ rfl⟩
    · unfold M.rng; rw [List.length_map, List.length_range]; omega
    · rw [hr]
      exact ix_l (i := 0) rfl q
theorem ok__law_plus (D : Def K mg "_law_plus" p_L_plus s_L_plus) (m_zip : mg "zip" = none) (o__law_rest : Ok P w K mg base k "_law_rest" p_L_rest a__law_rest) : Ok P w K mg base (k + 1) "_law_plus" p_L_plus a__law_plus :=
  g_L_plus (m_zip := m_zip) D o__law_rest (fun as Q ⟨_, _, _, _, _, _, _, e, _⟩ => by subst e; rfl) fun as Q ⟨p, n, x, xs, k, y, ys, e, hh, hx, hy, hk, hl, q⟩ => by
    subst e
    refine ⟨_, rfl, _, rfl, _, _, hx, hy, ?_⟩
    rw [zipI]
    refine lc_map (f := fun z => .int ((z.1 - (-k) * z.2).fmod p)) rfl rfl (fun z hz Y Z hY => ⟨rfl, fun _ => ⟨_, rfl, _, rfl, _, rfl, cmul_l hk.1 hk.2, _, rfl, ix_h0 ⟨trivial, _, p, rfl, hh.pos, hh.p10, ?_⟩⟩, nofun⟩) (by rw [List.length_zip]; omega) ?_
    · rw [show z.1 + k * z.2 = z.1 - (-k) * z.2 by grind]
      exact hY _ rfl
    · show Q (.list ((xs.zip ys).map fun z => .int ((z.1 - (-k) * z.2).fmod p))) _
      rw [show (fun z : Int × Int => PyData.int ((z.1 - (-k) * z.2).fmod p)) = PyData.int ∘ fun z => (z.1 - (-k) * z.2).fmod p from rfl, ← List.map_map, map_zip_less]
      exact q
theorem ok__law_flat (D : Def K mg "_law_flat" p_L_flat s_L_flat) (m_list : mg "list" = none) (m_range : mg "range" = none) (m_int : mg "int" = none) : Ok P w K mg base (k + 1) "_law_flat" p_L_flat a__law_flat :=
  g_L_flat (m_list := m_list) (m_range := m_range) (m_int := m_int) D (fun as Q ⟨_, _, _, e, _⟩ => by subst e; rfl) fun as Q ⟨r, m, i, e, hm, hr, q⟩ => by
    subst e
    refine ⟨_, rfl, dI r.1, rfl, _, rfl, _, rfl, .int r.2, rfl, (by decide : (1 : Nat) ≤ sizeLine), ?_, ?_⟩
    · rw [List.length_map]; unfold sizeLine; simp; omega
    · refine ⟨_, rfl, ⟨by omega, by omega⟩, ?_⟩
      rw [show ((m : Int)).toNat = m by omega]
      refine lc_map (f := fun j : Nat => .int (if j = i then 1 else 0)) rfl rfl (fun z hz Y Z hY => ⟨fun _ => ⟨_, rfl, _, rfl, pl_int _, pl_int _, ?_⟩, nofun⟩) (by rw [List.length_range]; omega) ⟨?_, ?_⟩
      · rw [eqv_int]
        by_cases e : z = i
        · rw [if_pos e] at hY
          rw [decide_eq_true (by omega)]
          exact hY _ rfl
        · rw [if_neg e] at hY
          rw [decide_eq_false (by omega)]
          exact hY _ rfl
      · rw [List.length_append, List.length_map, List.length_map, List.length_range]
        unfold sizeLine
        simp
        omega
      · have e : r.1.map PyData.int ++ [PyData.int r.2] ++ (List.range m).map (fun j : Nat => PyData.int (if j = i then 1 else 0)) = (M.lineOf m i r).map PyData.int := by
          unfold M.lineOf M.unit
          rw [List.map_append, List.map_append, List.map_map]
          rfl
        show Q (.list (r.1.map PyData.int ++ [PyData.int r.2] ++ (List.range m).map (fun j : Nat => PyData.int (if j = i then 1 else 0)))) _
        rw [e]
        exact q
theorem ok__law_comes_to (D : Def K mg "_law_comes_to" p_L_comes_to s_L_comes_to) (m_sum : mg "sum" = none) (m_zip : mg "zip" = none) (o__law_rest : Ok P w K mg base k "_law_rest" p_L_rest a__law_rest) : Ok P w K mg base (k + 1) "_law_comes_to" p_L_comes_to a__law_comes_to :=
  g_L_comes_to (m_sum := m_sum) (m_zip := m_zip) D o__law_rest (fun as Q ⟨p, n, x, y, e, _⟩ => by subst e; rfl) fun as Q ⟨p, n, x, y, e, hh, hx, hl, q⟩ => by
    subst e
    refine ⟨_, rfl, _, rfl, _, _, rfl, rfl, ?_⟩
    rw [zipI]
    refine lc_map (f := fun z => .int (z.1 * z.2)) rfl rfl (fun z hz Y Z hY => ⟨rfl, fun _ => ⟨_, rfl, _, rfl, cmul_l ?_ ?_, ?_⟩, nofun⟩) (by rw [List.length_zip]; omega) ⟨_, by rw [zip_mul], _, rfl, ix_h0 ⟨trivial, _, p, rfl, hh.pos, hh.p10, q⟩⟩
    · have := hx z.1 (List.of_mem_zip hz).1; omega
    · have := hx z.1 (List.of_mem_zip hz).1; omega
    · exact hY _ rfl
theorem ok__law_echelon (D : Def K mg "_law_echelon" p_L_echelon s_L_echelon) (m_enumerate : mg "enumerate" = none) (m_len : mg "len" = none) (m_range : mg "range" = none) (m_tuple : mg "tuple" = none)
    (o__law_flat : Ok P w K mg base k "_law_flat" p_L_flat a__law_flat) (o__law_plus : Ok P w K mg base k "_law_plus" p_L_plus a__law_plus) (o__law_inverse : Ok P w K mg base k "_law_inverse" p_L_inverse a__law_inverse) :
    Ok P w K mg base (k + 1) "_law_echelon" p_L_echelon a__law_echelon :=
  g_L_echelon (m_enumerate := m_enumerate) (m_len := m_len) (m_range := m_range) (m_tuple := m_tuple) D o__law_flat o__law_plus o__law_inverse (fun as Q ⟨_, _, _, _, e, _⟩ => by subst e; rfl) fun as Q ⟨p, n, rows, t, e, hh, ht, hr, hl, q⟩ => by
    subst e
    have h6 := hh.n6
    have hpos := hh.pos
    have h10 := hh.p10
    have hp := hh.pr
    refine ⟨Nat.zero_le _, fun l2 => ⟨_, rfl, _, ht, ?_⟩⟩
    rw [enD_range]
    have nN : n ≤ n + 1 + rows.length := by omega
    refine for_inv (fun zs sl => ∃ E l u3 u4 u5 u6 u7 u8 u9, sl = [.d (hD p n), .d t, .m l (E.map fD), u3, u4, u5, u6, u7, u8, u9] ∧ M.Lens (n + 1 + rows.length) E ∧ (∀ q ∈ E, q.1 < n) ∧
        M.ech p n E (zs.map fun i => M.lineOf rows.length i (rows.getD i ([], 0))) = M.ech p n [] (M.lines rows) ∧ (∀ z ∈ zs, z < rows.length) ∧ E.length + zs.length ≤ 100)
      (fun sl ⟨E, l, u3, u4, u5, u6, u7, u8, u9, e, hE, lt, hm, _⟩ => ?_) (fun z zs sl R ⟨E, l, u3, u4, u5, u6, u7, u8, u9, e, hE, lt, hm, hz, hS⟩ hR => ?_)
      ⟨[], l2, .un, .un, .un, .un, .un, .un, .un, rfl, fun q hq => by simp at hq, fun q hq => by simp at hq, by rw [lines_eq, List.range_eq_range'], fun z hz => by have := List.mem_range'_1.mp hz; omega, by rw [List.length_range']; simp; omega⟩
    · subst e
      have hm' : M.ech p n E [] = M.ech p n [] (M.lines rows) := hm
      rw [← hm'] at q
      exact ⟨_, _, rfl, (by decide : (2 : Nat) ≤ sizeLine), q⟩
    · subst e
      have zlt := hz z (List.mem_cons_self ..)
      have hg : rows[z]? = some (rows.getD z ([], 0)) := by rw [List.getD_eq_getElem?_getD, List.getElem?_eq_getElem zlt]; rfl
      have hrow := hr (rows.getD z ([], 0)) (List.mem_of_getElem? hg)
      obtain ⟨lL, rL⟩ := M.lineOf_ok hp.1 (m := rows.length) (i := z) hrow
      have hm1 : M.ech p n E (M.lineOf rows.length z (rows.getD z ([], 0)) :: zs.map fun i => M.lineOf rows.length i (rows.getD i ([], 0))) = M.ech p n [] (M.lines rows) := hm
      have lS : E.length + (zs.length + 1) ≤ 100 := hS
      rw [Nat.sub_zero]
      have hrl := hrow.1
      generalize hrw : rows.getD z ([], 0) = rw0 at *
      refine ⟨rfl, _, rfl, _, rfl, ?_⟩
      unfold aNil
      dsimp only
      refine fLen_seq ht ?_
      rw [List.length_map]
      refine ⟨_, rfl, trivial, rw0, rows.length, z, rfl, by omega, by omega, ?_⟩
      generalize hL : M.lineOf rows.length z rw0 = L at *
      -- the loop over what was found
      refine seq_I (fun sl => ∃ u6 u7, sl = [.d (hD p n), .d t, .m l (E.map fD), .d (.int (z : Nat)), .d (rD rw0), .d (lI (M.red p E L)), u6, u7, u8, u9]) (fun R' hR' => ?_) fun sl ⟨u6, u7, e⟩ => ?_
      · refine ⟨_, _, rfl, forO_inv (fun ys sl => ∃ y u6 u7, sl = [.d (hD p n), .d t, .m l (E.map fD), .d (.int (z : Nat)), .d (rD rw0), .d (lI y), u6, u7, u8, u9] ∧ y.length = n + 1 + rows.length ∧ M.Red p y ∧ M.red p ys y = M.red p E L ∧ ∀ z ∈ ys, z ∈ E) (fun ys sl ⟨y, u6, u7, e, _⟩ => by rw [e]; rfl) (fun sl ⟨y, u6, u7, e, _, _, hy, _⟩ => ?_) (fun q qs sl R2 ⟨y, u6, u7, e, ly, ry, hy, hq⟩ hR2 => ?_) ⟨L, u6, u7, rfl, lL, rL, rfl, fun z hz => hz⟩⟩
        · have hy' : y = M.red p E L := hy
          rw [hy'] at e
          exact hR' _ ⟨u6, u7, e⟩
        · subst e
          have mq := hq q (List.mem_cons_self ..)
          have b := M.at_red hpos ry q.1
          have lq := lt q mq
          refine ⟨rfl, _, rfl, _, rfl, _, rfl, _, rfl, ix_lI (by omega) ⟨_, rfl, trivial, p, n, _, y, -(M.at_ y q.1), _, q.2, rfl, hh, rfl, rfl, ⟨by omega, by omega⟩, by omega, ?_⟩⟩
          rw [Int.neg_neg]
          exact hR2 _ ⟨_, _, _, rfl, M.less_len ly (hE q mq), M.red_less hpos, hy, fun z' h' => hq z' (List.mem_cons_of_mem _ h')⟩
      · subst e
        have ly : (M.red p E L).length = n + 1 + rows.length := M.red_len hE lL
        have ry : M.Red p (M.red p E L) := M.red_red hpos rL
        generalize hy : M.red p E L = y at *
        refine ⟨_, rfl, ix_h1 ⟨⟨by omega, by omega⟩, ?_⟩⟩
        rw [show ((n : Int)).toNat = n by omega, rng0]
        refine lc_filter (f := fun i : Nat => PyData.int (i : Nat)) (c := fun i => decide (M.at_ y i ≠ 0)) rfl rfl (fun i hi Y Z hY hZ => ?_) (by rw [List.length_range]; omega) ?_
        · have := List.mem_range.mp hi
          refine ⟨_, rfl, _, rfl, ix_lI (by omega) ⟨pl_int _, pl_int _, ?_⟩⟩
          rw [eqv_int, show (!decide (M.at_ y i = 0)) = decide (M.at_ y i ≠ 0) by simp]
          exact ⟨fun c => ⟨_, rfl, hY c _ rfl⟩, fun c => hZ c _ rfl⟩
        · have e8 : ((List.range n).filter fun i => decide (M.at_ y i ≠ 0)).map (fun i : Nat => PyData.int (i : Nat)) = (((List.range n).filter fun i => decide (M.at_ y i ≠ 0)).map fun i : Nat => (i : Int)).map PyData.int := by rw [List.map_map]; rfl
          rw [e8]
          refine ⟨_, rfl, Nat.zero_le _, pl_lI _, pl_lI [], ?_⟩
          rw [show PyData.eqv (.list ((((List.range n).filter fun i => decide (M.at_ y i ≠ 0)).map fun i : Nat => (i : Int)).map PyData.int)) (.list []) = decide ((((List.range n).filter fun i => decide (M.at_ y i ≠ 0)).map fun i : Nat => (i : Int)) = []) from eqv_lI _ []]
          cases hld : M.leadOf n y with
          | none =>
            rw [places_none hld]
            refine ⟨fun _ => ⟨_, _, rfl, _, rfl, _, rfl, ix_h1 ?_⟩, fun c => (nomatch c)⟩
            have em : M.ech p n E (L :: zs.map fun i => M.lineOf rows.length i (rows.getD i ([], 0))) = (E, some (y.drop (n + 1))) := by
              unfold M.ech
              rw [hy, hld]
            rw [← hm1, em] at q
            show (2 : Nat) ≤ sizeLine ∧ Q (.tuple [.list (E.map fD), .tuple (cutD (y.map PyData.int) (some ((n : Int) + 1)) none)]) _
            rw [show ((n : Int) + 1) = ((n + 1 : Nat) : Int) by omega, cut_drop, ← List.map_drop]
            exact ⟨by decide, q⟩
          | some ld =>
            obtain ⟨r, hr2⟩ := places_some hld
            obtain ⟨ldn, ld0⟩ := M.lead_some hld
            have b := M.at_red hpos ry ld
            have iv := M.inv_ok hp (a := M.at_ y ld) (by omega) b.2
            rw [hr2]
            have em : M.ech p n E (L :: zs.map fun i => M.lineOf rows.length i (rows.getD i ([], 0))) = M.ech p n (E ++ [(ld, M.tms p (M.invOf p (M.at_ y ld)) y)]) (zs.map fun i => M.lineOf rows.length i (rows.getD i ([], 0))) := by
              rw [M.ech]
              rw [hy, hld]
            rw [em] at hm1
            refine ⟨fun c => by simp at c, fun _ => ⟨_, rfl, ix_h0 ⟨_, rfl, _, rfl, ix_l (i := 0) rfl (ix_lI (by omega) ⟨trivial, p, M.at_ y ld, rfl, hp, h10, by omega, b.2, ?_⟩)⟩⟩⟩
            refine ⟨⟨_, _, rfl⟩, _, rfl, ix_l (i := 0) rfl ⟨_, rfl, (by decide : (1 : Nat) ≤ sizeLine), _, rfl, ⟨?_, _, rfl, _, rfl, trivial, p, n, _, M.zer (n + 1 + rows.length), M.invOf p (M.at_ y ld), _, y, rfl, hh, ?_, rfl, ⟨by omega, by omega⟩, by rw [M.zer_len]; omega, ?_⟩⟩⟩
            · show -(2 ^ 63) ≤ (((y.map PyData.int).length : Nat) : Int) ∧ (((y.map PyData.int).length : Nat) : Int) < 2 ^ 63 ∧ 1 * (((y.map PyData.int).length : Nat) : Int).toNat ≤ sizeLine
              rw [List.length_map]
              unfold sizeLine
              omega
            · show some (List.replicate (((y.map PyData.int).length : Nat) : Int).toNat [PyData.int 0]).flatten = _
              rw [rep0, List.length_map, ly]
            · have e2 : M.less p (M.zer (n + 1 + rows.length)) (-M.invOf p (M.at_ y ld)) y = M.tms p (M.invOf p (M.at_ y ld)) y := (M.tms_eq ly).symm
              rw [e2]
              refine ⟨(by decide : (2 : Nat) ≤ sizeLine), _, _, rfl, by rw [List.length_map]; unfold sizeLine; omega, hR _ ⟨E ++ [(ld, M.tms p (M.invOf p (M.at_ y ld)) y)], l, .d (.int (z : Nat)), .d (rD rw0), .d (lI y), .un, u7, .d (lI ((ld :: r).map fun i : Nat => (i : Int))), .d (.int (M.invOf p (M.at_ y ld))), ?_, fun q hq => ?_, fun q hq => ?_, hm1, fun z' h' => hz z' (List.mem_cons_of_mem _ h'), by rw [List.length_append, List.length_singleton]; omega⟩⟩
              · rw [List.map_append]
                rfl
              · rcases List.mem_append.mp hq with h | h
                · exact hE q h
                · rw [List.mem_singleton.mp h]; exact M.tms_len ly
              · rcases List.mem_append.mp hq with h | h
                · exact lt q h
                · rw [List.mem_singleton.mp h]; exact ldn
theorem ok__law_given (D : Def K mg "_law_given" p_L_given s_L_given) (m_list : mg "list" = none) (m_len : mg "len" = none) (m_range : mg "range" = none) (m_tuple : mg "tuple" = none)
    (o__law_echelon : Ok P w K mg base k "_law_echelon" p_L_echelon a__law_echelon) (o__law_plus : Ok P w K mg base k "_law_plus" p_L_plus a__law_plus) : Ok P w K mg base (k + 1) "_law_given" p_L_given a__law_given :=
  g_L_given (m_list := m_list) (m_len := m_len) (m_range := m_range) (m_tuple := m_tuple) D o__law_echelon o__law_plus (fun as Q ⟨_, _, _, _, _, e, _⟩ => by subst e; rfl) fun as Q ⟨p, n, rows, t, x, e, hh, ht, hr, ind, hl, hx, rx, q⟩ => by
    subst e
    have h6 := hh.n6
    have hpos := hh.pos
    have h10 := hh.p10
    have hp := hh.pr
    obtain ⟨en, ec⟩ := M.ech_of hp hr ind
    obtain ⟨lp, rp, _⟩ := M.padded_ok (m := rows.length) hpos hx rx
    refine ⟨_, rfl, x.map PyData.int, rfl, (by decide : (1 : Nat) ≤ sizeLine), _, rfl, ?_⟩
    unfold aNil
    dsimp only
    refine fLen_seq ht ?_
    rw [List.length_map]
    have e1 : (1 + (rows.length : Int)) = ((1 + rows.length : Nat) : Int) := by omega
    refine ⟨⟨by omega, by omega, ?_⟩, ?_⟩
    · show 1 * (1 + (rows.length : Int)).toNat ≤ sizeLine
      unfold sizeLine
      omega
    rw [e1, rep0]
    refine ⟨by rw [List.length_map, List.length_map, M.zer_len]; unfold sizeLine; omega, ?_⟩
    rw [← List.map_append]
    refine ⟨_, rfl, _, rfl, trivial, p, n, rows, t, rfl, hh, ht, hr, hl, .list ((M.ech p n [] (M.lines rows)).1.map fD), rfl, _, rfl, ?_⟩
    unfold M.givenL M.out at q
    generalize hE : (M.ech p n [] (M.lines rows)).1 = E at *
    generalize hX : M.padded rows.length x = X at *
    have hX' : x ++ M.zer (1 + rows.length) = X := hX
    rw [hX']
    refine for_inv (fun ys sl => ∃ y u4 u5, sl = [.d (hD p n), .d t, .d (dI x), .d (lI y), u4, u5, .un] ∧ y.length = n + 1 + rows.length ∧ M.Red p y ∧ M.red p ys y = M.red p E X ∧ ∀ z ∈ ys, z ∈ E) (fun sl ⟨y, u4, u5, e, ly, ry, hy, _⟩ => ?_) (fun r rs sl R ⟨y, u4, u5, e, ly, ry, hy, hq⟩ hR => ?_) ⟨X, .un, .un, rfl, lp, rp, rfl, fun z hz => hz⟩
    · subst e
      have hy' : y = M.red p E X := hy
      rw [← hy'] at q
      refine ⟨_, rfl, ix_h1 ⟨⟨by omega, by omega⟩, ?_⟩⟩
      rw [show ((n : Int)).toNat = n by omega, rng0]
      refine lc_filter (f := fun i : Nat => PyData.int (i : Nat)) (c := fun i => decide (M.at_ y i ≠ 0)) rfl rfl (fun i hi Y Z hY hZ => ?_) (by rw [List.length_range]; omega) ?_
      · have := List.mem_range.mp hi
        refine ⟨_, rfl, _, rfl, ix_lI (by omega) ⟨pl_int _, pl_int _, ?_⟩⟩
        rw [eqv_int, show (!decide (M.at_ y i = 0)) = decide (M.at_ y i ≠ 0) by simp]
        exact ⟨fun c => ⟨_, rfl, hY c _ rfl⟩, fun c => hZ c _ rfl⟩
      · have e8 : ((List.range n).filter fun i => decide (M.at_ y i ≠ 0)).map (fun i : Nat => PyData.int (i : Nat)) = (((List.range n).filter fun i => decide (M.at_ y i ≠ 0)).map fun i : Nat => (i : Int)).map PyData.int := by rw [List.map_map]; rfl
        rw [e8]
        refine ⟨Nat.zero_le _, pl_lI _, pl_lI [], ?_⟩
        rw [show PyData.eqv (.list ((((List.range n).filter fun i => decide (M.at_ y i ≠ 0)).map fun i : Nat => (i : Int)).map PyData.int)) (.list []) = decide ((((List.range n).filter fun i => decide (M.at_ y i ≠ 0)).map fun i : Nat => (i : Int)) = []) from eqv_lI _ []]
        cases hld : M.leadOf n y with
        | some ld =>
          obtain ⟨r, hr2⟩ := places_some hld
          rw [hr2]
          rw [hld] at q
          refine ⟨fun _ => q, fun c => by simp at c⟩
        | none =>
          rw [places_none hld]
          rw [hld] at q
          refine ⟨fun c => by simp at c, fun _ => ?_⟩
          refine ⟨_, rfl, (by decide : (1 : Nat) ≤ sizeLine), _, rfl, fLen_seq ht ?_⟩
          rw [List.length_map]
          refine ⟨⟨by omega, by omega, ?_⟩, _, rfl, _, rfl, ix_h1 ?_⟩
          · show 1 * (1 + (rows.length : Int)).toNat ≤ sizeLine
            unfold sizeLine
            omega
          have cd : cutD (y.map PyData.int) (some (n : Int)) none = (y.drop n).map PyData.int := by rw [cut_drop, List.map_drop]
          rw [e1, rep0]
          refine ⟨trivial, p, n, _, M.zer (1 + rows.length), -1, .list (cutD (y.map PyData.int) (some (n : Int)) none), y.drop n, rfl, hh, rfl, by rw [cd]; rfl, ⟨by omega, by omega⟩, by rw [M.zer_len]; omega, ?_⟩
          have ld : (y.drop n).length = 1 + rows.length := by rw [List.length_drop]; omega
          have e2 : M.less p (M.zer (1 + rows.length)) (- -1) (y.drop n) = M.tms p (-1) (y.drop n) := by
            rw [M.tms_eq ld]
          rw [e2]
          refine ⟨_, rfl, ix_lI (i := 0) (by rw [M.tms_len ld]; omega) ⟨_, rfl, (by decide : (2 : Nat) ≤ sizeLine), ?_⟩⟩
          rw [cut_drop1, ← List.map_drop]
          exact q
    · subst e
      have mq := hq r (List.mem_cons_self ..)
      have b := M.at_red hpos ry r.1
      have lq := ec.lt r mq
      refine ⟨rfl, _, rfl, _, rfl, _, rfl, _, rfl, ix_lI (by omega) ⟨_, rfl, trivial, p, n, _, y, -(M.at_ y r.1), _, r.2, rfl, hh, rfl, rfl, ⟨by omega, by omega⟩, by omega, ?_⟩⟩
      rw [Int.neg_neg]
      exact hR _ ⟨_, _, _, rfl, M.less_len ly (ec.len r mq), M.red_less hpos, hy, fun z' h' => hq z' (List.mem_cons_of_mem _ h')⟩
theorem ok__law_is_int (D : Def K mg "_law_is_int" p_L_is_int s_L_is_int) (m_isinstance : mg "isinstance" = none) (m_int : mg "int" = none) (m_bool : mg "bool" = none) : Ok P w K mg base (k + 1) "_law_is_int" p_L_is_int a__law_is_int :=
  g_L_is_int (m_isinstance := m_isinstance) (m_int := m_int) (m_bool := m_bool) D (fun as Q ⟨_, e, _⟩ => by subst e; rfl) fun as Q ⟨i, e, q⟩ => by
    subst e
    exact ⟨_, rfl, by simp [PyData.hasDict], fun _ => ⟨_, rfl, by simp [PyData.hasDict], q⟩, fun c => (nomatch c)⟩
theorem ok__law_world (D : Def K mg "_law_world" p_L_world s_L_world) (m_range : mg "range" = none) (m_tuple : mg "tuple" = none) (o__law_take : Ok P w K mg base k "_law_take" p_L_take a__law_take) : Ok P w K mg base (k + 1) "_law_world" p_L_world a__law_world :=
  g_L_world (m_range := m_range) (m_tuple := m_tuple) D o__law_take (fun as Q ⟨_, _, _, _, e, _⟩ => by subst e; rfl) fun as Q ⟨l, s, p, n, e, hs, hh, q⟩ => by
    subst e
    have h6 := hh.n6
    have hpos := hh.pos
    have h10 := hh.p10
    refine ⟨_, rfl, ix_h1 ⟨⟨by omega, by omega⟩, ?_⟩⟩
    rw [show ((n : Int)).toNat = n by omega, rng0]
    refine lc_rel (fun sl => ∃ s', sl = [s', .d (hD p n), .un] ∧ BagOk l s') (fun d => ∃ v : Int, d = .int v ∧ 0 ≤ v ∧ v < p) (fun z hz sl ⟨s', e, hs'⟩ _ Y Z hY => ?_) ⟨s, rfl, hs⟩ (fun d h => by simp at h) (by rw [List.length_range]; simp; omega) fun ds sl' ⟨s', e, hs'⟩ hl hd => ?_
    · subst e
      exact ⟨fun _ => ⟨⟨_, l, rfl, hs'.addr⟩, _, rfl, ix_h0 ⟨⟨_, l, rfl, hs'.addr⟩, ⟨trivial, trivial⟩, l, _, p, rfl, hs', hpos, by omega, fun v s2 hs2 v0 v1 => hY _ _ ⟨s2, rfl, hs2⟩ ⟨v, rfl, v0, v1⟩⟩⟩, fun c => (nomatch c)⟩
    · subst e
      obtain ⟨x, rfl, rx⟩ := ints_of hd
      show Q (dI x) (finS (s :: [.d (hD p n)]) (s' :: _))
      rw [finS_bag hs hs']
      exact q x s' ⟨by rw [List.length_map, List.length_range] at hl; simpa using hl, rx⟩ hs'
theorem ok__law_sum (D : Def K mg "_law_sum" p_L_sum s_L_sum) (m_range : mg "range" = none) (m_tuple : mg "tuple" = none) (o__law_one : Ok P w K mg base k "_law_one" p_L_one a__law_one) (o__law_take : Ok P w K mg base k "_law_take" p_L_take a__law_take) :
    Ok P w K mg base (k + 1) "_law_sum" p_L_sum a__law_sum :=
  g_L_sum (m_range := m_range) (m_tuple := m_tuple) D o__law_one o__law_take (fun as Q ⟨_, _, _, _, e, _⟩ => by subst e; rfl) fun as Q ⟨l, s, p, n, e, hs, hh, q⟩ => by
    subst e
    have h6 := hh.n6
    have hpos := hh.pos
    have h10 := hh.p10
    have h1 := hh.pr.1
    refine ⟨(by decide : (1 : Nat) ≤ sizeLine), _, rfl, ix_h1 ⟨⟨by omega, by omega, ?_⟩, fun l2 => ?_⟩⟩
    · show 1 * ((n : Int)).toNat ≤ sizeLine
      unfold sizeLine
      omega
    rw [rep0]
    refine ⟨⟨_, l, rfl, hs.addr⟩, (by decide : (7 : Nat) ≤ sizeLine), ⟨_, l, rfl, hs.addr⟩, ⟨trivial, trivial⟩, l, _, _, _, rfl, hs, .inl rfl, (by decide : (0 : Nat) < 7), (by decide : (7 : Nat) < 100000), fun d1 s1 hs1 hd1 => ?_⟩
    have c1 : ∃ j : Nat, d1 = .int (j : Nat) ∧ j ≤ 8 := by
      simp only [List.mem_cons, List.not_mem_nil, or_false] at hd1
      rcases hd1 with rfl | rfl | rfl | rfl | rfl | rfl | rfl
      · exact ⟨1, rfl, by decide⟩
      · exact ⟨2, rfl, by decide⟩
      · exact ⟨1, rfl, by decide⟩
      · exact ⟨2, rfl, by decide⟩
      · exact ⟨3, rfl, by decide⟩
      · exact ⟨8, rfl, by decide⟩
      · exact ⟨0, rfl, by decide⟩
    obtain ⟨m, rfl, hm⟩ := c1
    refine ⟨⟨by omega, by omega⟩, ?_⟩
    rw [show ((m : Int)).toNat = m by omega, rng0]
    refine for_inv (fun zs sl => ∃ s l2 x u, sl = [s, .d (hD p n), .m l2 (x.map PyData.int), u] ∧ BagOk l s ∧ VecOk p n x) (fun sl ⟨s', l2, x, u, e, hs', hx⟩ => ?_) (fun z zs sl R ⟨s', l2, x, u, e, hs', hx⟩ hR => ?_) ⟨s1, l2, M.zer n, .un, rfl, hs1, M.zer_len, fun a ha => by rw [List.eq_of_mem_replicate ha]; omega⟩
    · subst e
      refine ⟨_, _, rfl, ?_⟩
      show Q (dI x) (finS (s :: .d (hD p n) :: []) (s' :: _ :: _))
      rw [fin2 hs hs']
      exact q x s' hx hs'
    · subst e
      obtain ⟨hx1, hx2⟩ := hx
      refine ⟨_, rfl, ix_h1 ⟨fun c => ?_, fun c => hR _ ⟨s', l2, x, _, rfl, hs', hx1, hx2⟩⟩⟩
      have n0 : 0 < (n : Int) := of_decide_eq_true c
      refine ⟨⟨_, l, rfl, hs'.addr⟩, _, rfl, ix_h0 ⟨⟨_, l, rfl, hs'.addr⟩, ⟨trivial, trivial⟩, l, _, p - 1, rfl, hs', by omega, by omega, fun v s2 hs2 v0 v1 => ?_⟩⟩
      refine ⟨⟨_, _, rfl⟩, ⟨_, l, rfl, hs2.addr⟩, _, rfl, ix_h1 ⟨⟨_, l, rfl, hs2.addr⟩, ⟨trivial, trivial⟩, l, _, n, rfl, hs2, n0, by omega, fun j s3 hs3 j0 j1 => ?_⟩⟩
      obtain ⟨jn, rfl⟩ : ∃ jn : Nat, j = (jn : Int) := ⟨j.toNat, by omega⟩
      refine ⟨_, _, jn, rfl, ixn (by rw [List.length_map]; omega), hR _ ⟨s3, l2, x.set jn (1 + v), .d (.int (z : Nat)), ?_, hs3, by rw [List.length_set]; exact hx1, red_set hx2 (by omega) (by omega)⟩⟩
      rw [List.map_set]
      rfl
theorem ok__law_sums (D : Def K mg "_law_sums" p_L_sums s_L_sums) (m_range : mg "range" = none) (m_tuple : mg "tuple" = none) (o__law_sum : Ok P w K mg base k "_law_sum" p_L_sum a__law_sum) (o__law_one : Ok P w K mg base k "_law_one" p_L_one a__law_one)
    (o__law_plus : Ok P w K mg base k "_law_plus" p_L_plus a__law_plus) (o__law_take : Ok P w K mg base k "_law_take" p_L_take a__law_take) : Ok P w K mg base (k + 1) "_law_sums" p_L_sums a__law_sums :=
  g_L_sums (m_range := m_range) (m_tuple := m_tuple) D o__law_sum o__law_one o__law_plus o__law_take (fun as Q ⟨_, _, _, _, _, e, _⟩ => by subst e; rfl) fun as Q ⟨l, s, p, n, m, e, hs, hh, m1, m20, q⟩ => by
    subst e
    have h6 := hh.n6
    have hpos := hh.pos
    have h10 := hh.p10
    have h1 := hh.pr.1
    refine ⟨⟨_, l, rfl, hs.addr⟩, _, rfl, ⟨_, l, rfl, hs.addr⟩, ⟨trivial, trivial⟩, l, s, p, n, rfl, hs, hh, fun x0 s1 hx0 hs1 => ⟨(by decide : (1 : Nat) ≤ sizeLine), fun l3 => ⟨_, rfl, ⟨by omega, by omega⟩, ?_⟩⟩⟩
    rw [show ((m : Int) - 1).toNat = m - 1 by omega, rng0]
    refine for_inv (fun zs sl => ∃ s l3 xs u4 u5 u6 u7, sl = [s, .d (hD p n), .d (.int (m : Nat)), .m l3 (xs.map dI), u4, u5, u6, u7] ∧ BagOk l s ∧ (∀ x ∈ xs, VecOk p n x) ∧ xs.length + zs.length = m ∧ 0 < xs.length) (fun sl ⟨s', l3, xs, u4, u5, u6, u7, e, hs', hx, hl, _⟩ => ?_) (fun z zs sl R ⟨s', l3, xs, u4, u5, u6, u7, e, hs', hx, hl, x1⟩ hR => ?_)
      ⟨s1, l3, [x0], .un, .un, .un, .un, rfl, hs1, fun x hx => by rw [List.mem_singleton.mp hx]; exact hx0, by rw [List.length_range]; simp; omega, by simp⟩
    · subst e
      refine ⟨_, _, rfl, ?_⟩
      show Q (.list (xs.map dI)) (finS (s :: .d (hD p n) :: [.d (.int (m : Nat))]) (s' :: _ :: _ :: _))
      rw [fin2 hs hs']
      exact q xs s' hx (by simpa using hl) hs'
    · subst e
      have hl' : xs.length + (zs.length + 1) = m := hl
      have pick : ∀ {d : PyData}, d ∈ xs.map dI → ∃ x, d = dI x ∧ VecOk p n x := fun {d} hd => by
        obtain ⟨x, hm, e⟩ := List.mem_map.mp hd
        exact ⟨x, e.symm, hx x hm⟩
      refine ⟨⟨_, l, rfl, hs'.addr⟩, ⟨_, l3, rfl, rfl⟩, ⟨_, l3, rfl, rfl⟩, ⟨_, l, rfl, hs'.addr⟩, ⟨⟨by decide, trivial⟩, trivial, trivial⟩, l, _, _, _, rfl, hs', .inr (.inr ⟨l3, rfl⟩), by rw [List.length_map]; omega, by rw [List.length_map]; omega, fun d1 s2 hs2 hd1 => ?_⟩
      refine ⟨⟨_, l, rfl, hs2.addr⟩, ⟨_, l3, rfl, rfl⟩, ⟨_, l3, rfl, rfl⟩, ⟨_, l, rfl, hs2.addr⟩, ⟨⟨by decide, trivial⟩, trivial, trivial⟩, l, _, _, _, rfl, hs2, .inr (.inr ⟨l3, rfl⟩), by rw [List.length_map]; omega, by rw [List.length_map]; omega, fun d2 s3 hs3 hd2 => ⟨_, _, rfl, ?_⟩⟩
      obtain ⟨xa, rfl, va⟩ := pick hd1
      obtain ⟨xb, rfl, vb⟩ := pick hd2
      refine ⟨_, rfl, _, rfl, ⟨_, l, rfl, hs3.addr⟩, _, rfl, ix_h0 ⟨⟨_, l, rfl, hs3.addr⟩, ⟨trivial, trivial⟩, l, _, p - 1, rfl, hs3, by omega, by omega, fun v s4 hs4 v0 v1 => ?_⟩⟩
      have la := va.1
      refine ⟨_, rfl, trivial, p, n, _, xa, 1 + v, _, xb, rfl, hh, rfl, rfl, ⟨by omega, by omega⟩, by omega, ?_⟩
      have vc : VecOk p n (M.less p xa (-(1 + v)) xb) := ⟨M.less_len va.1 vb.1, M.red_less hpos⟩
      refine ⟨⟨_, _, rfl⟩, ⟨_, l, rfl, hs4.addr⟩, ⟨_, l, rfl, hs4.addr⟩, _, rfl, ⟨_, l, rfl, hs4.addr⟩, ⟨trivial, trivial⟩, l, _, p, n, rfl, hs4, hh, fun x1 s5 hx1 hs5 => ?_⟩
      refine ⟨⟨_, l, rfl, hs5.addr⟩, _, rfl, ⟨_, l, rfl, hs5.addr⟩, ⟨trivial, trivial⟩, l, _, p, n, rfl, hs5, hh, fun x2 s6 hx2 hs6 => ?_⟩
      refine ⟨_, rfl, (by decide : (3 : Nat) ≤ sizeLine), ⟨_, l, rfl, hs6.addr⟩, ⟨trivial, trivial⟩, l, _, _, _, rfl, hs6, .inl rfl, (by decide : (0 : Nat) < 3), (by decide : (3 : Nat) < 100000), fun d3 s7 hs7 hd3 => ?_⟩
      have c3 : ∃ x, d3 = dI x ∧ VecOk p n x := by
        simp only [List.mem_cons, List.not_mem_nil, or_false] at hd3
        rcases hd3 with rfl | rfl | rfl
        · exact ⟨x1, rfl, hx1⟩
        · exact ⟨x2, rfl, hx2⟩
        · exact ⟨_, rfl, vc⟩
      obtain ⟨x3, rfl, v3⟩ := c3
      refine ⟨_, _, rfl, by rw [List.length_map]; unfold sizeLine; omega, hR _ ⟨s7, l3, xs ++ [x3], .d (.int (z : Nat)), .d (dI xa), .d (dI xb), .d (dI (M.less p xa (-(1 + v)) xb)), ?_, hs7, fun x hm => ?_, by rw [List.length_append, List.length_singleton]; omega, by simp⟩⟩
      · rw [List.map_append]
        rfl
      · rcases List.mem_append.mp hm with hm | hm
        · exact hx x hm
        · rw [List.mem_singleton.mp hm]; exact v3
end
end R

namespace R
open PySem PySem.Spec PyProof.Rows L2 RX
section
variable {P : Program} {w : World} {K : PySem.W.Frag} {mg : Str → Option Value} {base : Heap} {k : Nat}
theorem ok__law_alike (D : Def K mg "_law_alike" p_L_alike s_L_alike) (m_repr : mg "repr" = none) : Ok P w K mg base (k + 1) "_law_alike" p_L_alike a__law_alike :=
  g_L_alike (m_repr := m_repr) D (fun as Q ⟨_, _, _, _, e, _⟩ => by subst e; rfl) fun as Q ⟨d, e, h, w, e', f, g, h40, hw, q⟩ => by
    subst e'
    refine ⟨_, rfl, _, rfl, f.pl (by omega), g.pl (by omega), ?_⟩
    cases c : PyData.eqv d e with
    | false => rw [c] at q; exact ⟨fun c' => (nomatch c'), fun _ => q⟩
    | true =>
      rw [c] at q
      refine ⟨fun _ => ⟨_, rfl, f.repr h40 hw, _, rfl, g.repr h40 hw, ?_⟩, fun c' => (nomatch c')⟩
      exact q
theorem ok__law_house (D : Def K mg "_law_house" p_L_house s_L_house) (o__law_one : Ok P w K mg base k "_law_one" p_L_one a__law_one) (m_list : mg "list" = none) (m_range : mg "range" = none) : Ok P w K mg base (k + 1) "_law_house" p_L_house a__law_house :=
  g_L_house (m_list := m_list) (m_range := m_range) D o__law_one (fun as Q ⟨_, _, _, e, _⟩ => by subst e; rfl) fun as Q ⟨l, s, m, e, hs, hm, q⟩ => by
    subst e
    have tail : ∀ ns : List Int, 0 < ns.length → ns.length < 100 → (∀ v ∈ ns, 0 ≤ v ∧ v ≤ m) → (aRet (aTup (aCons (aCall a__law_one (aaO 0 (aaD (aOfN (aLst (aCons (aC (.int 2)) (aCons (aC (.int 3)) (aCons (aC (.int 2)) (aCons (aC (.int 5)) (aCons (aC (.int 7)) aNil))))))) aaNil))) (aCons (aCall a__law_one (aaO 0 (aaD (aVar 2) aaNil))) aNil))))
        { nx := fun sl' => Q PyData.none (finS [s, .d (.int m)] sl'), rt := fun d sl' => Q d (finS [s, .d (.int m)] sl') } [s, .d (.int m), .d (.list (ns.map .int))] := fun ns n0 n1 nb => by
      refine ⟨ad hs, (by decide : (5 : Nat) ≤ sizeLine), ad hs, ⟨trivial, trivial⟩, oneN [2, 3, 2, 5, 7] hs (by decide) (by decide) fun p s1 hs1 hp => ?_⟩
      refine ⟨ad hs1, _, rfl, ad hs1, ⟨trivial, trivial⟩, oneN ns hs1 n0 (by omega) fun n s2 hs2 hn => ⟨(by decide : (2 : Nat) ≤ sizeLine), ?_⟩⟩
      obtain ⟨b0, b1⟩ := nb n hn
      obtain ⟨n', rfl⟩ : ∃ n' : Nat, n = (n' : Int) := ⟨n.toNat, by omega⟩
      show Q (hD p n') (finS (s :: [.d (.int m)]) (s2 :: _))
      rw [finS_bag hs hs2]
      have hp' : M.Pr p ∧ p < 10 := by
        simp only [List.mem_cons, List.not_mem_nil, or_false] at hp
        rcases hp with rfl | rfl | rfl | rfl | rfl
        · exact ⟨pr2, by decide⟩
        · exact ⟨pr3, by decide⟩
        · exact ⟨pr2, by decide⟩
        · exact ⟨pr5, by decide⟩
        · exact ⟨pr7, by decide⟩
      exact q p n' s2 ⟨hp'.1, hp'.2, by omega⟩ (by omega) hs2
    refine ⟨_, rfl, fun c => ⟨_, rfl, _, rfl, (by decide : (6 : Nat) ≤ sizeLine), ?_⟩, fun c => ⟨_, rfl, ⟨by omega, by omega⟩, ?_⟩⟩
    · have c' : (3 : Int) ≤ m := of_decide_eq_true c
      refine tail [m, 2, 3, 1, m, 0] (by simp) (by simp) fun v hv => ?_
      simp only [List.mem_cons, List.not_mem_nil, or_false] at hv
      rcases hv with rfl | rfl | rfl | rfl | rfl | rfl <;> omega
    · have e : rgD 0 ((m : Int) + 1).toNat = ((List.range (m + 1)).map fun i : Nat => (i : Int)).map PyData.int := by
        rw [show ((m : Int) + 1).toNat = m + 1 by omega, rng0, List.map_map]
        rfl
      rw [e]
      refine tail _ (by simp) (by simp; omega) fun v hv => ?_
      obtain ⟨i, hi, rfl⟩ := List.mem_map.mp hv
      have := List.mem_range.mp hi
      omega
theorem ok__law_answer (D : Def K mg "_law_answer" p_L_answer s_L_answer) (o__law_given : Ok P w K mg base k "_law_given" p_L_given a__law_given) : Ok P w K mg base (k + 1) "_law_answer" p_L_answer a__law_answer :=
  g_L_answer D o__law_given (fun as Q ⟨_, _, _, _, _, e, _⟩ => by subst e; rfl) fun as Q ⟨p, n, rows, t, d, e, hh, ht, st, hl, hd, q⟩ => by
    subst e
    unfold ansL at q
    refine ⟨_, rfl, _, rfl, _, rfl, ix_dd1 ⟨trivial, p, n, rows, t, d.1, rfl, hh, ht, st.ok, st.ind, by omega, hd.v.1, hd.v.2, ?_⟩⟩
    refine ⟨_, rfl, ix_dd0 ⟨pl_kind d, pl_str (by decide +kernel), ?_⟩⟩
    rw [eqv_str, kind_ask]
    cases hv : d.2 with
    | none =>
      refine ⟨fun _ => ?_, fun c => (nomatch c)⟩
      cases hg : M.givenL p n rows d.1 with
      | none => rw [hg, hv] at q; exact ⟨_, rfl, fun _ => q, fun c => (nomatch c)⟩
      | some r =>
        obtain ⟨a, y⟩ := r
        rw [hg, hv] at q
        exact ⟨_, rfl, fun c => (nomatch c), fun _ => ⟨_, rfl, _, rfl, q⟩⟩
    | some v =>
      refine ⟨fun c => (nomatch c), fun _ => ?_⟩
      cases hg : M.givenL p n rows d.1 with
      | none => rw [hg, hv] at q; exact ⟨_, rfl, fun _ => q, fun c => (nomatch c)⟩
      | some r =>
        obtain ⟨a, y⟩ := r
        rw [hg, hv] at q
        simp only at q
        refine ⟨_, rfl, fun c => (nomatch c), fun _ => ⟨_, rfl, _, rfl, _, rfl, ix_dd2 hv ⟨pl_int _, pl_int _, ?_⟩⟩⟩
        rw [eqv_int]
        by_cases c : a = v
        · rw [decide_eq_true c]
          rw [if_pos c] at q
          exact ⟨fun _ => q, fun c => (nomatch c)⟩
        · rw [decide_eq_false c]
          rw [if_neg c] at q
          exact ⟨fun c => (nomatch c), fun _ => q⟩
theorem ok__law_answers_by (D : Def K mg "_law_answers_by" p_L_answers_by s_L_answers_by) (o__law_answer : Ok P w K mg base k "_law_answer" p_L_answer a__law_answer) : Ok P w K mg base (k + 1) "_law_answers_by" p_L_answers_by a__law_answers_by :=
  g_L_answers_by D o__law_answer (fun as Q ⟨_, _, _, e, _⟩ => by subst e; rfl) fun as Q ⟨p, n, ds, e, hh, hd, hl, q⟩ => by
    subst e
    refine ⟨Nat.zero_le _, Nat.zero_le _, fun l m => ⟨_, rfl, _, rfl, ?_⟩⟩
    refine for_inv (fun zs sl => ∃ done l m u4 u5, ds = done ++ zs ∧ sl = [.d (hD p n), .d (.list (ds.map ddD)), .m l ((rowsFrom p n [] done).map rD), .m m ((ansFrom p n [] done).map anD), u4, u5] ∧ u4.addr = none ∧ u5.addr = none)
      (fun sl ⟨done, l, m, u4, u5, er, e, _, _⟩ => ?_) (fun z zs sl R ⟨done, l, m, u4, u5, er, e, n4, n5⟩ hR => ?_) ⟨[], l, m, .un, .un, rfl, rfl, rfl, rfl⟩
    · subst e
      rw [List.append_nil] at er
      subst er
      exact ⟨m, _, rfl, q⟩
    · subst e
      have hdone : ∀ d ∈ done, DdOk p n d := fun d h => hd d (by rw [er]; exact List.mem_append_left _ h)
      have hz : DdOk p n z := hd z (by rw [er]; exact List.mem_append_right _ (List.mem_cons_self ..))
      have st : StOk p n (rowsFrom p n [] done) := StOk.nil.from_ hh.pr hdone
      have ll : done.length + (zs.length + 1) = ds.length := by rw [er, List.length_append, List.length_cons]
      have lr := rowsFrom_len (p := p) (n := n) done []
      have la := ansFrom_len (p := p) (n := n) done []
      rw [List.length_nil] at lr
      have er' : ds = (done ++ [z]) ++ zs := by rw [er]; simp
      refine ⟨l, _, rfl, fun j s hj ha => ?_, _, rfl, _, rfl, _, rfl, trivial, p, n, rowsFrom p n [] done, _, z, rfl, hh, rfl, st, by omega, hz, rfl, ?_, ?_⟩
      · have hj' : [Slot.d (hD p n), .d (.list (ds.map ddD)), .m l ((rowsFrom p n [] done).map rD), .m m ((ansFrom p n [] done).map anD), .d (ddD z), u5][j]? = some s := hj
        match j, hj' with
        | 0, hj' => cases hj'; exact absurd rfl ha
        | 1, hj' => cases hj'; exact absurd rfl ha
        | 2, _ => exact .inl rfl
        | 3, hj' => cases hj'; exact .inr ⟨m, _, rfl, noL_an _⟩
        | 4, hj' => cases hj'; exact absurd rfl ha
        | 5, hj' => cases hj'; exact absurd n5 ha
        | j + 6, hj' => simp at hj'
      · exact noL_an1 _
      · refine ⟨_, rfl, pl_an _, pl_str (by decide +kernel), ?_⟩
        rw [eqv_an_new]
        have fin : ∀ (rows' : List PyData) (l' : Addr), rows' = (rowStep p n (rowsFrom p n [] done) z).map rD → (aApp 3 (aVar 5)) { nx := R, rt := fun d sl' => Q d (finS [.d (hD p n), .d (.list (ds.map ddD))] sl'), bk := fun sl' => aRet (aFrz 3) { nx := fun sl' => Q PyData.none (finS [.d (hD p n), .d (.list (ds.map ddD))] sl'), rt := fun d sl' => Q d (finS [.d (hD p n), .d (.list (ds.map ddD))] sl') } sl', ct := R }
            [.d (hD p n), .d (.list (ds.map ddD)), .m l' rows', .m m ((ansFrom p n [] done).map anD), .d (ddD z), .d (anD (ansL p n (rowsFrom p n [] done) z))] := fun rows' l' e' => by
          subst e'
          refine ⟨⟨_, _, rfl⟩, _, rfl, m, _, rfl, by rw [List.length_map, la]; unfold sizeLine; omega, hR _ ⟨done ++ [z], l', m, .d (ddD z), .d (anD (ansL p n (rowsFrom p n [] done) z)), er', ?_, rfl, rfl⟩⟩
          rw [rowsFrom_snoc, ansFrom_snoc, List.map_append]
          rfl
        refine ⟨fun c => ?_, fun c => ?_⟩
        · have c' := of_decide_eq_true c
          obtain ⟨_, v, hv⟩ := ansL_new c'
          refine ⟨⟨_, _, rfl⟩, _, rfl, ix_dd1 ⟨_, rfl, ix_dd2 hv ⟨(by decide : (2 : Nat) ≤ sizeLine), l, _, rfl, by rw [List.length_map]; unfold sizeLine; omega, fin _ l ?_⟩⟩⟩
          unfold rowStep
          rw [if_pos c', List.map_append, hv]
          rfl
        · refine fin _ l ?_
          unfold rowStep
          rw [if_neg (of_decide_eq_false c)]
end
end R

namespace R
open PySem PySem.Spec PyProof.Rows L2 RX
section
variable {P : Program} {w : World} {K : PySem.W.Frag} {mg : Str → Option Value} {base : Heap} {k : Nat}
theorem ok__law_deed (D : Def K mg "_law_deed" p_L_deed s_L_deed) (o__law_one : Ok P w K mg base k "_law_one" p_L_one a__law_one) (o__law_take : Ok P w K mg base k "_law_take" p_L_take a__law_take) (o__law_comes_to : Ok P w K mg base k "_law_comes_to" p_L_comes_to a__law_comes_to) : Ok P w K mg base (k + 1) "_law_deed" p_L_deed a__law_deed :=
  g_L_deed D o__law_one o__law_take o__law_comes_to (fun as Q ⟨_, _, _, _, _, _, e, _⟩ => by subst e; rfl) fun as Q ⟨l, s, p, n, xs, w, e, hs, hh, hx, x0, x1, hw, q⟩ => by
    subst e
    have hpos := hh.pos
    have h10 := hh.p10
    have h6 := hh.n6
    refine ⟨ad hs, _, rfl, ad hs, ⟨trivial, trivial⟩, oneL hs (by rw [List.length_map]; exact x0) (by rw [List.length_map]; omega) fun d s1 hs1 hd => ?_⟩
    obtain ⟨x, hm, rfl⟩ := List.mem_map.mp hd
    have vx := hx x hm
    have fin : ∀ {d : PyData} {s' a b c u v : Slot}, BagOk l s' → (∀ z, z = [s', .d (hD p n), .d (.list (xs.map dI)), .d (dI w)] → Q d z) → Q d (finS [s, .d (hD p n), .d (.list (xs.map dI)), .d (dI w)] [s', a, b, c, u, v]) := fun h q => by
      rw [finS_bag hs h]
      exact q _ rfl
    refine ⟨ad hs1, ad hs1, ⟨trivial, trivial⟩, takeN hs1 (by omega) (by omega) fun v s2 hs2 v0 v1 => ⟨fun _ => ?_, fun _ => ?_⟩⟩
    · refine ⟨_, rfl, (by decide : (2 : Nat) ≤ sizeLine), ?_⟩
      exact fin hs2 fun z hz => by subst hz; exact q (x, none) s2 ⟨vx, fun v h => (nomatch h)⟩ hs2
    · refine ⟨_, rfl, _, rfl, _, rfl, trivial, p, n, x, w, rfl, hh, fun a ha => bnd hpos h10 vx.2 ha, by rw [vx.1]; omega, ?_⟩
      refine ⟨_, rfl, ad hs2, ad hs2, ⟨trivial, trivial⟩, takeN hs2 (by omega) (by omega) fun u s3 hs3 u0 u1 => ⟨pl_int _, pl_int _, ?_⟩⟩
      rw [eqv_int]
      refine ⟨fun _ => ?_, fun _ => ?_⟩
      · refine ⟨ad hs3, _, rfl, ix_h0 ⟨ad hs3, ⟨trivial, trivial⟩, takeN hs3 hpos (by omega) fun y s4 hs4 y0 y1 => ⟨(by decide : (3 : Nat) ≤ sizeLine), ?_⟩⟩⟩
        exact fin hs4 fun z hz => by subst hz; exact q (x, some y) s4 ⟨vx, fun v h => by cases h; exact ⟨y0, y1⟩⟩ hs4
      · refine ⟨_, rfl, (by decide : (3 : Nat) ≤ sizeLine), ?_⟩
        exact fin hs3 fun z hz => by subst hz; exact q (x, some _) s3 ⟨vx, fun v h => by cases h; exact ⟨M.fm_lo hpos _, M.fm_hi hpos _⟩⟩ hs3
theorem ok__law_stretch (D : Def K mg "_law_stretch" p_L_stretch s_L_stretch) (o__law_one : Ok P w K mg base k "_law_one" p_L_one a__law_one) : Ok P w K mg base (k + 1) "_law_stretch" p_L_stretch a__law_stretch :=
  g_L_stretch D o__law_one (fun as Q ⟨_, _, _, _, e, _⟩ => by subst e; rfl) fun as Q ⟨l, s, m, way, e, hs, q⟩ => by
    subst e
    have fin : ∀ {b : Int} {e : Option Int} {s' x y u v : Slot}, BagOk l s' → StrOk m b e → Q (.tuple [.int b, oI e]) (finS [s, .d (.int m), .d (.int way)] [s', x, y, u, v]) := fun h st => by
      rw [finS_bag hs h]
      exact q _ _ _ st h
    have le30 : ∀ v ∈ [(9 : Int), 15, 30, 10, 20, 300], 0 ≤ v ∧ v ≤ 300 := by decide
    have le5 : ∀ v ∈ [(0 : Int), 1, 4, 5], 0 ≤ v ∧ v ≤ 5 := by decide
    refine ⟨ad hs, (by decide : (4 : Nat) ≤ sizeLine), ad hs, ⟨trivial, trivial⟩, oneN [0, 1, 4, 5] hs (by decide) (by decide) fun sh s1 hs1 hsh => ?_⟩
    have bsh := le5 _ hsh
    refine ⟨_, rfl, pl_int _, pl_int _, ?_⟩
    rw [eqv_int]
    refine ⟨fun _ => ?_, fun _ => ?_⟩
    · refine ⟨_, rfl, _, rfl, _, rfl, ad hs1, (by decide : (4 : Nat) ≤ sizeLine), ad hs1, ⟨trivial, trivial⟩, oneN [0, 1, 4, 5] hs1 (by decide) (by decide) fun v s2 hs2 hv => ⟨(by decide : (2 : Nat) ≤ sizeLine), fin (e := some _) hs2 ?_⟩⟩
      have := le5 _ hv
      exact ⟨by omega, by omega, fun e' h => by cases h; omega⟩
    · refine ⟨_, rfl, pl_int _, pl_int _, ?_⟩
      rw [eqv_int]
      refine ⟨fun _ => ?_, fun _ => ?_⟩
      · refine ⟨_, rfl, _, rfl, ad hs1, (by decide : (3 : Nat) ≤ sizeLine), ad hs1, ⟨trivial, trivial⟩, oneN [5, 5, 4] hs1 (by decide) (by decide) fun v s2 hs2 hv => ⟨(by decide : (2 : Nat) ≤ sizeLine), fin (e := some _) hs2 ?_⟩⟩
        have : ∀ v ∈ [(5 : Int), 5, 4], 0 ≤ v ∧ v ≤ 5 := by decide
        have := this _ hv
        exact ⟨by omega, by omega, fun e' h => by cases h; omega⟩
      · refine ⟨ad hs1, (by decide : (6 : Nat) ≤ sizeLine), ad hs1, ⟨trivial, trivial⟩, oneN [9, 15, 30, 10, 20, 300] hs1 (by decide) (by decide) fun lo s2 hs2 hlo => ?_⟩
        have blo := le30 _ hlo
        refine ⟨_, rfl, pl_int _, pl_int _, ?_⟩
        rw [eqv_int]
        refine ⟨fun _ => ?_, fun _ => ?_⟩
        · refine ⟨_, rfl, _, rfl, _, rfl, ad hs2, (by decide : (5 : Nat) ≤ sizeLine), ad hs2, ⟨trivial, trivial⟩, oneN [9, 15, 10, 60, 300] hs2 (by decide) (by decide) fun v s3 hs3 hv => ⟨(by decide : (2 : Nat) ≤ sizeLine), fin (e := some _) hs3 ?_⟩⟩
          have : ∀ v ∈ [(9 : Int), 15, 10, 60, 300], 0 ≤ v ∧ v ≤ 300 := by decide
          have := this _ hv
          exact ⟨by omega, by omega, fun e' h => by cases h; omega⟩
        · refine ⟨_, rfl, ad hs2, _, rfl, _, rfl, (by decide : (2 : Nat) ≤ sizeLine), ad hs2, ⟨trivial, trivial⟩, oneN [sh, lo] hs2 (by simp) (by simp) fun v s3 hs3 hv => ?_⟩
          have bv : 0 ≤ v ∧ v ≤ 300 := by
            simp only [List.mem_cons, List.not_mem_nil, or_false] at hv
            rcases hv with rfl | rfl <;> omega
          refine ⟨ad hs3, _, rfl, _, rfl, _, rfl, _, rfl, _, rfl, (by decide : (4 : Nat) ≤ sizeLine), ad hs3, ⟨trivial, trivial⟩, oneL (xs := [.int (m + lo), .int (m + sh), .int (m + 15), .none]) hs3 (by simp) (by simp) fun d s4 hs4 hd => ⟨(by decide : (2 : Nat) ≤ sizeLine), ?_⟩⟩
          simp only [List.mem_cons, List.not_mem_nil, or_false] at hd
          rcases hd with rfl | rfl | rfl | rfl
          · exact fin (e := some _) hs4 ⟨by omega, by omega, fun e' h => by cases h; omega⟩
          · exact fin (e := some _) hs4 ⟨by omega, by omega, fun e' h => by cases h; omega⟩
          · exact fin (e := some _) hs4 ⟨by omega, by omega, fun e' h => by cases h; omega⟩
          · exact fin (e := none) hs4 ⟨by omega, by omega, fun e' h => (nomatch h)⟩
theorem ok__law_put (D : Def K mg "_law_put" p_L_put s_L_put) : Ok P w K mg base (k + 1) "_law_put" p_L_put a__law_put :=
  g_L_put D (fun as Q ⟨_, _, _, e, _⟩ => by subst e; rfl) fun as Q ⟨xs, i, d, e, hi, hl, q⟩ => by
    subst e
    refine ⟨_, rfl, _, rfl, _, rfl, (by decide : (1 : Nat) ≤ sizeLine), ?_, _, rfl, _, rfl, ?_⟩
    · rw [cut_take, List.length_take]
      show _ + 1 ≤ sizeLine
      unfold sizeLine
      omega
    · show (cutD xs none (some (i : Int)) ++ [d]).length + (cutD xs (some ((i : Int) + 1)) none).length ≤ sizeLine ∧ Q (.tuple ((cutD xs none (some (i : Int)) ++ [d]) ++ cutD xs (some ((i : Int) + 1)) none)) _
      rw [show ((i : Int) + 1) = ((i + 1 : Nat) : Int) by omega, cut_take, cut_drop]
      refine ⟨?_, ?_⟩
      · rw [List.length_append, List.length_take, List.length_drop, List.length_singleton]
        unfold sizeLine
        omega
      · rw [List.append_assoc, show xs.take i ++ ([d] ++ xs.drop (i + 1)) = xs.set i d from (List.set_eq_take_append_cons_drop.trans (if_pos hi)).symm]
        exact q
theorem ok__law_mixed (D : Def K mg "_law_mixed" p_L_mixed s_L_mixed) (m_len : mg "len" = none) (o__law_take : Ok P w K mg base k "_law_take" p_L_take a__law_take) : Ok P w K mg base (k + 1) "_law_mixed" p_L_mixed a__law_mixed :=
  g_L_mixed (m_len := m_len) D o__law_take (fun as Q ⟨_, _, _, e, _⟩ => by subst e; rfl) fun as Q ⟨l, s, ds, e, hs, hl, q⟩ => by
    subst e
    refine ⟨Nat.zero_le _, fun l0 => ⟨_, rfl, ds, rfl, ?_⟩⟩
    have em : ds = ds.map id := by rw [List.map_id]
    rw [em]
    refine for_inv (h := id) (fun zs sl => ∃ s l2 ds2 u, sl = [s, .d (.list ds), .m l2 ds2, u] ∧ BagOk l s ∧ (ds2 ++ zs).Perm ds) (fun sl ⟨s', l2, ds2, u, e, hs', h2⟩ => ?_) (fun z zs sl R ⟨s', l2, ds2, u, e, hs', h2⟩ hR => ?_) ⟨s, l0, [], .un, by rw [← em]; rfl, hs, .refl _⟩
    · subst e
      refine ⟨_, _, rfl, ?_⟩
      show Q (.list ds2) (finS (s :: .d (.list (ds.map id)) :: []) (s' :: _ :: _))
      rw [← em, fin2 hs hs']
      exact q ds2 s' (by simpa using h2) hs'
    · subst e
      have h4 : ds2.length + (zs.length + 1) = ds.length := by rw [← h2.length_eq, List.length_append, List.length_cons]
      refine ⟨⟨_, _, rfl⟩, ad hs', _, _, rfl, ad hs', ⟨trivial, trivial⟩, takeN hs' (by omega) (by omega) fun v s2 hs2 v0 v1 => ⟨_, rfl, _, _, rfl, by unfold sizeLine; omega, v0, by omega, hR _ ⟨s2, l2, _, _, rfl, hs2, ?_⟩⟩⟩
      refine List.Perm.trans ?_ h2
      have e1 : ds2 = ds2.take v.toNat ++ ds2.drop v.toNat := (List.take_append_drop _ _).symm
      refine List.Perm.trans (List.Perm.append_right zs (List.Perm.trans ?_ (List.perm_append_comm (l₁ := [z]) (l₂ := ds2)))) (by rw [List.append_assoc]; exact .refl _)
      show (ds2.take v.toNat ++ [z] ++ ds2.drop v.toNat).Perm ([z] ++ ds2)
      rw [List.append_assoc]
      show (ds2.take v.toNat ++ z :: ds2.drop v.toNat).Perm (z :: ds2)
      refine List.Perm.trans List.perm_middle ?_
      rw [List.take_append_drop]
theorem ok__law_history (D : Def K mg "_law_history" p_L_history s_L_history) (o__law_one : Ok P w K mg base k "_law_one" p_L_one a__law_one) (o__law_take : Ok P w K mg base k "_law_take" p_L_take a__law_take) (o__law_world : Ok P w K mg base k "_law_world" p_L_world a__law_world)
    (o__law_sums : Ok P w K mg base k "_law_sums" p_L_sums a__law_sums) (o__law_deed : Ok P w K mg base k "_law_deed" p_L_deed a__law_deed) (o__law_answers_by : Ok P w K mg base k "_law_answers_by" p_L_answers_by a__law_answers_by) (o__law_mixed : Ok P w K mg base k "_law_mixed" p_L_mixed a__law_mixed)
    (o__law_stretch : Ok P w K mg base k "_law_stretch" p_L_stretch a__law_stretch) (m_range : mg "range" = none) (m_list : mg "list" = none) (m_tuple : mg "tuple" = none) : Ok P w K mg base (k + 1) "_law_history" p_L_history a__law_history :=
  g_L_history (m_range := m_range) (m_list := m_list) (m_tuple := m_tuple) D o__law_one o__law_take o__law_world o__law_sums o__law_deed o__law_answers_by o__law_mixed o__law_stretch (fun as Q ⟨_, _, _, _, _, e, _⟩ => by subst e; rfl) fun as Q ⟨l, s, p, n, most, e, hs, hh, m1, m50, q⟩ => by
    subst e
    have hpos := hh.pos
    have h10 := hh.p10
    have h6 := hh.n6
    refine ⟨ad hs, _, rfl, _, rfl, _, rfl, _, rfl, ⟨(by decide : (2 : Int) ≠ 0), by decide⟩, ad hs, _, rfl, ad hs, ⟨trivial, trivial⟩, takeN hs (by omega) (by omega) fun v s1 hs1 v0 v1 => ⟨(by decide : (5 : Nat) ≤ sizeLine), ad hs1, ⟨trivial, trivial⟩, ?_⟩⟩
    refine oneN [(most : Int), most, most - 1, (most : Int).fdiv 2, v] hs1 (by simp) (by simp) fun m s2 hs2 hm => ?_
    have bm : 0 ≤ m ∧ m ≤ most := by
      simp only [List.mem_cons, List.not_mem_nil, or_false] at hm
      have f1 : (most : Int).fdiv 2 = ((most / 2 : Nat) : Int) := by rw [Int.fdiv_eq_ediv_of_nonneg _ (by decide)]; omega
      rcases hm with rfl | rfl | rfl | rfl | rfl <;> omega
    obtain ⟨mn, rfl⟩ : ∃ mn : Nat, m = (mn : Int) := ⟨m.toNat, by omega⟩
    refine ⟨ad hs2, _, rfl, ad hs2, ⟨trivial, trivial⟩, l, s2, p, n, rfl, hs2, hh, fun wd s3 hwd hs3 => ⟨(by decide : (2 : Nat) ≤ sizeLine), rfl, ?_⟩⟩
    refine ⟨ad hs3, _, rfl, ad hs3, (by decide : (4 : Nat) ≤ sizeLine), ad hs3, ⟨trivial, trivial⟩, oneN [2, 3, 4, 6] hs3 (by decide) (by decide) fun ns s4 hs4 hns => ?_⟩
    have bns : ∀ v ∈ [(2 : Int), 3, 4, 6], 1 ≤ v ∧ v ≤ 6 := by decide
    have bns := bns _ hns
    obtain ⟨nn, rfl⟩ : ∃ nn : Nat, ns = (nn : Int) := ⟨ns.toNat, by omega⟩
    refine ⟨ad hs4, ⟨trivial, trivial⟩, l, s4, p, n, nn, rfl, hs4, hh, by omega, by omega, fun xs s5 hxs lxs hs5 => ?_⟩
    refine ⟨_, rfl, ⟨by omega, by omega⟩, ?_⟩
    rw [show ((mn : Int)).toNat = mn by omega, rng0]
    refine lc_rel (fun sl => ∃ s', sl = [s', .d (hD p n), .d (.int most), .d (.int mn), .d (dI wd), .d (.list (xs.map dI)), .un, .un, .un, .un, .un, .un, .un, .un, .un] ∧ BagOk l s') (fun d => ∃ dd : Dd, d = ddD dd ∧ DdOk p n dd) (fun z hz sl ⟨s', e, hs'⟩ _ Y Z hY => ?_) ⟨s5, rfl, hs5⟩ (fun d h => by simp at h) (by rw [List.length_range]; simp; omega) fun ds sl' ⟨s6, e, hs6⟩ hl hd => ?_
    · subst e
      exact ⟨fun _ => ⟨ad hs', _, rfl, _, rfl, _, rfl, ad hs', ⟨trivial, trivial⟩, l, s', p, n, xs, wd, rfl, hs', hh, hxs, by omega, by omega, hwd, fun d s2 hd hs2 => hY _ _ ⟨s2, rfl, hs2⟩ ⟨d, rfl, hd⟩⟩, fun c => (nomatch c)⟩
    · subst e
      have ex : ∀ {ds : List PyData}, (∀ d ∈ ds, ∃ dd : Dd, d = ddD dd ∧ DdOk p n dd) → ∃ xs : List Dd, ds = xs.map ddD ∧ ∀ d ∈ xs, DdOk p n d := fun {ds} => by
        induction ds with
        | nil => exact fun _ => ⟨[], rfl, fun d h => by simp at h⟩
        | cons d ds ih =>
          intro h
          obtain ⟨xs, e, hx⟩ := ih fun d' h' => h d' (List.mem_cons_of_mem _ h')
          obtain ⟨dd, e2, hd2⟩ := h d (List.mem_cons_self ..)
          refine ⟨dd :: xs, by rw [e, e2]; rfl, fun d' h' => ?_⟩
          rcases List.mem_cons.mp h' with h' | h'
          · rw [h']; exact hd2
          · exact hx d' h'
      obtain ⟨dds, rfl, hdds⟩ := ex hd
      have ldds : dds.length = mn := by rw [List.length_map, List.length_range] at hl; simpa using hl
      refine ⟨_, rfl, _, rfl, trivial, p, n, dds, rfl, hh, hdds, by omega, ?_⟩
      refine ⟨ad hs6, (by decide : (6 : Nat) ≤ sizeLine), ad hs6, ⟨trivial, trivial⟩, oneN [2, 3, 3, 2, 1, 0] hs6 (by decide) (by decide) fun way s7 hs7 hway => ⟨_, _, rfl, ?_⟩⟩
      refine ⟨ad hs7, _, rfl, ⟨by omega, by omega⟩, ad hs7, ⟨trivial, trivial⟩, l, s7, _, rfl, hs7, by rw [rgD0]; unfold natsD; rw [List.length_map, List.length_range]; omega, fun ds' s8 pm hs8 => ?_⟩
      rw [show ((mn : Int)).toNat = mn by omega] at pm
      obtain ⟨ps, rfl, pps⟩ := nats_of pm
      refine ⟨Nat.zero_le _, fun l0 => ?_⟩
      have lps : ps.length = mn := by rw [pps.length_eq, List.length_range]
      have lan := ansFrom_len (p := p) (n := n) dds []
      refine ⟨_, rfl, natsD ps, rfl, ?_⟩
      unfold natsD
      refine for_inv (fun zs sl => ∃ dn s' l' cs u11 u12 u13, ps = dn ++ zs ∧ sl = [s', .d (hD p n), .d (.int most), .d (.int mn), .d (dI wd), .d (.list (xs.map dI)), .d (.list (dds.map ddD)), .d (.list ((ansFrom p n [] dds).map anD)), .d (.int way), .d (.list (natsD ps)), .m l' (cs.map clD), u11, u12, u13, .un] ∧ BagOk l s' ∧ cs.length = dn.length ∧
        (∀ c ∈ cs, ClOk p n 1000 c ∧ ∃ a, c.a = some (some a)) ∧ ∀ (j pl : Nat), dn[j]? = some pl → ∃ c, cs[j]? = some c ∧ dds[pl]? = some c.dd ∧ c.a = some ((ansFrom p n [] dds)[pl]?) ∧ StrOk (10 * pl) c.b c.e)
        (fun sl ⟨dn, s', l', cs, u11, u12, u13, ep, e, hs', lcs, hcs, hj⟩ => ?_) (fun z zs sl R ⟨dn, s', l', cs, u11, u12, u13, ep, e, hs', lcs, hcs, hj⟩ hR => ?_) ⟨[], s8, l0, [], .un, .un, .un, rfl, rfl, hs8, rfl, fun c h => by simp at h, fun j pl h => by simp at h⟩
      · subst e
        rw [List.append_nil] at ep
        subst ep
        refine ⟨_, rfl, ⟨l', _, rfl, (by decide : (2 : Nat) ≤ sizeLine), ?_⟩⟩
        refine ⟨_, rfl, ⟨by omega, by omega⟩, ?_⟩
        rw [show ((mn : Int)).toNat = mn by omega, rgD0]
        unfold natsD
        refine lc_mapM (f := fun k : Nat => .int ((ps.idxOf k : Nat))) (fun sl => ∃ u12 u13, sl = [s', .d (hD p n), .d (.int most), .d (.int mn), .d (dI wd), .d (.list (xs.map dI)), .d (.list (dds.map ddD)), .d (.list ((ansFrom p n [] dds).map anD)), .d (.int way), .d (.list (natsD ps)), .m l' (cs.map clD), .un, u12, u13, .un]) (fun k hk sl ⟨u12, u13, e⟩ _ Y Z hY => ?_) ⟨_, _, rfl⟩ (by rw [List.length_range]; omega) fun sl ⟨u12, u13, e⟩ => ?_
        · subst e
          exact ⟨fun _ => ⟨_, rfl, ⟨_, rfl⟩, _, rfl, index_nats pps (List.mem_range.mp hk) (hY _ ⟨_, _, rfl⟩)⟩, fun c => (nomatch c)⟩
        · subst e
          refine ⟨(by decide : (2 : Nat) ≤ sizeLine), ?_⟩
          show Q _ (finS (s :: _) (s' :: _))
          rw [finS_bag hs hs']
          have := q cs ((List.range mn).map fun k => ps.idxOf k) s' ?_ hs'
          · unfold ordD natsD at this
            rw [List.map_map] at this
            exact this
          · have lc : cs.length = mn := by omega
            obtain ⟨o1, o2⟩ := ord_of pps
            refine ⟨by omega, by rw [lc]; exact o1, hcs, dds, by omega, hdds, fun k i hki => ?_⟩
            obtain ⟨hk, hi⟩ := o2 k i hki
            exact hj i k hi
      · subst e
        have hzps : z ∈ ps := by rw [ep]; exact List.mem_append_right _ (List.mem_cons_self ..)
        have hz : z < mn := List.mem_range.mp (pps.mem_iff.mp hzps)
        have lp : dn.length + (zs.length + 1) = mn := by rw [← lps, ep, List.length_append, List.length_cons]
        have go : ∀ (wy : Int) (s9 : Slot), BagOk l s9 → (aGSet (aGTup 2 (aGCons (aName 12) (aGCons (aName 13) aGNil))) fun sl Q => OneO [.o 0, .d (.int (10 * z)), .d (.int wy)] ∧ a__law_stretch ([.o 0, .d (.int (10 * z)), .d (.int wy)].map (slotOf sl)) fun d as' => Q d (putBack sl [.o 0, .d (.int (10 * z)), .d (.int wy)] as'))
            { nx := fun sl' => aApp 10 (aTup (aCons (aOp fIx (aVar 6) (aVar 11)) (aCons (aVar 12) (aCons (aVar 13) (aCons (aOp fIx (aVar 7) (aVar 11)) aNil))))) { nx := R, rt := fun d sl' => Q d (finS [s, .d (hD p n), .d (.int most)] sl'), bk := fun _ => True, ct := R } sl', rt := fun d sl' => Q d (finS [s, .d (hD p n), .d (.int most)] sl'), bk := fun _ => True, ct := R }
            [s9, .d (hD p n), .d (.int most), .d (.int mn), .d (dI wd), .d (.list (xs.map dI)), .d (.list (dds.map ddD)), .d (.list ((ansFrom p n [] dds).map anD)), .d (.int way), .d (.list (natsD ps)), .m l' (cs.map clD), .d (.int z), u12, u13, .un] := fun wy s9 hs9 => by
          refine ⟨⟨trivial, trivial⟩, l, s9, 10 * z, wy, rfl, hs9, fun b e s10 st hs10 => ⟨rfl, ?_⟩⟩
          have hd1 : ∃ dz, dds[z]? = some dz ∧ DdOk p n dz := ⟨dds[z], List.getElem?_eq_getElem (by omega), hdds _ (List.getElem_mem (by omega))⟩
          obtain ⟨dz, hdz, okz⟩ := hd1
          have ha1 : ∃ az, (ansFrom p n [] dds)[z]? = some az := ⟨_, List.getElem?_eq_getElem (by omega)⟩
          obtain ⟨az, haz⟩ := ha1
          refine ⟨⟨_, _, rfl⟩, _, rfl, _, rfl, ix_l (d := ddD dz) (by rw [List.getElem?_map, hdz]; rfl) ⟨_, rfl, _, rfl, _, rfl, _, rfl, ix_l (d := anD az) (by rw [List.getElem?_map, haz]; rfl) ⟨(by decide : (4 : Nat) ≤ sizeLine), l', _, rfl, by rw [List.length_map]; unfold sizeLine; omega, ?_⟩⟩⟩
          refine hR _ ⟨dn ++ [z], s10, l', cs ++ [⟨dz, b, e, some (some az)⟩], .d (.int z), .d (.int b), .d (oI e), by rw [ep]; simp, ?_, hs10, by rw [List.length_append, List.length_append, lcs]; rfl, fun c hc => ?_, fun j pl hjp => ?_⟩
          · rw [List.map_append]
            rfl
          · rcases List.mem_append.mp hc with hc | hc
            · exact hcs c hc
            · rw [List.mem_singleton.mp hc]
              refine ⟨⟨okz, ?_, ?_, ?_, ?_, ?_⟩, az, rfl⟩
              · show -1000 ≤ b ∧ b ≤ 1000
                have := st.1; have := st.2.1; omega
              · intro e' he'
                have := st.2.2 e' he'
                have := st.2.1
                show b ≤ e' ∧ e' ≤ 1000
                omega
              · intro a ha
                cases ha
                exact ansFrom_ok hh.pr haz hdz
              · intro h; cases h
              · intro h; cases h
          · by_cases c : j < dn.length
            · rw [List.getElem?_append_left c] at hjp
              obtain ⟨c', h1, h2⟩ := hj j pl hjp
              exact ⟨c', by rw [List.getElem?_append_left (by omega)]; exact h1, h2⟩
            · rw [List.getElem?_append_right (by omega)] at hjp
              have hj0 : j - dn.length = 0 := by
                rcases Nat.eq_zero_or_pos (j - dn.length) with h | h
                · exact h
                · rw [List.getElem?_eq_none (by rw [List.length_singleton]; omega)] at hjp; cases hjp
              rw [hj0] at hjp
              cases hjp
              refine ⟨⟨dz, b, e, some (some az)⟩, by rw [List.getElem?_append_right (by omega), show j - cs.length = 0 by omega]; rfl, hdz, by rw [haz], st⟩
        refine ⟨ad hs', _, rfl, cmul_l (by omega) (by omega), ad hs', ad hs', ⟨trivial, trivial⟩, takeN hs' (by omega) (by omega) fun u s9 hs9 u0 u1 => ⟨fun _ => ?_, fun _ => ?_⟩⟩
        · exact ⟨_, rfl, ad hs9, go way s9 hs9⟩
        · exact ⟨ad hs9, ad hs9, ⟨trivial, trivial⟩, takeN hs9 (by omega) (by omega) fun wy s10 hs10 w0 w1 => ⟨ad hs10, go wy s10 hs10⟩⟩
end
end R

namespace R
open PySem PySem.Spec PyProof.Rows L2 RX
section
variable {P : Program} {w : World} {K : PySem.W.Frag} {mg : Str → Option Value} {base : Heap} {k : Nat}
theorem ok__law_other_answer (D : Def K mg "_law_other_answer" p_L_other_answer s_L_other_answer) (o__law_one : Ok P w K mg base k "_law_one" p_L_one a__law_one) (o__law_alike : Ok P w K mg base k "_law_alike" p_L_alike a__law_alike) (m_list : mg "list" = none) (m_range : mg "range" = none) : Ok P w K mg base (k + 1) "_law_other_answer" p_L_other_answer a__law_other_answer :=
  g_L_other_answer (m_list := m_list) (m_range := m_range) D o__law_one o__law_alike (fun as Q ⟨_, _, _, _, _, _, e, _⟩ => by subst e; rfl) fun as Q ⟨l, s, p, n, c, a, e, hs, hh, ha, hok, q⟩ => by
    subst e
    have hpos := hh.pos
    have h10 := hh.p10
    have h1 := hh.pr.1
    have tail : ∀ mn : List An, (∀ b ∈ mn, AnOk p c.dd.2.isSome b) → mn.length < 100 → (∃ b ∈ mn, a ≠ some b) → (aRet (aCall a__law_one (aaO 0 (aaD (aOfN (aLc (aSeqI (aVar 3)) (aName 4) (aNot (aTest (aCall a__law_alike (aaD (aVar 4) (aaD (aOp fIx (aVar 2) (aC (.int 3))) aaNil))))) (aVar 4) [4])) aaNil))))
        { nx := fun sl' => Q PyData.none (finS [s, .d (hD p n), .d (clD c)] sl'), rt := fun d sl' => Q d (finS [s, .d (hD p n), .d (clD c)] sl') } [s, .d (hD p n), .d (clD c), .d (.list (mn.map anD)), .un] := fun mn hmn lmn ⟨b0, hb0, nb0⟩ => by
      refine ⟨ad hs, _, rfl, _, rfl, ?_⟩
      refine lc_filter (h := anD) (f := anD) (c := fun b => !decide (a = some b)) (sl0 := [s, .d (hD p n), .d (clD c), .d (.list (mn.map anD)), .un]) rfl rfl (fun b hb Y Z hY hZ => ?_) (by omega) ?_
      · refine ⟨_, rfl, _, rfl, ix_cl3 ha ⟨trivial, alike_an h10 (hmn b hb) hok ⟨fun cc => ?_, fun cc => ?_⟩⟩⟩
        · exact ⟨_, rfl, hY cc _ rfl⟩
        · exact hZ cc _ rfl
      · refine ⟨ad hs, ⟨trivial, trivial⟩, oneL hs ?_ ?_ fun d s1 hs1 hd => ?_⟩
        · rw [List.length_map]
          exact List.length_pos_of_mem (List.mem_filter.mpr ⟨hb0, by simpa using nb0⟩)
        · rw [List.length_map]
          have := List.length_filter_le (fun b => !decide (a = some b)) mn
          omega
        · obtain ⟨b, hb, rfl⟩ := List.mem_map.mp hd
          obtain ⟨hb1, hb2⟩ := List.mem_filter.mp hb
          show Q _ (finS (s :: _) (s1 :: _))
          rw [finS_bag hs hs1]
          exact q b s1 (hmn b hb1) (by simpa using hb2) hs1
    refine ⟨_, rfl, ix_cl0 (ix_dd0 ⟨pl_kind _, pl_str (by decide +kernel), ?_⟩)⟩
    rw [eqv_str, kind_tell]
    refine ⟨fun ct => ⟨(by decide : (3 : Nat) ≤ sizeLine), ?_⟩, fun ct => ⟨(by decide : (1 : Nat) ≤ sizeLine), _, rfl, ix_h0 ⟨⟨by omega, by omega⟩, ?_, ?_⟩⟩⟩
    · refine tail [.new, .known, .clash] (fun b hb => ?_) (by simp) ?_
      · simp only [List.mem_cons, List.not_mem_nil, or_false] at hb
        rcases hb with rfl | rfl | rfl <;> exact ct
      · by_cases z : a = some .new
        · exact ⟨.known, by simp, by rw [z]; decide⟩
        · exact ⟨.new, by simp, z⟩
    · rw [rgD0]; unfold natsD; rw [List.length_map, List.length_range]; unfold sizeLine; simp; omega
    · have e : [PyData.str (Str.ofString "open")] ++ rgD 0 p.toNat = (An.opn :: (List.range p.toNat).map fun i : Nat => An.num (i : Int)).map anD := by
        rw [rgD0]
        unfold natsD
        rw [List.map_cons, List.map_map]
        rfl
      have t := tail (An.opn :: (List.range p.toNat).map fun i : Nat => An.num (i : Int)) (fun b hb => ?_) (by simp; omega) ?_
      · rw [← e] at t
        exact t
      · rcases List.mem_cons.mp hb with rfl | hb
        · exact ct
        · obtain ⟨i, hi, rfl⟩ := List.mem_map.mp hb
          have := List.mem_range.mp hi
          exact ⟨ct, by omega, by omega⟩
      · by_cases z : a = some .opn
        · exact ⟨.num 0, List.mem_cons_of_mem _ (List.mem_map.mpr ⟨0, List.mem_range.mpr (by omega), rfl⟩), by rw [z]; decide⟩
        · exact ⟨.opn, List.mem_cons_self .., z⟩
end
end R

namespace R
open PySem PySem.Spec PyProof.Rows L2 RX
section
variable {P : Program} {w : World} {K : PySem.W.Frag} {mg : Str → Option Value} {base : Heap} {k : Nat}
theorem ok__law_is_ahead (D : Def K mg "_law_is_ahead" p_L_is_ahead s_L_is_ahead) : Ok P w K mg base (k + 1) "_law_is_ahead" p_L_is_ahead a__law_is_ahead :=
  g_L_is_ahead D (fun as Q ⟨_, _, _, _, _, e, _⟩ => by subst e; rfl) fun as Q ⟨cs, i, j, c, d, e, hi, hj, q⟩ => by
    subst e
    unfold aheadB at q
    refine ⟨_, rfl, _, rfl, ix_cs hi (ix_cl2 ?_)⟩
    cases he : c.e with
    | none => rw [he] at q; exact ⟨fun h => (nomatch h), fun _ => q⟩
    | some e =>
      rw [he] at q
      refine ⟨fun _ => ⟨_, rfl, _, rfl, ix_cs hi (ix_cl2 ?_)⟩, fun h => (nomatch h)⟩
      rw [he]
      exact ⟨_, rfl, _, rfl, ix_cs hj (ix_cl1 q)⟩
end
end R

namespace R
open PySem PySem.Spec PyProof.Rows L2 RX
section
variable {P : Program} {w : World} {K : PySem.W.Frag} {mg : Str → Option Value} {base : Heap} {k : Nat}
end
end R

namespace R
open PySem PySem.Spec PyProof.Rows L2 RX
section
variable {P : Program} {w : World} {K : PySem.W.Frag} {mg : Str → Option Value} {base : Heap} {k : Nat}
theorem ok_is_ahead (D : Def K mg "is_ahead" p_is_ahead s_is_ahead) : Ok P w K mg base (k + 1) "is_ahead" p_is_ahead a_is_ahead :=
  g_is_ahead D (fun as Q ⟨_, _, _, _, _, e, _⟩ => by subst e; rfl) fun as Q ⟨p, n, cs, i, j, e, hi, hj, q⟩ => by
    subst e
    unfold aheadIx aheadB at q
    refine ⟨_, rfl, ix_wh1 ⟨_, rfl, ix_cs (clAt_get hi) (ix_cl2 ⟨_, rfl, ix_wh1 ⟨_, rfl, ix_cs (clAt_get hj) (ix_cl1 ⟨_, _, rfl, _, rfl, ?_⟩)⟩⟩)⟩⟩
    cases he : (clAt cs i).e with
    | none => rw [he] at q; exact ⟨fun h => (nomatch h), fun _ => q⟩
    | some e => rw [he] at q; exact ⟨fun _ => ⟨_, rfl, _, rfl, q⟩, fun h => (nomatch h)⟩
def a__law_edged : AF := fun as Q => ∃ l s p n B cs, ∃ F : Option (Option An) → Prop, as = [s, .d (whD p n cs)] ∧ BagOk l s ∧ HouseOk p n ∧ (∀ a, F a → a ≠ some none) ∧ (∀ c ∈ cs, ClOk p n B c ∧ F c.a) ∧ 0 ≤ B ∧ B ≤ 1000000 ∧ cs.length ≤ 100 ∧
  ∀ cs' s', (∀ c ∈ cs', ClOk p n (B + 200) c ∧ F c.a) → cs'.length = cs.length → BagOk l s' → Q (whD p n cs') [s', .d (whD p n cs)]
end
end R

namespace R
open PySem PySem.Spec PyProof.Rows L2 RX
section
variable {P : Program} {w : World} {K : PySem.W.Frag} {mg : Str → Option Value} {base : Heap} {k : Nat}
theorem ok__law_is_order (D : Def K mg "_law_is_order" p_L_is_order s_L_is_order) (o__law_is_int : Ok P w K mg base k "_law_is_int" p_L_is_int a__law_is_int) (o__law_is_ahead : Ok P w K mg base k "_law_is_ahead" p_L_is_ahead a__law_is_ahead)
    (m_isinstance : mg "isinstance" = none) (m_tuple : mg "tuple" = none) (m_sorted : mg "sorted" = none) (m_list : mg "list" = none) (m_range : mg "range" = none) (m_len : mg "len" = none) (m_enumerate : mg "enumerate" = none) : Ok P w K mg base (k + 1) "_law_is_order" p_L_is_order a__law_is_order :=
  g_L_is_order (m_isinstance := m_isinstance) (m_tuple := m_tuple) (m_sorted := m_sorted) (m_list := m_list) (m_range := m_range) (m_len := m_len) (m_enumerate := m_enumerate) D o__law_is_int o__law_is_ahead (fun as Q ⟨_, _, e, _⟩ => by subst e; rfl) fun as Q ⟨cs, ns, e, hl, hn, q⟩ => by
    subst e
    have lnil : Pl (.list []) := ⟨by unfold SeqAt.shaped; simp [PyData.canLay0, PyData.canLayAll0, PyData.depth, PyData.depthAll], by simp [PyData.hasDict, PyData.hasDictAll]⟩
    have enil : PyData.eqv (.list []) (.list []) = true := by simp [PyData.eqv, PyData.eqvAll]
    have nd : (ordD ns).hasDict = false := by
      have := (lay_ints (ns.map fun i : Nat => (i : Int))).2.2
      rw [List.map_map] at this
      unfold ordD natsD
      rw [PyData.hasDict]
      exact this
    have ed : natsD ns = (ns.map fun i : Nat => (i : Int)).map PyData.int := by unfold natsD; rw [List.map_map]; rfl
    refine ⟨_, rfl, nd, (fun c => (nomatch c)), fun _ => ⟨_, rfl, natsD ns, rfl, ?_⟩⟩
    unfold natsD
    refine lc_filter (h := fun i : Nat => PyData.int (i : Nat)) (f := fun _ => PyData.int 1) (c := fun _ => false) (sl0 := [.d (csD cs), .d (ordD ns), .un, .un, .un, .un]) rfl rfl (fun i hi Y Z hY hZ => ⟨_, rfl, trivial, (i : Int), rfl, (fun c => (nomatch c)), fun _ => hZ rfl _ rfl⟩) (by omega) ?_
    rw [show ns.filter (fun _ => false) = [] from List.filter_eq_nil_iff.mpr fun _ _ h => (nomatch h)]
    refine ⟨Nat.zero_le _, lnil, lnil, ?_⟩
    show ((!PyData.eqv (.list []) (.list [])) = true → _) ∧ ((!PyData.eqv (.list []) (.list [])) = false → _)
    rw [enil]
    refine if_no rfl ?_
    refine ⟨_, rfl, ordD ns, ns.map fun i : Nat => (i : Int), rfl, by rw [← ed]; rfl, fun out h1 h2 => ⟨_, rfl, ⟨by omega, by rw [List.length_map]; omega⟩, ?_⟩⟩
    rw [rgD_cs]
    have er : (List.range cs.length).map (fun i : Nat => PyData.int (i : Nat)) = ((List.range cs.length).map fun i : Nat => (i : Int)).map PyData.int := by rw [List.map_map]; rfl
    rw [er]
    refine ⟨pl_lI _, pl_lI _, ?_⟩
    show ((!PyData.eqv (lI out) (lI ((List.range cs.length).map fun i : Nat => (i : Int)))) = true → _) ∧ ((!PyData.eqv (lI out) (lI ((List.range cs.length).map fun i : Nat => (i : Int)))) = false → _)
    rw [eqv_lI, sorted_range h1 h2]
    unfold isOrd at q
    by_cases pm : ns.Perm (List.range cs.length)
    · rw [decide_eq_true pm] at q ⊢
      rw [Bool.true_and] at q
      refine if_no rfl ⟨_, rfl, natsD ns, rfl, ?_⟩
      unfold natsD
      rw [enD_map (fun i : Nat => PyData.int (i : Nat)) 0 ns]
      refine for_inv (fun zs sl => ∃ k u2 u3, zs = (List.range ns.length).drop k ∧ k ≤ ns.length ∧ pairB cs ns = pairB cs (ns.drop k) ∧ sl = [.d (csD cs), .d (ordD ns), u2, u3, .un, .un]) (fun sl ⟨k, u2, u3, hk, hk1, hp, e⟩ => ?_) (fun z zs sl R ⟨k, u2, u3, hk, hk1, hp, e⟩ hR => ?_) ⟨0, .un, .un, rfl, Nat.zero_le _, rfl, rfl⟩
      · subst e
        have e0 : k = ns.length := by
          have := congrArg List.length hk
          rw [List.length_drop, List.length_range, List.length_nil] at this
          omega
        rw [hp, e0, List.drop_length] at q
        exact q
      · subst e
        have hlt : k < ns.length := by
          have := congrArg List.length hk
          rw [List.length_drop, List.length_range, List.length_cons] at this
          omega
        rw [List.drop_eq_getElem_cons (by rw [List.length_range]; exact hlt), List.getElem_range] at hk
        obtain ⟨ez, ezs⟩ := List.cons.inj hk
        subst ez
        have eg : ns.getD z 0 = ns[z] := by rw [List.getD_eq_getElem?_getD, List.getElem?_eq_getElem hlt]; rfl
        have ed2 : ns.drop z = ns[z] :: ns.drop (z + 1) := List.drop_eq_getElem_cons hlt
        have lt_ : ∀ y ∈ ns, y < cs.length := fun y hy => List.mem_range.mp (pm.mem_iff.mp hy)
        refine ⟨rfl, _, rfl, _, rfl, natsD (ns.drop z), ?_, ?_⟩
        · show seqD (.tuple (cutD (natsD ns) (some ((z : Nat) : Int)) none)) = _
          rw [cut_drop]
          unfold natsD
          rw [← List.map_drop]
          rfl
        unfold natsD
        refine lc_filter (h := fun i : Nat => PyData.int (i : Nat)) (f := fun _ => PyData.int 1) (c := fun y => aheadIx cs y ns[z]) (sl0 := [.d (csD cs), .d (ordD ns), .d (.int (z : Nat)), .d (.int (ns[z] : Nat)), .un, .un]) rfl (by rw [eg]; rfl) (fun y hy Y Z hY hZ => ?_) (by rw [List.length_drop]; omega) ?_
        · exact ⟨_, rfl, _, rfl, _, rfl, trivial, cs, y, ns[z], _, _, rfl, clAt_get (lt_ y (List.mem_of_mem_drop hy)), clAt_get (lt_ _ (List.getElem_mem hlt)), fun c => hY c _ rfl, fun c => hZ c _ rfl⟩
        have eB : pairB cs (ns.drop z) = (((ns.drop z).all fun y => !aheadIx cs y ns[z]) && pairB cs (ns.drop (z + 1))) := by rw [ed2]; rfl
        cases ef : (ns.drop z).filter (fun y => aheadIx cs y ns[z]) with
        | nil =>
          refine ⟨Nat.zero_le _, lnil, lnil, ?_⟩
          show ((!PyData.eqv (.list []) (.list [])) = true → _) ∧ ((!PyData.eqv (.list []) (.list [])) = false → _)
          rw [enil]
          have ea : ((ns.drop z).all fun y => !aheadIx cs y ns[z]) = true := List.all_eq_true.mpr fun y hy => by
            have := List.filter_eq_nil_iff.mp ef y hy
            simpa using this
          refine if_no rfl (hR _ ⟨z + 1, _, _, ezs, hlt, ?_, rfl⟩)
          rw [hp, eB, ea, Bool.true_and]
        | cons y ys =>
          refine ⟨Nat.zero_le _, ?_, lnil, ?_⟩
          · rw [show ((y :: ys).map fun _ => PyData.int 1) = ((y :: ys).map fun _ => (1 : Int)).map PyData.int by rw [List.map_map]; rfl]
            exact pl_lI _
          have hy := List.mem_filter.mp (by rw [ef]; exact List.mem_cons_self .. : y ∈ (ns.drop z).filter fun y => aheadIx cs y ns[z])
          have ea : ((ns.drop z).all fun y => !aheadIx cs y ns[z]) = false := List.all_eq_false.mpr ⟨y, hy.1, by rw [hy.2]; simp⟩
          rw [hp, eB, ea, Bool.false_and] at q
          have ene : PyData.eqv (.list ((y :: ys).map fun _ => PyData.int 1)) (.list []) = false := by simp [PyData.eqv, PyData.eqvAll]
          show ((!PyData.eqv (.list ((y :: ys).map fun _ => PyData.int 1)) (.list [])) = true → _) ∧ ((!PyData.eqv (.list ((y :: ys).map fun _ => PyData.int 1)) (.list [])) = false → _)
          rw [ene]
          exact if_yes rfl q
    · rw [decide_eq_false pm] at q ⊢
      rw [Bool.false_and] at q
      exact if_yes rfl q
end
end R

namespace R
open PySem PySem.Spec PyProof.Rows L2 RX
section
variable {P : Program} {w : World} {K : PySem.W.Frag} {mg : Str → Option Value} {base : Heap} {k : Nat}
theorem ok__law_is_weaving (D : Def K mg "_law_is_weaving" p_L_is_weaving s_L_is_weaving) (o__law_answers_by : Ok P w K mg base k "_law_answers_by" p_L_answers_by a__law_answers_by) (o__law_alike : Ok P w K mg base k "_law_alike" p_L_alike a__law_alike) :
    Ok P w K mg base (k + 1) "_law_is_weaving" p_L_is_weaving a__law_is_weaving :=
  g_L_is_weaving D o__law_answers_by o__law_alike (fun as Q ⟨_, _, _, _, e, _⟩ => by subst e; rfl) fun as Q ⟨p, n, cs, ns, e, hh, hd, ha, lt, hl, q⟩ => by
    subst e
    refine ⟨_, rfl, rfl, _, rfl, _, rfl, natsD ns, rfl, ?_⟩
    unfold natsD
    refine lc_map (h := fun i : Nat => PyData.int (i : Nat)) (f := fun i => ddD (clAt cs i).dd) (sl0 := [.d (whD p n cs), .d (ordD ns), .d (hD p n), .d (csD cs), .un, .un]) rfl rfl (fun i hi Y Z hY => ⟨fun _ => ⟨_, rfl, _, rfl, ix_cs (clAt_get (lt i hi)) (ix_cl0 (hY _ rfl))⟩, fun c => (nomatch c)⟩) (by omega) ?_
    have e1 : (ns.map fun i => ddD (clAt cs i).dd) = (ddsOf cs ns).map ddD := by unfold ddsOf; rw [List.map_map]; rfl
    rw [e1]
    refine ⟨trivial, p, n, ddsOf cs ns, rfl, hh, dds_ok hd lt, by unfold ddsOf; rw [List.length_map]; exact hl, ?_⟩
    refine ⟨_, rfl, _, rfl, natsD ns, rfl, ?_⟩
    unfold natsD
    refine lc_map (h := fun i : Nat => PyData.int (i : Nat)) (f := fun i => anD (ansC (clAt cs i))) (sl0 := [.d (whD p n cs), .d (ordD ns), .d (hD p n), .d (csD cs), .d (.list ((ansFrom p n [] (ddsOf cs ns)).map anD)), .un]) rfl rfl (fun i hi Y Z hY => ⟨fun _ => ⟨_, rfl, _, rfl, ix_cs (clAt_get (lt i hi)) ?_⟩, fun c => (nomatch c)⟩) (by omega) ?_
    · obtain ⟨a, ea, _⟩ := ha _ (clAt_mem (lt i hi))
      have e3 : oAn (some a) = anD (ansC (clAt cs i)) := by rw [ansC_of ea]; rfl
      refine ix_cl3 ea ?_
      rw [e3]
      exact hY _ rfl
    · have e2 : (ns.map fun i => anD (ansC (clAt cs i))) = (ns.map fun i => ansC (clAt cs i)).map anD := by rw [List.map_map]; rfl
      rw [e2]
      refine ⟨trivial, alike_anL hh.p10 (fun a h => ?_) (fun a h => ?_) ?_ ?_ q⟩
      · obtain ⟨j, hj⟩ := List.mem_iff_getElem?.mp h
        have hlt := (List.getElem?_eq_some_iff.mp hj).1
        rw [ansFrom_len] at hlt
        exact ⟨_, ansFrom_ok hh.pr hj (List.getElem?_eq_getElem hlt)⟩
      · obtain ⟨i, hi, rfl⟩ := List.mem_map.mp h
        obtain ⟨a, ea, oa⟩ := ha _ (clAt_mem (lt i hi))
        rw [ansC_of ea]
        exact ⟨_, oa⟩
      · rw [ansFrom_len]; unfold ddsOf; rw [List.length_map]; exact hl
      · rw [List.length_map]; exact hl
theorem ok__law_moved (D : Def K mg "_law_moved" p_L_moved s_L_moved) (o__law_take : Ok P w K mg base k "_law_take" p_L_take a__law_take) (m_len : mg "len" = none) : Ok P w K mg base (k + 1) "_law_moved" p_L_moved a__law_moved :=
  g_L_moved (m_len := m_len) D o__law_take (fun as Q ⟨_, _, _, e, _⟩ => by subst e; rfl) fun as Q ⟨l, s, ns, e, hs, hl, q⟩ => by
    subst e
    have lN : (natsD ns).length = ns.length := by unfold natsD; rw [List.length_map]
    have fin : ∀ d sl', BagOk l sl' → (∃ ns' : List Nat, d = ordD ns' ∧ ns'.Perm ns) → ∀ u2 u3 u4, Q d (finS [s, .d (ordD ns)] [sl', .d (ordD ns), u2, u3, u4]) := fun d sl' hsl ⟨ns', e, pm⟩ u2 u3 u4 => by
      subst e
      rw [finS_bag hs hsl]
      exact q ns' sl' pm hsl
    refine ⟨_, rfl, fun c => ?_, fun c => ?_⟩
    · exact ⟨_, rfl, fin _ _ hs ⟨ns, rfl, .refl _⟩ _ _ _⟩
    have h2 : 2 ≤ ns.length := by
      have := of_decide_eq_false c
      rw [lN] at this
      omega
    refine ⟨ad hs, _, rfl, ad hs, ⟨trivial, trivial⟩, takeN hs (by rw [lN]; omega) (by rw [lN]; omega) fun v s1 hs1 v0 v1 => ?_⟩
    rw [lN] at v1
    obtain ⟨i, rfl⟩ : ∃ i : Nat, v = (i : Int) := ⟨v.toNat, by omega⟩
    have hi : i + 1 < ns.length := by omega
    refine ⟨ad hs1, ad hs1, ⟨trivial, trivial⟩, takeN hs1 (by decide) (by decide) fun v2 s2 hs2 v20 v21 => ⟨pl_int _, pl_int _, ?_⟩⟩
    have tk : ∀ (ns : List Nat) (m : Nat), (natsD ns).take m = natsD (ns.take m) := fun ns m => by unfold natsD; rw [List.map_take]
    have dk : ∀ (ns : List Nat) (m : Nat), (natsD ns).drop m = natsD (ns.drop m) := fun ns m => by unfold natsD; rw [List.map_drop]
    have ap : ∀ xs ys : List Nat, natsD xs ++ natsD ys = natsD (xs ++ ys) := fun xs ys => by unfold natsD; rw [List.map_append]
    have ln : ∀ xs : List Nat, (natsD xs).length = xs.length := fun xs => by unfold natsD; rw [List.length_map]
    have at_ : ∀ {m : Nat} (h : m < ns.length), (natsD ns)[m]? = some (.int (ns[m] : Nat)) := fun {m} h => by unfold natsD; rw [List.getElem?_map, List.getElem?_eq_getElem h]; rfl
    have sz : ∀ m, m ≤ 1000 → m ≤ sizeLine := fun m h => Nat.le_trans h (by decide)
    rw [eqv_int]
    refine ⟨fun c => ?_, fun c => ?_⟩
    · refine ⟨_, rfl, _, rfl, _, rfl, _, rfl, ix_t (xs := natsD ns) (i := i + 1) (at_ hi) ⟨_, rfl, _, rfl, ix_t (xs := natsD ns) (i := i) (at_ (by omega)) ⟨(by decide : (2 : Nat) ≤ sizeLine), ?_⟩⟩⟩
      have e3 : cutD (natsD ns) (some ((i : Int) + 2)) none = natsD (ns.drop (i + 2)) := by rw [show ((i : Int) + 2) = ((i + 2 : Nat) : Int) by omega, cut_drop, dk]
      have e4 : cutD (natsD ns) none (some (i : Int)) = natsD (ns.take i) := by rw [cut_take, tk]
      rw [e4]
      refine ⟨sz _ (by rw [ln, List.length_take]; simp only [List.length_cons, List.length_nil]; omega), _, rfl, _, rfl, ?_⟩
      have e5 : (natsD (ns.take i) ++ [PyData.int ((ns[i + 1] : Nat) : Int), PyData.int ((ns[i] : Nat) : Int)]) = natsD (ns.take i ++ [ns[i + 1], ns[i]]) := ap _ [ns[i + 1], ns[i]]
      rw [e5]
      show (natsD (ns.take i ++ [ns[i + 1], ns[i]])).length + (cutD (natsD ns) (some ((i : Int) + 2)) none).length ≤ sizeLine ∧ Q (.tuple (natsD (ns.take i ++ [ns[i + 1], ns[i]]) ++ cutD (natsD ns) (some ((i : Int) + 2)) none)) _
      rw [e3, ap]
      refine ⟨sz _ (by rw [ln, ln, List.length_append, List.length_take, List.length_drop]; simp only [List.length_cons, List.length_nil]; omega), ?_⟩
      exact fin _ _ hs2 ⟨_, rfl, swap_perm hi⟩ _ _ _
    · have e3 : cutD (natsD ns) (some ((i : Int) + 1)) none = natsD (ns.drop (i + 1)) := by rw [show ((i : Int) + 1) = ((i + 1 : Nat) : Int) by omega, cut_drop, dk]
      have e4 : cutD (natsD ns) none (some (i : Int)) = natsD (ns.take i) := by rw [cut_take, tk]
      refine ⟨_, rfl, _, rfl, _, rfl, _, rfl, ?_⟩
      show (cutD (natsD ns) none (some (i : Int))).length + (cutD (natsD ns) (some ((i : Int) + 1)) none).length ≤ sizeLine ∧ _
      rw [e3, e4]
      refine ⟨sz _ (by rw [ln, ln, List.length_take, List.length_drop]; omega), ?_⟩
      rw [ap]
      refine ⟨ad hs2, _, rfl, ad hs2, ⟨trivial, trivial⟩, takeN hs2 (by rw [lN]; omega) (by rw [lN]; omega) fun v3 s3 hs3 v30 v31 => ?_⟩
      obtain ⟨j, rfl⟩ : ∃ j : Nat, v3 = (j : Int) := ⟨v3.toNat, by omega⟩
      have e6 : cutD (natsD (ns.take i ++ ns.drop (i + 1))) none (some (j : Int)) = natsD ((ns.take i ++ ns.drop (i + 1)).take j) := by rw [cut_take, tk]
      have e7 : cutD (natsD (ns.take i ++ ns.drop (i + 1))) (some (j : Int)) none = natsD ((ns.take i ++ ns.drop (i + 1)).drop j) := by rw [cut_drop, dk]
      have lr : (ns.take i ++ ns.drop (i + 1)).length ≤ 100 := by rw [List.length_append, List.length_take, List.length_drop]; omega
      refine ⟨_, rfl, _, rfl, _, rfl, _, rfl, ix_t (xs := natsD ns) (i := i) (at_ (by omega)) ⟨(by decide : (1 : Nat) ≤ sizeLine), ?_⟩⟩
      rw [e6]
      refine ⟨sz _ (by rw [ln, List.length_take]; simp only [List.length_cons, List.length_nil]; omega), _, rfl, _, rfl, ?_⟩
      have e5 : (natsD ((ns.take i ++ ns.drop (i + 1)).take j) ++ [PyData.int ((ns[i] : Nat) : Int)]) = natsD ((ns.take i ++ ns.drop (i + 1)).take j ++ [ns[i]]) := ap _ [ns[i]]
      rw [e5]
      show (natsD ((ns.take i ++ ns.drop (i + 1)).take j ++ [ns[i]])).length + (cutD (natsD (ns.take i ++ ns.drop (i + 1))) (some (j : Int)) none).length ≤ sizeLine ∧ Q (.tuple (natsD ((ns.take i ++ ns.drop (i + 1)).take j ++ [ns[i]]) ++ cutD (natsD (ns.take i ++ ns.drop (i + 1))) (some (j : Int)) none)) _
      rw [e7, ap]
      refine ⟨sz _ (by rw [ln, ln, List.length_append, List.length_take, List.length_drop]; simp only [List.length_cons, List.length_nil]; omega), ?_⟩
      exact fin _ _ hs3 ⟨_, rfl, move_perm (by omega)⟩ _ _ _
end
end R

namespace R
open PySem PySem.Spec PyProof.Rows L2 RX
section
variable {P : Program} {w : World} {K : PySem.W.Frag} {mg : Str → Option Value} {base : Heap} {k : Nat}
def a_law : AF := fun as Q => ∃ ns, as = [.d (lI ns)] ∧ ns.length ≤ 63 ∧ Q (.bool true) as
theorem ok_law (D : Def K mg "law" p_law s_law) (o__law_bag : OkN P w K mg base k "_law_bag" p_L_bag a__law_bag) (o__law_house : Ok P w K mg base k "_law_house" p_L_house a__law_house) (o__law_one : Ok P w K mg base k "_law_one" p_L_one a__law_one) (o__law_history : Ok P w K mg base k "_law_history" p_L_history a__law_history) (o__law_alike : Ok P w K mg base k "_law_alike" p_L_alike a__law_alike) (o_is_order : Ok P w K mg base k "is_order" p_is_order a_is_order) (o_is_weaving : Ok P w K mg base k "is_weaving" p_is_weaving a_is_weaving) (o_first_wrong : Ok P w K mg base k "first_wrong" p_first_wrong a_first_wrong) (o_answers_by : Ok P w K mg base k "answers_by" p_answers_by a_answers_by) (o_store_at : Ok P w K mg base k "store_at" p_store_at a_store_at) (o__law_moved : Ok P w K mg base k "_law_moved" p_L_moved a__law_moved) (o__law_is_order : Ok P w K mg base k "_law_is_order" p_L_is_order a__law_is_order) (o__law_is_weaving : Ok P w K mg base k "_law_is_weaving" p_L_is_weaving a__law_is_weaving) (o__law_take : Ok P w K mg base k "_law_take" p_L_take a__law_take) (o__law_put : Ok P w K mg base k "_law_put" p_L_put a__law_put) (o__law_other_answer : Ok P w K mg base k "_law_other_answer" p_L_other_answer a__law_other_answer) (m_repr : mg "repr" = none) (m_tuple : mg "tuple" = none) (m_len : mg "len" = none) (m_range : mg "range" = none) : Ok P w K mg base (k + 1) "law" p_law a_law :=
  g_law (m_repr := m_repr) (m_tuple := m_tuple) (m_len := m_len) (m_range := m_range) D o__law_bag o__law_house o__law_one o__law_history o__law_alike o_is_order o_is_weaving o_first_wrong o_answers_by o_store_at o__law_moved o__law_is_order o__law_is_weaving o__law_take o__law_put o__law_other_answer
    (fun as Q ⟨_, e, _⟩ => by subst e; rfl) fun as Q ⟨ns, e, hns, q⟩ => by
    subst e
    refine ⟨_, rfl, ns, rfl, hns, fun cells bg l => ?_⟩
    have hs0 : BagOk l (.m l (bagL 0 1234567891 0 cells)) := ⟨_, _, _, cells, rfl, bg⟩
    -- the house
    refine ⟨ad1 hs0, ad1 hs0, (by decide : (3 : Nat) ≤ sizeLine), ad1 hs0, ⟨trivial, trivial⟩, oneN [4, 3, 6] hs0 (by decide) (by decide) fun m1 s1 hs1 hm1 => ?_⟩
    have bm1 : ∀ v ∈ [(4 : Int), 3, 6], 1 ≤ v ∧ v ≤ 6 := by decide
    have bm1 := bm1 _ hm1
    obtain ⟨m1, rfl⟩ : ∃ j : Nat, m1 = (j : Int) := ⟨m1.toNat, by omega⟩
    refine ⟨ad1 hs1, ⟨trivial, trivial⟩, l, s1, m1, rfl, hs1, by omega, fun p n s2 hh hn hs2 => ?_⟩
    -- the history
    refine ⟨ad1 hs2, _, rfl, ad1 hs2, (by decide : (3 : Nat) ≤ sizeLine), ad1 hs2, ⟨trivial, trivial⟩, oneN [16, 10, 12] hs2 (by decide) (by decide) fun m2 s3 hs3 hm2 => ?_⟩
    have bm2 : ∀ v ∈ [(16 : Int), 10, 12], 1 ≤ v ∧ v ≤ 16 := by decide
    have bm2 := bm2 _ hm2
    obtain ⟨m2, rfl⟩ : ∃ j : Nat, m2 = (j : Int) := ⟨m2.toNat, by omega⟩
    refine ⟨ad1 hs3, ⟨trivial, trivial⟩, l, s3, p, n, m2, rfl, hs3, hh, by omega, by omega, fun cs ord s4 hR hs4 => ⟨rfl, ?_⟩⟩
    have hlen := hR.len
    have hln := hR.ln
    have h10 := hh.p10
    have lO : (natsD ord).length = ord.length := by unfold natsD; rw [List.length_map]
    have hx : ∀ xs, ordD ord = .tuple xs → xs.length ≤ 1000 := fun xs e => by
      have := PyData.tuple.inj e
      rw [← this, lO]
      omega
    have fw := fit_wh hh (fun c hc => (hR.ok c hc).1) (by decide) (by omega : cs.length ≤ 100)
    have rp := fw.repr (by decide) (by decide)
    refine ⟨_, rfl, ix_wh1 ⟨_, rfl, rp, (by decide : (2 : Nat) ≤ sizeLine), rfl, ?_⟩⟩
    -- the drawn order
    refine ⟨_, rfl, _, rfl, trivial, p, n, cs, ordD ord, rfl, hR.fwd, by omega, hx, _, rfl, _, rfl, trivial, p, n, cs, ordD ord, rfl, hh, hR.fwd, hR.dd, hR.an', by omega, hx, _, rfl, _, rfl, trivial, p, n, cs, ord, rfl, hh, hR.dd, hR.an', by omega, hR.perm, ?_⟩
    rw [weavB_ordD, ordB_ordD, hR.isOrd, hR.wrong]
    have f1 : Fit 1 (3 * 42) (.list [.bool true, .bool true, .none]) := fit_lstN 3 (fun d hd => by
      simp only [List.mem_cons, List.not_mem_nil, or_false] at hd
      rcases hd with rfl | rfl | rfl <;> first | exact fit_bool | exact fit_none) (by simp)
    refine ⟨(by decide : (3 : Nat) ≤ sizeLine), (by decide : (3 : Nat) ≤ sizeLine), trivial, alike_same f1 (by decide) (by decide) (if_no rfl ?_)⟩
    refine ⟨_, rfl, _, rfl, trivial, p, n, cs, ord, rfl, hh, hR.dd, by omega, hR.perm, ?_⟩
    rw [hR.ansAll]
    refine ⟨_, rfl, cs.map clD, rfl, ?_⟩
    refine lc_map (h := clD) (f := fun c => anD (ansC c)) (sl0 := [.d (lI ns), s4, .d (hD p n), .d (whD p n cs), .d (ordD ord), .d (csD cs), .d (.str (PyData.shown (whD p n cs))), .un, .un, .un, .un, .un, .un, .un, .un, .un, .un, .un, .un]) rfl rfl (fun c hc Y Z hY => ⟨fun _ => ⟨_, rfl, ?_⟩, fun c => (nomatch c)⟩) (by omega) ?_
    · obtain ⟨a, ea, _⟩ := hR.an c hc
      have e3 : oAn (some a) = anD (ansC c) := by rw [ansC_of ea]; rfl
      refine ix_cl3 ea ?_
      rw [e3]
      exact hY _ rfl
    have e4 : (cs.map fun c => anD (ansC c)) = (cs.map ansC).map anD := by rw [List.map_map]; rfl
    rw [e4]
    have f2 : Fit 1 2520 (.tuple ((cs.map ansC).map anD)) := (fit_anL h10 (fun a h => by
      obtain ⟨c, hc, rfl⟩ := List.mem_map.mp h
      obtain ⟨a, ea, oa⟩ := hR.an c hc
      rw [ansC_of ea]
      exact ⟨_, oa⟩) (by rw [List.length_map]; omega)).2
    refine ⟨trivial, alike_same f2 (by decide) (by decide) (if_no rfl ?_)⟩
    -- the rows at the end
    refine ⟨_, rfl, natsD ord, rfl, ?_⟩
    unfold natsD
    refine lc_filter (h := fun i : Nat => PyData.int (i : Nat)) (f := fun i => rD ((clAt cs i).dd.1, (clAt cs i).dd.2.getD 0)) (c := fun i => decide ((clAt cs i).a = some (some .new))) (sl0 := [.d (lI ns), s4, .d (hD p n), .d (whD p n cs), .d (ordD ord), .d (csD cs), .d (.str (PyData.shown (whD p n cs))), .un, .un, .un, .un, .un, .un, .un, .un, .un, .un, .un, .un]) rfl rfl (fun i hi Y Z hY hZ => ?_) (by omega) ?_
    · have hi' := hR.lt i hi
      obtain ⟨a, ea, oa⟩ := hR.an _ (clAt_mem hi')
      refine ⟨_, rfl, _, rfl, ix_cs (clAt_get hi') (ix_cl3 ea ⟨pl_oan _, pl_str (by decide +kernel), ?_⟩)⟩
      rw [eqv_oan_new]
      have ed : decide ((clAt cs i).a = some (some .new)) = decide (some a = some An.new) := by
        rw [ea]
        exact decide_eq_decide.mpr ⟨fun e => by injection e, fun e => by rw [e]⟩
      rw [ed] at hY hZ
      refine ⟨fun c => ?_, fun c => hZ c _ rfl⟩
      have en : a = .new := Option.some.inj (of_decide_eq_true c)
      subst en
      have ht : (clAt cs i).dd.2.isSome = true := oa
      obtain ⟨v, ev⟩ := Option.isSome_iff_exists.mp ht
      refine ⟨_, rfl, _, rfl, ix_cs (clAt_get hi') (ix_cl0 (ix_dd1 ⟨_, rfl, _, rfl, ix_cs (clAt_get hi') (ix_cl0 (ix_dd2 ev ⟨(by decide : (2 : Nat) ≤ sizeLine), ?_⟩))⟩))⟩
      have e6 : PyData.tuple [dI (clAt cs i).dd.1, .int v] = rD ((clAt cs i).dd.1, (clAt cs i).dd.2.getD 0) := by rw [ev]; rfl
      rw [e6]
      exact hY c _ rfl
    have e5 : ((ord.filter fun i => decide ((clAt cs i).a = some (some .new))).map fun i => rD ((clAt cs i).dd.1, (clAt cs i).dd.2.getD 0)) = (rowsFrom p n [] (ddsOf cs ord)).map rD := by rw [hR.rows, List.map_map]; rfl
    rw [e5]
    refine ⟨_, rfl, _, rfl, _, rfl, trivial, p, n, cs, ord, (cs.map clD).length, rfl, hh, hR.dd, by omega, hR.perm, by rw [List.length_map]; omega, ?_⟩
    rw [List.take_of_length_le (by unfold ddsOf; rw [List.length_map, List.length_map]; omega)]
    have f3 : Fit 3 67500 (rsD (rowsFrom p n [] (ddsOf cs ord))) := by
      have ok := rows_ok hh.pr hR.dd hR.lt ord.length
      have ll := rows_len (p := p) (n := n) (cs := cs) (ns := ord) ord.length
      rw [List.take_of_length_le (by unfold ddsOf; rw [List.length_map]; omega)] at ok ll
      exact fit_rows hh ok.ok (by omega)
    refine ⟨_, rfl, trivial, alike_same f3 (by decide) (by decide) (if_no rfl ?_)⟩
    -- orders moved
    refine ⟨⟨by decide, by decide⟩, ?_⟩
    rw [show ((6 : Int)).toNat = 6 from rfl, rng0]
    refine for_inv (fun zs sl => ∃ s u8 u9 u10 u11, sl = [.d (lI ns), s, .d (hD p n), .d (whD p n cs), .d (ordD ord), .d (csD cs), .d (.str (PyData.shown (whD p n cs))), .d (rsD (rowsFrom p n [] (ddsOf cs ord))), u8, u9, u10, u11, .un, .un, .un, .un, .un, .un, .un] ∧ BagOk l s)
      (fun sl ⟨s, u8, u9, u10, u11, e, hs⟩ => ?_) (fun z zs sl R ⟨s, u8, u9, u10, u11, e, hs⟩ hR' => ?_) ⟨s4, .un, .un, .un, .un, rfl, hs4⟩
    · subst e
      -- other answers
      have plc : Pl (csD cs) := pl_tup (fit_cs hh (fun c hc => (hR.ok c hc).1) (by decide) (by omega : cs.length ≤ 100)) (by decide)
      refine ⟨_, rfl, Nat.zero_le _, plc, pl_nilT, ?_⟩
      show ((!PyData.eqv (csD cs) (.tuple [])) = true → _) ∧ ((!PyData.eqv (csD cs) (.tuple [])) = false → _)
      rw [eqv_cs_nil]
      have done : ∀ s' u8 u12 u13 u14 u15 u16 u17, BagOk l s' → (aRet (aOp fEqS (aCB fRepr (aCons (aVar 3) aNil)) (aVar 6))) { nx := fun sl' => Q .none (finS [.d (lI ns)] sl'), rt := fun d sl' => Q d (finS [.d (lI ns)] sl'), bk := fun _ => False, ct := fun _ => False }
          [.d (lI ns), s', .d (hD p n), .d (whD p n cs), .d (ordD ord), .d (csD cs), .d (.str (PyData.shown (whD p n cs))), .d (rsD (rowsFrom p n [] (ddsOf cs ord))), u8, u9, u10, u11, u12, u13, u14, u15, u16, u17, .un] := fun s' u8 u12 u13 u14 u15 u16 u17 hs' => by
        refine ⟨_, rfl, rp, ⟨_, rfl, ?_⟩⟩
        show Q (.bool (decide (PyData.shown (whD p n cs) = PyData.shown (whD p n cs)))) _
        rw [decide_eq_true rfl]
        exact q
      cases hE : cs.isEmpty with
      | true =>
        refine ⟨fun c => (nomatch c), fun _ => ⟨⟨by decide, by decide⟩, ?_⟩⟩
        exact done _ _ _ _ _ _ _ _ hs
      | false =>
        refine ⟨fun _ => ⟨⟨by decide, by decide⟩, ?_⟩, fun c => (nomatch c)⟩
        have hpos : 0 < cs.length := by
          cases cs with
          | nil => cases hE
          | cons _ _ => simp
        rw [show ((2 : Int)).toNat = 2 from rfl, rng0]
        refine for_inv (fun zs sl => ∃ s u8 u12 u13 u14 u15 u16 u17, sl = [.d (lI ns), s, .d (hD p n), .d (whD p n cs), .d (ordD ord), .d (csD cs), .d (.str (PyData.shown (whD p n cs))), .d (rsD (rowsFrom p n [] (ddsOf cs ord))), u8, u9, u10, u11, u12, u13, u14, u15, u16, u17, .un] ∧ BagOk l s)
          (fun sl ⟨s, u8, u12, u13, u14, u15, u16, u17, e, hs⟩ => ?_) (fun z zs sl R ⟨s, u8, u12, u13, u14, u15, u16, u17, e, hs⟩ hR' => ?_) ⟨s, _, _, _, _, _, _, _, rfl, hs⟩
        · subst e
          exact done _ _ _ _ _ _ _ _ hs
        · subst e
          refine ⟨ad1 hs, _, rfl, ad1 hs, ⟨trivial, trivial⟩, takeN hs (by rw [List.length_map]; omega) (by rw [List.length_map]; omega) fun v s1 hs1 v0 v1 => ?_⟩
          rw [List.length_map] at v1
          obtain ⟨i, rfl⟩ : ∃ i : Nat, v = (i : Int) := ⟨v.toNat, by omega⟩
          have hi : i < cs.length := by omega
          obtain ⟨a, ea, oa⟩ := hR.an _ (clAt_mem hi)
          have ec : clD (clAt cs i) = .tuple [ddD (clAt cs i).dd, .int (clAt cs i).b, oI (clAt cs i).e, oAn (some a)] := by
            unfold clD
            rw [ea]
            rfl
          refine ⟨_, rfl, _, rfl, ix_cs (clAt_get hi) ?_⟩
          rw [ec]
          refine ⟨rfl, ?_⟩
          refine ⟨_, rfl, _, rfl, _, rfl, _, rfl, _, rfl, _, rfl, ad1 hs1, _, rfl, _, rfl, _, rfl, ix_cs (clAt_get hi) ⟨ad1 hs1, ⟨trivial, trivial⟩, l, s1, p, n, clAt cs i, some a, rfl, hs1, hh, ea, (fun b e => by cases e; exact oa), fun a' s2 oa' ne hs2 => ?_⟩⟩
          refine ⟨(by decide : (4 : Nat) ≤ sizeLine), trivial, cs.map clD, i, _, rfl, by rw [List.length_map]; exact hi, by rw [List.length_map]; omega, (by decide : (2 : Nat) ≤ sizeLine), ?_⟩
          have eb : PyData.tuple ((cs.map clD).set i (.tuple [ddD (clAt cs i).dd, .int (clAt cs i).b, oI (clAt cs i).e, anD a'])) = csD (bendC cs i a') := by
            have : PyData.tuple [ddD (clAt cs i).dd, .int (clAt cs i).b, oI (clAt cs i).e, anD a'] = clD { clAt cs i with a := some (some a') } := rfl
            rw [this, csD_set]
            rfl
          rw [eb]
          have hna : (clAt cs i).a ≠ some (some a') := fun e => ne (by rw [ea] at e; exact Option.some.inj e)
          have hb := hR.bent hi hna
          have bf : Fwd (bendC cs i a') := bend_mem hi hR.fwd id
          have bd : ∀ c ∈ bendC cs i a', DdOk p n c.dd := bend_mem hi hR.dd id
          have ba : ∀ c ∈ bendC cs i a', ∃ a, c.a = some (some a) := bend_mem hi hR.an' fun _ => ⟨a', rfl⟩
          have bl : (bendC cs i a').length = cs.length := bend_len
          have hm : i ∈ ord := hR.perm.mem_iff.mpr (List.mem_range.mpr hi)
          refine ⟨_, rfl, _, rfl, trivial, p, n, bendC cs i a', ordD ord, rfl, hh, bf, bd, ba, by omega, hx, _, rfl, _, rfl, trivial, p, n, bendC cs i a', ord, rfl, hh, bd, ba, by omega, by rw [bl]; exact hR.perm, ?_⟩
          rw [weavB_ordD, hb]
          have ef : (isOrd (bendC cs i a') ord && (some (ord.idxOf i)).isNone) = false := by rw [show (some (ord.idxOf i)).isNone = false from rfl, Bool.and_false]
          rw [ef]
          refine ⟨(by decide : (2 : Nat) ≤ sizeLine), _, rfl, ⟨_, ordD_ints ord⟩, _, rfl, _, i, ordD_ints ord, rfl, List.mem_map.mpr ⟨i, hm, rfl⟩, (by decide : (2 : Nat) ≤ sizeLine), ?_⟩
          rw [idx_cast]
          have hio := List.idxOf_lt_length_of_mem hm
          have f5 : Fit 1 (2 * 42) (.list [.bool false, .int ((ord.idxOf i : Nat))]) := fit_lstN 2 (fun d hd => by
            simp only [List.mem_cons, List.not_mem_nil, or_false] at hd
            rcases hd with rfl | rfl
            · exact fit_bool
            · exact fit_big (by omega)) (by simp)
          exact ⟨trivial, alike_same f5 (by decide) (by decide) (if_no rfl (hR' _ ⟨s2, _, _, _, _, _, _, _, rfl, hs2⟩))⟩
    · subst e
      refine ⟨ad1 hs, _, rfl, ad1 hs, ⟨trivial, trivial⟩, l, s, ord, rfl, hs, by omega, fun ns' s' pm hs' => ?_⟩
      have ln' : ns'.length = cs.length := by rw [pm.length_eq, hln]
      have lt' : ∀ i ∈ ns', i < cs.length := fun i hi => hR.lt i (pm.mem_iff.mp hi)
      have pr' : ns'.Perm (List.range cs.length) := pm.trans hR.perm
      have hx' : ∀ xs, ordD ns' = .tuple xs → xs.length ≤ 1000 := fun xs e => by
        have := PyData.tuple.inj e
        rw [← this]
        unfold natsD
        rw [List.length_map]
        omega
      refine ⟨_, rfl, _, rfl, trivial, cs, ns', rfl, by omega, by omega, ?_⟩
      refine ⟨_, rfl, _, rfl, ?_⟩
      have f4 : ∀ a b : Bool, Fit 1 (2 * 42) (.list [.bool a, .bool b]) := fun a b => fit_lstN 2 (fun d hd => by
        simp only [List.mem_cons, List.not_mem_nil, or_false] at hd
        rcases hd with rfl | rfl <;> exact fit_bool) (by simp)
      cases hb : isOrd cs ns' with
      | true =>
        refine ⟨fun _ => ⟨_, rfl, _, rfl, trivial, p, n, cs, ns', rfl, hh, hR.dd, hR.an, lt', by omega, (by decide : (2 : Nat) ≤ sizeLine), ?_⟩, fun c => (nomatch c)⟩
        refine ⟨_, rfl, _, rfl, trivial, p, n, cs, ordD ns', rfl, hR.fwd, by omega, hx', _, rfl, _, rfl, trivial, p, n, cs, ordD ns', rfl, hh, hR.fwd, hR.dd, hR.an', by omega, hx', ?_⟩
        rw [weavB_ordD, ordB_ordD, hb, Bool.true_and, weav_wrong hR.an' lt']
        exact ⟨(by decide : (2 : Nat) ≤ sizeLine), _, rfl, trivial, alike_same (f4 _ _) (by decide) (by decide) (if_no rfl (hR' _ ⟨s', _, _, _, _, rfl, hs'⟩))⟩
      | false =>
        refine ⟨fun c => (nomatch c), fun _ => ⟨(by decide : (2 : Nat) ≤ sizeLine), ?_⟩⟩
        refine ⟨_, rfl, _, rfl, trivial, p, n, cs, ordD ns', rfl, hR.fwd, by omega, hx', _, rfl, _, rfl, trivial, p, n, cs, ordD ns', rfl, hh, hR.fwd, hR.dd, hR.an', by omega, hx', ?_⟩
        rw [weavB_ordD, ordB_ordD, hb, Bool.false_and]
        exact ⟨(by decide : (2 : Nat) ≤ sizeLine), _, rfl, trivial, alike_same (f4 _ _) (by decide) (by decide) (if_no rfl (hR' _ ⟨s', _, _, _, _, rfl, hs'⟩))⟩
end
end R

namespace R
open PySem PySem.Spec PyProof.Rows L2 RX
theorem def_mk {K : PySem.W.Frag} {h : Heap} {mg : Str → Option Value} {x : Str} {ps : List Str} {st : Stmt} {f : Addr} {od an : Option Addr} {sl : Array (Option Value)} {oc kV dc pm cd ct : Value} (X : K.In h) (G : h.Ns mainGlobals mg)
    (a : PySem.W.nsIn K mainGlobals x = some (some (.ref f))) (l : K.lookup f = some ⟨oc, od, .func (PySem.W.fnOf x x (defArgs st) (defBody st) (defScope st) .none kV dc pm an cd ct), sl⟩) (c : PySem.W.codeIn K cd x = true) (k : PySem.W.keepIn K (.ref f) = true)
    (hb : ∀ (kV doc pm : Value) (an : Option Addr) (cdv ct : Value) (us : List Value), us.length = ps.length → bindArgs (PySem.W.fnOf x x (defArgs st) (defBody st) (defScope st) .none kV doc pm an cdv ct) ⟨us, []⟩ = pure (ps.zip us)) : Def K mg x ps st :=
  ⟨f, _, fun_mk l c k, PySem.W.mg_of X G a, (fun_mk l c k).binds hb⟩
theorem step {K : PySem.W.Frag} {h : Heap} {mg : Str → Option Value} {x : Str} {ps : List Str} {st : Stmt} {Goal : Prop} (X : K.In h) (G : h.Ns mainGlobals mg) (d : Def K mg x ps st) (rest : Def K mg x ps st → Goal) : Goal := rest d
theorem defM_mk {K : PySem.W.Frag} {C : Addr} {m qual : Str} {ps : List Str} {st : Stmt} {f : Addr} {od an : Option Addr} {sl : Array (Option Value)} {oc kV dc pm cd ct : Value} (cl : Cls K C)
    (a : PySem.W.findIn K (.ref C) m = some (some (.ref f))) (i : PySem.W.isFn K (.ref f) = true) (l : K.lookup f = some ⟨oc, od, .func (PySem.W.fnOf m qual (defArgs st) (defBody st) (defScope st) .none kV dc pm an cd ct), sl⟩) (c : PySem.W.codeIn K cd qual = true) (k : PySem.W.keepIn K (.ref f) = true)
    (hb : ∀ (kV doc pm : Value) (an : Option Addr) (cdv ct : Value) (us : List Value), us.length = ps.length → bindArgs (PySem.W.fnOf m qual (defArgs st) (defBody st) (defScope st) .none kV doc pm an cdv ct) ⟨us, []⟩ = pure (ps.zip us)) : DefM K C m qual ps st :=
  ⟨f, _, fun_mk l c k, cl, ⟨a, i, k⟩, (fun_mk l c k).binds hb⟩
theorem defI_mk {K : PySem.W.Frag} {h : Heap} {mg : Str → Option Value} {x : Str} {C : Addr} {qual : Str} {ps : List Str} {st : Stmt} {f : Addr} {od an : Option Addr} {sl : Array (Option Value)} {oc kV dc pm cd ct : Value} (X : K.In h) (hm : mg x = some (.ref C)) (mk : PySem.W.makesIn K C = true) (kc : PySem.W.keepIn K (.ref C) = true)
    (a : PySem.W.findIn K (.ref C) "__init__" = some (some (.ref f))) (i : PySem.W.isFn K (.ref f) = true) (l : K.lookup f = some ⟨oc, od, .func (PySem.W.fnOf "__init__" qual (defArgs st) (defBody st) (defScope st) .none kV dc pm an cd ct), sl⟩) (c : PySem.W.codeIn K cd qual = true) (k : PySem.W.keepIn K (.ref f) = true)
    (hb : ∀ (kV doc pm : Value) (an : Option Addr) (cdv ct : Value) (us : List Value), us.length = ps.length → bindArgs (PySem.W.fnOf "__init__" qual (defArgs st) (defBody st) (defScope st) .none kV doc pm an cdv ct) ⟨us, []⟩ = pure (ps.zip us)) : DefI K mg x C qual ps st :=
  ⟨f, _, fun_mk l c k, ⟨mk, a, i, kc⟩, hm, (fun_mk l c k).binds hb⟩
def NoAll (K : PySem.W.Frag) (C : Addr) : List Str → Prop
  | [] => True
  | f :: fs => PySem.W.findIn K (.ref C) f = some none ∧ NoAll K C fs
theorem NoAll.at {K : PySem.W.Frag} {C : Addr} : ∀ {fs : List Str}, NoAll K C fs → ∀ f ∈ fs, NoAttr K C f
  | g :: fs, h, f, m => by
    rcases List.mem_cons.mp m with e | m
    · rw [e]; exact h.1
    · exact NoAll.at h.2 f m
theorem cls_step {K : PySem.W.Frag} {h : Heap} {mg : Str → Option Value} {x : Str} {ns : List Str} {C : Addr} {Goal : Prop} (X : K.In h) (G : h.Ns mainGlobals mg) (aC : PySem.W.nsIn K mainGlobals x = some (some (.ref C)))
    (pg : PySem.W.plainGet K C Str.empty = true) (hd : PySem.W.hasDictIn K C = true) (po : PySem.W.plainOver K C = true) (sa : PySem.W.findIn K (.ref C) "__setattr__" = some (some (.builtin "object.__setattr__"))) (no : NoAll K C ns)
    (rest : mg x = some (.ref C) → ClsF K C ns → Goal) : Goal := rest (PySem.W.mg_of X G aC) ⟨⟨pg, hd, po, sa⟩, no.at⟩
theorem glob_mk {K : PySem.W.Frag} {h : Heap} {mg : Str → Option Value} {x : Str} {a : Addr} {ns : List Int} {its : Array Value} {n : Nat} {sl : Array (Option Value)} (X : K.In h) (G : h.Ns mainGlobals mg) (aP : PySem.W.nsIn K mainGlobals x = some (some (.ref a)))
    (l : K.lookup a = some ⟨.type "tuple", none, .seq its n, sl⟩) (hz : its.size ≤ sizeLine) (hv : Vals (ns.map V.int) its.toList) : GlobOk K mg x (.tuple (ns.map .int)) :=
  ⟨a, PySem.W.mg_of X G aP, fun G => .tup (.inr ⟨_, its, n, l, rfl, rfl, rfl, hz, hv⟩) DqAll.ints⟩
theorem gstep {A Goal : Prop} (d : A) (rest : A → Goal) : Goal := rest d
section
variable {P : Program} {w : World} {K : PySem.W.Frag} {mg : Str → Option Value} {base : Heap}
theorem law_all {C_Store : Addr} (T_Store : ClsF K C_Store ["_house", "_rows"]) (o_PRIMES : GlobOk K mg "PRIMES" D_PRIMES) (d_is_ahead : Def K mg "is_ahead" p_is_ahead s_is_ahead) (d_empty_sum : Def K mg "empty_sum" p_empty_sum s_empty_sum) (d_times : Def K mg "times" p_times s_times) (d_given_by : Def K mg "given_by" p_given_by s_given_by) (d__line_of : Def K mg "_line_of" p__line_of s__line_of) (d__lead_of : Def K mg "_lead_of" p__lead_of s__lead_of) (d__inverse : Def K mg "_inverse" p__inverse s__inverse) (d__less : Def K mg "_less" p__less s__less) (d__cleared : Def K mg "_cleared" p__cleared s__cleared) (d__sifted : Def K mg "_sifted" p__sifted s__sifted) (d_is_integer : Def K mg "is_integer" p_is_integer s_is_integer) (d_is_house : Def K mg "is_house" p_is_house s_is_house) (d_is_sum : Def K mg "is_sum" p_is_sum s_is_sum) (d_is_row : Def K mg "is_row" p_is_row s_is_row) (d__has_parts : Def K mg "_has_parts" p__has_parts s__has_parts) (d__is_number : Def K mg "_is_number" p__is_number s__is_number) (d_Store___init__ : DefI K mg "Store" C_Store "Store.__init__" p_Store___init__ s_Store___init__) (d_Store_tell : DefM K C_Store "tell" "Store.tell" p_Store_tell s_Store_tell) (d_Store_ask : DefM K C_Store "ask" "Store.ask" p_Store_ask s_Store_ask) (d_Store_rows : DefM K C_Store "rows" "Store.rows" p_Store_rows s_Store_rows) (d_is_order : Def K mg "is_order" p_is_order s_is_order) (d_is_weaving : Def K mg "is_weaving" p_is_weaving s_is_weaving) (d_answers_by : Def K mg "answers_by" p_answers_by s_answers_by) (d_first_wrong : Def K mg "first_wrong" p_first_wrong s_first_wrong) (d_store_at : Def K mg "store_at" p_store_at s_store_at) (d__answer_of : Def K mg "_answer_of" p__answer_of s__answer_of) (d__law_bag : Def K mg "_law_bag" p_L_bag s_L_bag) (d__law_take : Def K mg "_law_take" p_L_take s_L_take) (d__law_one : Def K mg "_law_one" p_L_one s_L_one) (d__law_mixed : Def K mg "_law_mixed" p_L_mixed s_L_mixed) (d__law_alike : Def K mg "_law_alike" p_L_alike s_L_alike) (d__law_is_int : Def K mg "_law_is_int" p_L_is_int s_L_is_int) (d__law_rest : Def K mg "_law_rest" p_L_rest s_L_rest) (d__law_inverse : Def K mg "_law_inverse" p_L_inverse s_L_inverse) (d__law_plus : Def K mg "_law_plus" p_L_plus s_L_plus) (d__law_flat : Def K mg "_law_flat" p_L_flat s_L_flat) (d__law_echelon : Def K mg "_law_echelon" p_L_echelon s_L_echelon) (d__law_given : Def K mg "_law_given" p_L_given s_L_given) (d__law_comes_to : Def K mg "_law_comes_to" p_L_comes_to s_L_comes_to) (d__law_answer : Def K mg "_law_answer" p_L_answer s_L_answer) (d__law_answers_by : Def K mg "_law_answers_by" p_L_answers_by s_L_answers_by) (d__law_house : Def K mg "_law_house" p_L_house s_L_house) (d__law_sum : Def K mg "_law_sum" p_L_sum s_L_sum) (d__law_sums : Def K mg "_law_sums" p_L_sums s_L_sums) (d__law_deed : Def K mg "_law_deed" p_L_deed s_L_deed) (d__law_world : Def K mg "_law_world" p_L_world s_L_world) (d__law_stretch : Def K mg "_law_stretch" p_L_stretch s_L_stretch) (d__law_history : Def K mg "_law_history" p_L_history s_L_history) (d__law_put : Def K mg "_law_put" p_L_put s_L_put) (d__law_other_answer : Def K mg "_law_other_answer" p_L_other_answer s_L_other_answer) (d__law_is_ahead : Def K mg "_law_is_ahead" p_L_is_ahead s_L_is_ahead) (d__law_is_weaving : Def K mg "_law_is_weaving" p_L_is_weaving s_L_is_weaving) (d__law_is_order : Def K mg "_law_is_order" p_L_is_order s_L_is_order) (d__law_moved : Def K mg "_law_moved" p_L_moved s_L_moved) (d_law : Def K mg "law" p_law s_law) (m_abs : mg "abs" = none) (m_int : mg "int" = none) (m_len : mg "len" = none) (m_list : mg "list" = none) (m_range : mg "range" = none) (m_tuple : mg "tuple" = none) (m_zip : mg "zip" = none) (m_sum : mg "sum" = none) (m_enumerate : mg "enumerate" = none) (m_repr : mg "repr" = none) (m_isinstance : mg "isinstance" = none) (m_bool : mg "bool" = none) (m_all : mg "all" = none) (m_sorted : mg "sorted" = none) (m_any : mg "any" = none) : Ok P w K mg base 10 "law" p_law a_law := by
  have o__law_bag := ok__law_bag (P := P) (w := w) (mg := mg) (base := base) (k := 8) d__law_bag m_abs
  have o__law_take := ok__law_take (P := P) (w := w) (mg := mg) (base := base) (k := 0) d__law_take m_int
  have o__law_one := ok__law_one (P := P) (w := w) (mg := mg) (base := base) (k := 1) d__law_one m_len o__law_take
  have o__law_house := ok__law_house (P := P) (w := w) (mg := mg) (base := base) (k := 2) d__law_house o__law_one m_list m_range
  have o__law_world := ok__law_world (P := P) (w := w) (mg := mg) (base := base) (k := 1) d__law_world m_range m_tuple o__law_take
  have o__law_sum := ok__law_sum (P := P) (w := w) (mg := mg) (base := base) (k := 2) d__law_sum m_range m_tuple o__law_one (o__law_take.mono (by decide))
  have o__law_rest := ok__law_rest (P := P) (w := w) (mg := mg) (base := base) (k := 0) d__law_rest
  have o__law_plus := ok__law_plus (P := P) (w := w) (mg := mg) (base := base) (k := 1) d__law_plus m_zip o__law_rest
  have o__law_sums := ok__law_sums (P := P) (w := w) (mg := mg) (base := base) (k := 3) d__law_sums m_range m_tuple o__law_sum (o__law_one.mono (by decide)) (o__law_plus.mono (by decide)) (o__law_take.mono (by decide))
  have o__law_comes_to := ok__law_comes_to (P := P) (w := w) (mg := mg) (base := base) (k := 1) d__law_comes_to m_sum m_zip o__law_rest
  have o__law_deed := ok__law_deed (P := P) (w := w) (mg := mg) (base := base) (k := 2) d__law_deed o__law_one (o__law_take.mono (by decide)) o__law_comes_to
  have o__law_flat := ok__law_flat (P := P) (w := w) (mg := mg) (base := base) (k := 0) d__law_flat m_list m_range m_int
  have o__law_inverse := ok__law_inverse (P := P) (w := w) (mg := mg) (base := base) (k := 1) d__law_inverse m_range o__law_rest
  have o__law_echelon := ok__law_echelon (P := P) (w := w) (mg := mg) (base := base) (k := 2) d__law_echelon m_enumerate m_len m_range m_tuple (o__law_flat.mono (by decide)) o__law_plus o__law_inverse
  have o__law_given := ok__law_given (P := P) (w := w) (mg := mg) (base := base) (k := 3) d__law_given m_list m_len m_range m_tuple o__law_echelon (o__law_plus.mono (by decide))
  have o__law_answer := ok__law_answer (P := P) (w := w) (mg := mg) (base := base) (k := 4) d__law_answer o__law_given
  have o__law_answers_by := ok__law_answers_by (P := P) (w := w) (mg := mg) (base := base) (k := 5) d__law_answers_by o__law_answer
  have o__law_mixed := ok__law_mixed (P := P) (w := w) (mg := mg) (base := base) (k := 1) d__law_mixed m_len o__law_take
  have o__law_stretch := ok__law_stretch (P := P) (w := w) (mg := mg) (base := base) (k := 2) d__law_stretch o__law_one
  have o__law_history := ok__law_history (P := P) (w := w) (mg := mg) (base := base) (k := 6) d__law_history (o__law_one.mono (by decide)) (o__law_take.mono (by decide)) (o__law_world.mono (by decide)) (o__law_sums.mono (by decide)) (o__law_deed.mono (by decide)) o__law_answers_by (o__law_mixed.mono (by decide)) (o__law_stretch.mono (by decide)) m_range m_list m_tuple
  have o__law_alike := ok__law_alike (P := P) (w := w) (mg := mg) (base := base) (k := 0) d__law_alike m_repr
  have o_is_integer := ok_is_integer (P := P) (w := w) (mg := mg) (base := base) (k := 0) d_is_integer m_isinstance m_int m_bool
  have o_is_ahead := ok_is_ahead (P := P) (w := w) (mg := mg) (base := base) (k := 0) d_is_ahead
  have o_is_order := ok_is_order (P := P) (w := w) (mg := mg) (base := base) (k := 1) d_is_order o_is_integer o_is_ahead m_isinstance m_tuple m_all m_sorted m_len m_list m_range m_any
  have o__has_parts := ok__has_parts (P := P) (w := w) (mg := mg) (base := base) (k := 0) d__has_parts m_isinstance m_tuple m_len
  have o__is_number := ok__is_number (P := P) (w := w) (mg := mg) (base := base) (k := 1) d__is_number o_is_integer
  have o_is_sum := ok_is_sum (P := P) (w := w) (mg := mg) (base := base) (k := 2) d_is_sum (o__has_parts.mono (by decide)) o__is_number m_all
  have o_is_row := ok_is_row (P := P) (w := w) (mg := mg) (base := base) (k := 3) d_is_row (o__has_parts.mono (by decide)) o_is_sum (o__is_number.mono (by decide))
  have o__less := ok__less (P := P) (w := w) (mg := mg) (base := base) (k := 0) d__less m_tuple m_zip
  have o__cleared := ok__cleared (P := P) (w := w) (mg := mg) (base := base) (k := 1) d__cleared o__less
  have o__line_of := ok__line_of (P := P) (w := w) (mg := mg) (base := base) (k := 0) d__line_of m_tuple m_range m_len
  have o__lead_of := ok__lead_of (P := P) (w := w) (mg := mg) (base := base) (k := 0) d__lead_of m_range
  have o_times := ok_times (P := P) (w := w) (mg := mg) (base := base) (k := 0) d_times m_tuple
  have o__inverse := ok__inverse (P := P) (w := w) (mg := mg) (base := base) (k := 0) d__inverse m_range
  have o__sifted := ok__sifted (P := P) (w := w) (mg := mg) (base := base) (k := 2) d__sifted m_range m_len o__cleared (o__line_of.mono (by decide)) (o__lead_of.mono (by decide)) (o_times.mono (by decide)) (o__inverse.mono (by decide)) (o__less.mono (by decide))
  have o_empty_sum := ok_empty_sum (P := P) (w := w) (mg := mg) (base := base) (k := 0) d_empty_sum
  have o_given_by := ok_given_by (P := P) (w := w) (mg := mg) (base := base) (k := 3) d_given_by m_len o__sifted (o__cleared.mono (by decide)) (o_empty_sum.mono (by decide)) (o_times.mono (by decide))
  have o_Store_tell := ok_Store_tell (P := P) (w := w) (mg := mg) (base := base) (k := 4) d_Store_tell T_Store (o_is_sum.mono (by decide)) o_is_row o_given_by
  have o_Store_ask := ok_Store_ask (P := P) (w := w) (mg := mg) (base := base) (k := 4) d_Store_ask T_Store (o_is_sum.mono (by decide)) o_given_by
  have o__answer_of := ok__answer_of (P := P) (w := w) (mg := mg) (base := base) (k := 5) d__answer_of T_Store o_Store_tell o_Store_ask
  have o_is_house := ok_is_house (P := P) (w := w) (mg := mg) (base := base) (k := 1) d_is_house o_PRIMES o__has_parts o_is_integer
  have o_Store___init__ := ok_Store___init__ (P := P) (w := w) (mg := mg) (base := base) (k := 2) d_Store___init__ T_Store o_is_house
  have o_answers_by := ok_answers_by (P := P) (w := w) (mg := mg) (base := base) (k := 6) (j := 3) d_answers_by T_Store o__answer_of (by decide) o_Store___init__ m_len m_tuple
  have o_first_wrong := ok_first_wrong (P := P) (w := w) (mg := mg) (base := base) (k := 7) d_first_wrong o_answers_by m_enumerate
  have o_is_weaving := ok_is_weaving (P := P) (w := w) (mg := mg) (base := base) (k := 8) d_is_weaving (o_is_order.mono (by decide)) o_first_wrong
  have o_Store_rows := ok_Store_rows (P := P) (w := w) (mg := mg) (base := base) (k := 0) d_Store_rows T_Store
  have o_store_at := ok_store_at (P := P) (w := w) (mg := mg) (base := base) (k := 6) (j := 3) d_store_at T_Store o__answer_of (o_Store_rows.mono (by decide)) (by decide) o_Store___init__
  have o__law_moved := ok__law_moved (P := P) (w := w) (mg := mg) (base := base) (k := 1) d__law_moved o__law_take m_len
  have o__law_is_int := ok__law_is_int (P := P) (w := w) (mg := mg) (base := base) (k := 0) d__law_is_int m_isinstance m_int m_bool
  have o__law_is_ahead := ok__law_is_ahead (P := P) (w := w) (mg := mg) (base := base) (k := 0) d__law_is_ahead
  have o__law_is_order := ok__law_is_order (P := P) (w := w) (mg := mg) (base := base) (k := 1) d__law_is_order o__law_is_int o__law_is_ahead m_isinstance m_tuple m_sorted m_list m_range m_len m_enumerate
  have o__law_is_weaving := ok__law_is_weaving (P := P) (w := w) (mg := mg) (base := base) (k := 6) d__law_is_weaving o__law_answers_by (o__law_alike.mono (by decide))
  have o__law_put := ok__law_put (P := P) (w := w) (mg := mg) (base := base) (k := 0) d__law_put
  have o__law_other_answer := ok__law_other_answer (P := P) (w := w) (mg := mg) (base := base) (k := 2) d__law_other_answer o__law_one (o__law_alike.mono (by decide)) m_list m_range
  exact ok_law (P := P) (w := w) (mg := mg) (base := base) (k := 9) d_law o__law_bag (o__law_house.mono (by decide)) (o__law_one.mono (by decide)) (o__law_history.mono (by decide)) (o__law_alike.mono (by decide)) (o_is_order.mono (by decide)) o_is_weaving (o_first_wrong.mono (by decide)) (o_answers_by.mono (by decide)) (o_store_at.mono (by decide)) (o__law_moved.mono (by decide)) (o__law_is_order.mono (by decide)) (o__law_is_weaving.mono (by decide)) (o__law_take.mono (by decide)) (o__law_put.mono (by decide)) (o__law_other_answer.mono (by decide)) m_repr m_tuple m_len m_range
end
/-- what the law is asked at -/
theorem law_sp {K : PySem.W.Frag} {H : Hp} {a : Addr} {ns : List Int} (hl : ns.length ≤ 63) (hO : Only H) (hS : SqL K H a (ns.map V.int)) : SpD K a_law [.ref a] H (fun v _ => v = .bl true) :=
  ⟨H, [.d (lI ns)], fun d _ => d = .bool true, env_data (vs := [.ref a]) (ds := [lI ns]) (.cons (.lst hS DqAll.ints) .nil) (Le.refl H), ⟨ns, rfl, hl, rfl⟩, fun v d G' H' as' _ _ dv e => by
    subst e
    cases dv
    rfl⟩
end R
open PySem PySem.W PyProof.Rows
set_option maxHeartbeats 0 in
theorem PySem.Challenge.cw_freshtold_k10_whole_true_histories_weave_holds : PySem.Challenge.rw_freshtold_k10_whole_true_histories_weave.Holds := by
  w_on; o_law; k_head; (case hw => w_witness2)
  k_fill
  refine RX.walk_ofG (l := PySem.Challenge.rw_freshtold_k10_whole_true_histories_weave) (n := 63) (k := 10) (x := "_law_script") (sp := fun w => R.SpD _ R.a_law) rfl (by decide) rfl ⟨rfl, by decide, by decide⟩ (fun w h Y => PySem.W.kIn_of Y) ?F (fun _ H a ns hl hO hS => R.law_sp hl hO hS)
  case F =>
    intro w mg fa h KX G hmg
    refine' R.cls_step (x := "Store") (ns := ["_house", "_rows"]) KX G ?aC ?pg ?hd ?po ?sa ⟨?n0, ?n1, True.intro⟩ fun mC_Store T_Store => ?_
    (case aC => k_is); (case pg => k_is); (case hd => k_is); (case po => k_is); (case sa => k_is); (case n0 => k_is); (case n1 => k_is)
    refine' R.gstep (R.glob_mk (x := "PRIMES") (ns := [2, 3, 5, 7]) KX G ?aP ?l ?hz ?hv) fun o_PRIMES => ?_
    (case aP => k_is); (case l => k_is); (case hz => decide); (case hv => exact .cons ⟨_, rfl⟩ (.cons ⟨_, rfl⟩ (.cons ⟨_, rfl⟩ (.cons ⟨_, rfl⟩ (.nil)))))
    refine R.step (x := "is_ahead") (ps := R.p_is_ahead) (st := R.s_is_ahead) KX G ?d fun d_is_ahead => ?_
    case d =>
      refine' R.def_mk KX G ?a ?l ?c ?k (fun _ _ _ _ _ _ us hl => match us, hl with | [_, _, _], _ => rfl)
      (case a => k_is); (case l => k_is); (case c => k_is); (case k => k_is)
    refine R.step (x := "empty_sum") (ps := R.p_empty_sum) (st := R.s_empty_sum) KX G ?d fun d_empty_sum => ?_
    case d =>
      refine' R.def_mk KX G ?a ?l ?c ?k (fun _ _ _ _ _ _ us hl => match us, hl with | [_], _ => rfl)
      (case a => k_is); (case l => k_is); (case c => k_is); (case k => k_is)
    refine R.step (x := "times") (ps := R.p_times) (st := R.s_times) KX G ?d fun d_times => ?_
    case d =>
      refine' R.def_mk KX G ?a ?l ?c ?k (fun _ _ _ _ _ _ us hl => match us, hl with | [_, _, _], _ => rfl)
      (case a => k_is); (case l => k_is); (case c => k_is); (case k => k_is)
    refine R.step (x := "given_by") (ps := R.p_given_by) (st := R.s_given_by) KX G ?d fun d_given_by => ?_
    case d =>
      refine' R.def_mk KX G ?a ?l ?c ?k (fun _ _ _ _ _ _ us hl => match us, hl with | [_, _, _], _ => rfl)
      (case a => k_is); (case l => k_is); (case c => k_is); (case k => k_is)
    refine R.step (x := "_line_of") (ps := R.p__line_of) (st := R.s__line_of) KX G ?d fun d__line_of => ?_
    case d =>
      refine' R.def_mk KX G ?a ?l ?c ?k (fun _ _ _ _ _ _ us hl => match us, hl with | [_, _], _ => rfl)
      (case a => k_is); (case l => k_is); (case c => k_is); (case k => k_is)
    refine R.step (x := "_lead_of") (ps := R.p__lead_of) (st := R.s__lead_of) KX G ?d fun d__lead_of => ?_
    case d =>
      refine' R.def_mk KX G ?a ?l ?c ?k (fun _ _ _ _ _ _ us hl => match us, hl with | [_, _], _ => rfl)
      (case a => k_is); (case l => k_is); (case c => k_is); (case k => k_is)
    refine R.step (x := "_inverse") (ps := R.p__inverse) (st := R.s__inverse) KX G ?d fun d__inverse => ?_
    case d =>
      refine' R.def_mk KX G ?a ?l ?c ?k (fun _ _ _ _ _ _ us hl => match us, hl with | [_, _], _ => rfl)
      (case a => k_is); (case l => k_is); (case c => k_is); (case k => k_is)
    refine R.step (x := "_less") (ps := R.p__less) (st := R.s__less) KX G ?d fun d__less => ?_
    case d =>
      refine' R.def_mk KX G ?a ?l ?c ?k (fun _ _ _ _ _ _ us hl => match us, hl with | [_, _, _, _], _ => rfl)
      (case a => k_is); (case l => k_is); (case c => k_is); (case k => k_is)
    refine R.step (x := "_cleared") (ps := R.p__cleared) (st := R.s__cleared) KX G ?d fun d__cleared => ?_
    case d =>
      refine' R.def_mk KX G ?a ?l ?c ?k (fun _ _ _ _ _ _ us hl => match us, hl with | [_, _, _], _ => rfl)
      (case a => k_is); (case l => k_is); (case c => k_is); (case k => k_is)
    refine R.step (x := "_sifted") (ps := R.p__sifted) (st := R.s__sifted) KX G ?d fun d__sifted => ?_
    case d =>
      refine' R.def_mk KX G ?a ?l ?c ?k (fun _ _ _ _ _ _ us hl => match us, hl with | [_, _], _ => rfl)
      (case a => k_is); (case l => k_is); (case c => k_is); (case k => k_is)
    refine R.step (x := "is_integer") (ps := R.p_is_integer) (st := R.s_is_integer) KX G ?d fun d_is_integer => ?_
    case d =>
      refine' R.def_mk KX G ?a ?l ?c ?k (fun _ _ _ _ _ _ us hl => match us, hl with | [_], _ => rfl)
      (case a => k_is); (case l => k_is); (case c => k_is); (case k => k_is)
    refine R.step (x := "is_house") (ps := R.p_is_house) (st := R.s_is_house) KX G ?d fun d_is_house => ?_
    case d =>
      refine' R.def_mk KX G ?a ?l ?c ?k (fun _ _ _ _ _ _ us hl => match us, hl with | [_], _ => rfl)
      (case a => k_is); (case l => k_is); (case c => k_is); (case k => k_is)
    refine R.step (x := "is_sum") (ps := R.p_is_sum) (st := R.s_is_sum) KX G ?d fun d_is_sum => ?_
    case d =>
      refine' R.def_mk KX G ?a ?l ?c ?k (fun _ _ _ _ _ _ us hl => match us, hl with | [_, _], _ => rfl)
      (case a => k_is); (case l => k_is); (case c => k_is); (case k => k_is)
    refine R.step (x := "is_row") (ps := R.p_is_row) (st := R.s_is_row) KX G ?d fun d_is_row => ?_
    case d =>
      refine' R.def_mk KX G ?a ?l ?c ?k (fun _ _ _ _ _ _ us hl => match us, hl with | [_, _], _ => rfl)
      (case a => k_is); (case l => k_is); (case c => k_is); (case k => k_is)
    refine R.step (x := "_has_parts") (ps := R.p__has_parts) (st := R.s__has_parts) KX G ?d fun d__has_parts => ?_
    case d =>
      refine' R.def_mk KX G ?a ?l ?c ?k (fun _ _ _ _ _ _ us hl => match us, hl with | [_, _], _ => rfl)
      (case a => k_is); (case l => k_is); (case c => k_is); (case k => k_is)
    refine R.step (x := "_is_number") (ps := R.p__is_number) (st := R.s__is_number) KX G ?d fun d__is_number => ?_
    case d =>
      refine' R.def_mk KX G ?a ?l ?c ?k (fun _ _ _ _ _ _ us hl => match us, hl with | [_, _], _ => rfl)
      (case a => k_is); (case l => k_is); (case c => k_is); (case k => k_is)
    refine' R.gstep (R.defI_mk (x := "Store") (qual := "Store.__init__") (ps := R.p_Store___init__) (st := R.s_Store___init__) KX mC_Store ?mk ?kc ?a ?i ?l ?c ?k (fun _ _ _ _ _ _ us hl => match us, hl with | [_, _], _ => rfl)) fun d_Store___init__ => ?_
    (case mk => k_is); (case kc => k_is); (case a => k_is); (case i => k_is); (case l => k_is); (case c => k_is); (case k => k_is)
    refine' R.gstep (R.defM_mk (m := "tell") (qual := "Store.tell") (ps := R.p_Store_tell) (st := R.s_Store_tell) T_Store.cl ?a ?i ?l ?c ?k (fun _ _ _ _ _ _ us hl => match us, hl with | [_, _, _], _ => rfl)) fun d_Store_tell => ?_
    (case a => k_is); (case i => k_is); (case l => k_is); (case c => k_is); (case k => k_is)
    refine' R.gstep (R.defM_mk (m := "ask") (qual := "Store.ask") (ps := R.p_Store_ask) (st := R.s_Store_ask) T_Store.cl ?a ?i ?l ?c ?k (fun _ _ _ _ _ _ us hl => match us, hl with | [_, _], _ => rfl)) fun d_Store_ask => ?_
    (case a => k_is); (case i => k_is); (case l => k_is); (case c => k_is); (case k => k_is)
    refine' R.gstep (R.defM_mk (m := "rows") (qual := "Store.rows") (ps := R.p_Store_rows) (st := R.s_Store_rows) T_Store.cl ?a ?i ?l ?c ?k (fun _ _ _ _ _ _ us hl => match us, hl with | [_], _ => rfl)) fun d_Store_rows => ?_
    (case a => k_is); (case i => k_is); (case l => k_is); (case c => k_is); (case k => k_is)
    refine R.step (x := "is_order") (ps := R.p_is_order) (st := R.s_is_order) KX G ?d fun d_is_order => ?_
    case d =>
      refine' R.def_mk KX G ?a ?l ?c ?k (fun _ _ _ _ _ _ us hl => match us, hl with | [_, _], _ => rfl)
      (case a => k_is); (case l => k_is); (case c => k_is); (case k => k_is)
    refine R.step (x := "is_weaving") (ps := R.p_is_weaving) (st := R.s_is_weaving) KX G ?d fun d_is_weaving => ?_
    case d =>
      refine' R.def_mk KX G ?a ?l ?c ?k (fun _ _ _ _ _ _ us hl => match us, hl with | [_, _], _ => rfl)
      (case a => k_is); (case l => k_is); (case c => k_is); (case k => k_is)
    refine R.step (x := "answers_by") (ps := R.p_answers_by) (st := R.s_answers_by) KX G ?d fun d_answers_by => ?_
    case d =>
      refine' R.def_mk KX G ?a ?l ?c ?k (fun _ _ _ _ _ _ us hl => match us, hl with | [_, _], _ => rfl)
      (case a => k_is); (case l => k_is); (case c => k_is); (case k => k_is)
    refine R.step (x := "first_wrong") (ps := R.p_first_wrong) (st := R.s_first_wrong) KX G ?d fun d_first_wrong => ?_
    case d =>
      refine' R.def_mk KX G ?a ?l ?c ?k (fun _ _ _ _ _ _ us hl => match us, hl with | [_, _], _ => rfl)
      (case a => k_is); (case l => k_is); (case c => k_is); (case k => k_is)
    refine R.step (x := "store_at") (ps := R.p_store_at) (st := R.s_store_at) KX G ?d fun d_store_at => ?_
    case d =>
      refine' R.def_mk KX G ?a ?l ?c ?k (fun _ _ _ _ _ _ us hl => match us, hl with | [_, _, _], _ => rfl)
      (case a => k_is); (case l => k_is); (case c => k_is); (case k => k_is)
    refine R.step (x := "_answer_of") (ps := R.p__answer_of) (st := R.s__answer_of) KX G ?d fun d__answer_of => ?_
    case d =>
      refine' R.def_mk KX G ?a ?l ?c ?k (fun _ _ _ _ _ _ us hl => match us, hl with | [_, _], _ => rfl)
      (case a => k_is); (case l => k_is); (case c => k_is); (case k => k_is)
    refine R.step (x := "_law_bag") (ps := R.p_L_bag) (st := R.s_L_bag) KX G ?d fun d__law_bag => ?_
    case d =>
      refine' R.def_mk KX G ?a ?l ?c ?k (fun _ _ _ _ _ _ us hl => match us, hl with | [_], _ => rfl)
      (case a => k_is); (case l => k_is); (case c => k_is); (case k => k_is)
    refine R.step (x := "_law_take") (ps := R.p_L_take) (st := R.s_L_take) KX G ?d fun d__law_take => ?_
    case d =>
      refine' R.def_mk KX G ?a ?l ?c ?k (fun _ _ _ _ _ _ us hl => match us, hl with | [_, _], _ => rfl)
      (case a => k_is); (case l => k_is); (case c => k_is); (case k => k_is)
    refine R.step (x := "_law_one") (ps := R.p_L_one) (st := R.s_L_one) KX G ?d fun d__law_one => ?_
    case d =>
      refine' R.def_mk KX G ?a ?l ?c ?k (fun _ _ _ _ _ _ us hl => match us, hl with | [_, _], _ => rfl)
      (case a => k_is); (case l => k_is); (case c => k_is); (case k => k_is)
    refine R.step (x := "_law_mixed") (ps := R.p_L_mixed) (st := R.s_L_mixed) KX G ?d fun d__law_mixed => ?_
    case d =>
      refine' R.def_mk KX G ?a ?l ?c ?k (fun _ _ _ _ _ _ us hl => match us, hl with | [_, _], _ => rfl)
      (case a => k_is); (case l => k_is); (case c => k_is); (case k => k_is)
    refine R.step (x := "_law_alike") (ps := R.p_L_alike) (st := R.s_L_alike) KX G ?d fun d__law_alike => ?_
    case d =>
      refine' R.def_mk KX G ?a ?l ?c ?k (fun _ _ _ _ _ _ us hl => match us, hl with | [_, _], _ => rfl)
      (case a => k_is); (case l => k_is); (case c => k_is); (case k => k_is)
    refine R.step (x := "_law_is_int") (ps := R.p_L_is_int) (st := R.s_L_is_int) KX G ?d fun d__law_is_int => ?_
    case d =>
      refine' R.def_mk KX G ?a ?l ?c ?k (fun _ _ _ _ _ _ us hl => match us, hl with | [_], _ => rfl)
      (case a => k_is); (case l => k_is); (case c => k_is); (case k => k_is)
    refine R.step (x := "_law_rest") (ps := R.p_L_rest) (st := R.s_L_rest) KX G ?d fun d__law_rest => ?_
    case d =>
      refine' R.def_mk KX G ?a ?l ?c ?k (fun _ _ _ _ _ _ us hl => match us, hl with | [_, _], _ => rfl)
      (case a => k_is); (case l => k_is); (case c => k_is); (case k => k_is)
    refine R.step (x := "_law_inverse") (ps := R.p_L_inverse) (st := R.s_L_inverse) KX G ?d fun d__law_inverse => ?_
    case d =>
      refine' R.def_mk KX G ?a ?l ?c ?k (fun _ _ _ _ _ _ us hl => match us, hl with | [_, _], _ => rfl)
      (case a => k_is); (case l => k_is); (case c => k_is); (case k => k_is)
    refine R.step (x := "_law_plus") (ps := R.p_L_plus) (st := R.s_L_plus) KX G ?d fun d__law_plus => ?_
    case d =>
      refine' R.def_mk KX G ?a ?l ?c ?k (fun _ _ _ _ _ _ us hl => match us, hl with | [_, _, _, _], _ => rfl)
      (case a => k_is); (case l => k_is); (case c => k_is); (case k => k_is)
    refine R.step (x := "_law_flat") (ps := R.p_L_flat) (st := R.s_L_flat) KX G ?d fun d__law_flat => ?_
    case d =>
      refine' R.def_mk KX G ?a ?l ?c ?k (fun _ _ _ _ _ _ us hl => match us, hl with | [_, _, _], _ => rfl)
      (case a => k_is); (case l => k_is); (case c => k_is); (case k => k_is)
    refine R.step (x := "_law_echelon") (ps := R.p_L_echelon) (st := R.s_L_echelon) KX G ?d fun d__law_echelon => ?_
    case d =>
      refine' R.def_mk KX G ?a ?l ?c ?k (fun _ _ _ _ _ _ us hl => match us, hl with | [_, _], _ => rfl)
      (case a => k_is); (case l => k_is); (case c => k_is); (case k => k_is)
    refine R.step (x := "_law_given") (ps := R.p_L_given) (st := R.s_L_given) KX G ?d fun d__law_given => ?_
    case d =>
      refine' R.def_mk KX G ?a ?l ?c ?k (fun _ _ _ _ _ _ us hl => match us, hl with | [_, _, _], _ => rfl)
      (case a => k_is); (case l => k_is); (case c => k_is); (case k => k_is)
    refine R.step (x := "_law_comes_to") (ps := R.p_L_comes_to) (st := R.s_L_comes_to) KX G ?d fun d__law_comes_to => ?_
    case d =>
      refine' R.def_mk KX G ?a ?l ?c ?k (fun _ _ _ _ _ _ us hl => match us, hl with | [_, _, _], _ => rfl)
      (case a => k_is); (case l => k_is); (case c => k_is); (case k => k_is)
    refine R.step (x := "_law_answer") (ps := R.p_L_answer) (st := R.s_L_answer) KX G ?d fun d__law_answer => ?_
    case d =>
      refine' R.def_mk KX G ?a ?l ?c ?k (fun _ _ _ _ _ _ us hl => match us, hl with | [_, _, _], _ => rfl)
      (case a => k_is); (case l => k_is); (case c => k_is); (case k => k_is)
    refine R.step (x := "_law_answers_by") (ps := R.p_L_answers_by) (st := R.s_L_answers_by) KX G ?d fun d__law_answers_by => ?_
    case d =>
      refine' R.def_mk KX G ?a ?l ?c ?k (fun _ _ _ _ _ _ us hl => match us, hl with | [_, _], _ => rfl)
      (case a => k_is); (case l => k_is); (case c => k_is); (case k => k_is)
    refine R.step (x := "_law_house") (ps := R.p_L_house) (st := R.s_L_house) KX G ?d fun d__law_house => ?_
    case d =>
      refine' R.def_mk KX G ?a ?l ?c ?k (fun _ _ _ _ _ _ us hl => match us, hl with | [_, _], _ => rfl)
      (case a => k_is); (case l => k_is); (case c => k_is); (case k => k_is)
    refine R.step (x := "_law_sum") (ps := R.p_L_sum) (st := R.s_L_sum) KX G ?d fun d__law_sum => ?_
    case d =>
      refine' R.def_mk KX G ?a ?l ?c ?k (fun _ _ _ _ _ _ us hl => match us, hl with | [_, _], _ => rfl)
      (case a => k_is); (case l => k_is); (case c => k_is); (case k => k_is)
    refine R.step (x := "_law_sums") (ps := R.p_L_sums) (st := R.s_L_sums) KX G ?d fun d__law_sums => ?_
    case d =>
      refine' R.def_mk KX G ?a ?l ?c ?k (fun _ _ _ _ _ _ us hl => match us, hl with | [_, _, _], _ => rfl)
      (case a => k_is); (case l => k_is); (case c => k_is); (case k => k_is)
    refine R.step (x := "_law_deed") (ps := R.p_L_deed) (st := R.s_L_deed) KX G ?d fun d__law_deed => ?_
    case d =>
      refine' R.def_mk KX G ?a ?l ?c ?k (fun _ _ _ _ _ _ us hl => match us, hl with | [_, _, _, _], _ => rfl)
      (case a => k_is); (case l => k_is); (case c => k_is); (case k => k_is)
    refine R.step (x := "_law_world") (ps := R.p_L_world) (st := R.s_L_world) KX G ?d fun d__law_world => ?_
    case d =>
      refine' R.def_mk KX G ?a ?l ?c ?k (fun _ _ _ _ _ _ us hl => match us, hl with | [_, _], _ => rfl)
      (case a => k_is); (case l => k_is); (case c => k_is); (case k => k_is)
    refine R.step (x := "_law_stretch") (ps := R.p_L_stretch) (st := R.s_L_stretch) KX G ?d fun d__law_stretch => ?_
    case d =>
      refine' R.def_mk KX G ?a ?l ?c ?k (fun _ _ _ _ _ _ us hl => match us, hl with | [_, _, _], _ => rfl)
      (case a => k_is); (case l => k_is); (case c => k_is); (case k => k_is)
    refine R.step (x := "_law_history") (ps := R.p_L_history) (st := R.s_L_history) KX G ?d fun d__law_history => ?_
    case d =>
      refine' R.def_mk KX G ?a ?l ?c ?k (fun _ _ _ _ _ _ us hl => match us, hl with | [_, _, _], _ => rfl)
      (case a => k_is); (case l => k_is); (case c => k_is); (case k => k_is)
    refine R.step (x := "_law_put") (ps := R.p_L_put) (st := R.s_L_put) KX G ?d fun d__law_put => ?_
    case d =>
      refine' R.def_mk KX G ?a ?l ?c ?k (fun _ _ _ _ _ _ us hl => match us, hl with | [_, _, _], _ => rfl)
      (case a => k_is); (case l => k_is); (case c => k_is); (case k => k_is)
    refine R.step (x := "_law_other_answer") (ps := R.p_L_other_answer) (st := R.s_L_other_answer) KX G ?d fun d__law_other_answer => ?_
    case d =>
      refine' R.def_mk KX G ?a ?l ?c ?k (fun _ _ _ _ _ _ us hl => match us, hl with | [_, _, _], _ => rfl)
      (case a => k_is); (case l => k_is); (case c => k_is); (case k => k_is)
    refine R.step (x := "_law_is_ahead") (ps := R.p_L_is_ahead) (st := R.s_L_is_ahead) KX G ?d fun d__law_is_ahead => ?_
    case d =>
      refine' R.def_mk KX G ?a ?l ?c ?k (fun _ _ _ _ _ _ us hl => match us, hl with | [_, _, _], _ => rfl)
      (case a => k_is); (case l => k_is); (case c => k_is); (case k => k_is)
    refine R.step (x := "_law_is_weaving") (ps := R.p_L_is_weaving) (st := R.s_L_is_weaving) KX G ?d fun d__law_is_weaving => ?_
    case d =>
      refine' R.def_mk KX G ?a ?l ?c ?k (fun _ _ _ _ _ _ us hl => match us, hl with | [_, _], _ => rfl)
      (case a => k_is); (case l => k_is); (case c => k_is); (case k => k_is)
    refine R.step (x := "_law_is_order") (ps := R.p_L_is_order) (st := R.s_L_is_order) KX G ?d fun d__law_is_order => ?_
    case d =>
      refine' R.def_mk KX G ?a ?l ?c ?k (fun _ _ _ _ _ _ us hl => match us, hl with | [_, _], _ => rfl)
      (case a => k_is); (case l => k_is); (case c => k_is); (case k => k_is)
    refine R.step (x := "_law_moved") (ps := R.p_L_moved) (st := R.s_L_moved) KX G ?d fun d__law_moved => ?_
    case d =>
      refine' R.def_mk KX G ?a ?l ?c ?k (fun _ _ _ _ _ _ us hl => match us, hl with | [_, _], _ => rfl)
      (case a => k_is); (case l => k_is); (case c => k_is); (case k => k_is)
    refine R.step (x := "law") (ps := R.p_law) (st := R.s_law) KX G ?d fun d_law => ?_
    case d =>
      refine' R.def_mk KX G ?a ?l ?c ?k (fun _ _ _ _ _ _ us hl => match us, hl with | [_], _ => rfl)
      (case a => k_is); (case l => k_is); (case c => k_is); (case k => k_is)
    have m_abs : mg "abs" = none := PySem.W.mg_none_of KX G (by k_is)
    have m_int : mg "int" = none := PySem.W.mg_none_of KX G (by k_is)
    have m_len : mg "len" = none := PySem.W.mg_none_of KX G (by k_is)
    have m_list : mg "list" = none := PySem.W.mg_none_of KX G (by k_is)
    have m_range : mg "range" = none := PySem.W.mg_none_of KX G (by k_is)
    have m_tuple : mg "tuple" = none := PySem.W.mg_none_of KX G (by k_is)
    have m_zip : mg "zip" = none := PySem.W.mg_none_of KX G (by k_is)
    have m_sum : mg "sum" = none := PySem.W.mg_none_of KX G (by k_is)
    have m_enumerate : mg "enumerate" = none := PySem.W.mg_none_of KX G (by k_is)
    have m_repr : mg "repr" = none := PySem.W.mg_none_of KX G (by k_is)
    have m_isinstance : mg "isinstance" = none := PySem.W.mg_none_of KX G (by k_is)
    have m_bool : mg "bool" = none := PySem.W.mg_none_of KX G (by k_is)
    have m_all : mg "all" = none := PySem.W.mg_none_of KX G (by k_is)
    have m_sorted : mg "sorted" = none := PySem.W.mg_none_of KX G (by k_is)
    have m_any : mg "any" = none := PySem.W.mg_none_of KX G (by k_is)
    intro base _ _
    obtain ⟨f, fd, F, hm, _, hb⟩ := R.law_all (P := PySem.Challenge.pw_freshtold_k10_whole_true_histories_weave) (w := w) (base := base) T_Store o_PRIMES d_is_ahead d_empty_sum d_times d_given_by d__line_of d__lead_of d__inverse d__less d__cleared d__sifted d_is_integer d_is_house d_is_sum d_is_row d__has_parts d__is_number d_Store___init__ d_Store_tell d_Store_ask d_Store_rows d_is_order d_is_weaving d_answers_by d_first_wrong d_store_at d__answer_of d__law_bag d__law_take d__law_one d__law_mixed d__law_alike d__law_is_int d__law_rest d__law_inverse d__law_plus d__law_flat d__law_echelon d__law_given d__law_comes_to d__law_answer d__law_answers_by d__law_house d__law_sum d__law_sums d__law_deed d__law_world d__law_stretch d__law_history d__law_put d__law_other_answer d__law_is_ahead d__law_is_weaving d__law_is_order d__law_moved d_law m_abs m_int m_len m_list m_range m_tuple m_zip m_sum m_enumerate m_repr m_isinstance m_bool m_all m_sorted m_any
    have e := hmg.symm.trans hm
    cases e
    exact ⟨fd, hb, F⟩

