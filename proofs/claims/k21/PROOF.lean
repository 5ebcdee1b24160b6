import PyProof.Rows.All
import Wide.All
import OpenK.AllK
import Wide.FinOn
import HandS.ForMost
import KE.GoesEnum
import KE.GoesMore
import HandS.SortInts
import HandS.SetFor
import HandS.Strs
import HandS.Style
import HandS.Flow
import HandS.Wide
import HandS.IsInst
import HandS.Defaults
import HandS.EndBits
import HandS.TupAny
import HandS.Property
import HandS.ClsMeth
import HandS.Star
import HandS.Gcd
import HandS.Evl
import HandS.RaiseMore
import KE.KMathGC
import HandS.More
import KE.KOpsOwn
import PySem.Challenge.RW_everyname_k21_whole_spans_changed_in_pla
set_option Elab.async false
set_option linter.all false
set_option maxRecDepth 100000
set_option maxHeartbeats 4000000
/-! zip of two and of three, each a list or a tuple; comprehensions over any iterator -/
namespace ZK
open PySem PySem.Spec PyProof.Rows L2
inductive Kd where | l | t
def SqK (K : PySem.W.Frag) (H : Hp) (a : Addr) (xs : List V) : Kd → Prop
  | .l => SqL K H a xs
  | .t => SqT K H a xs
def IterK (h : Heap) (it a : Addr) (i : Nat) : Kd → Prop
  | .l => h.IsListIter it a i
  | .t => h.IsTupleIter it a i
def ArrK (h : Heap) (a : Addr) (items : Array Value) : Kd → Prop
  | .l => h.IsList a items
  | .t => h.IsTuple a items
def firstO (a : Addr) : Kd → Obj
  | .l => { cls := .type "list_iterator", data := .fields #[.ref a, .int 0 0] }
  | .t => { cls := .type "tuple_iterator", data := .fields #[.ref a, .int 0 0] }
theorem iterK_at {h h' : Heap} {it a : Addr} {i : Nat} : ∀ {k : Kd}, IterK h it a i k → (∀ o, h.get? it = some o → h'.get? it = some o) → IterK h' it a i k
  | .l, x, e => Heap.IsListIter.at x e
  | .t, x, e => Heap.IsTupleIter.at x e
theorem iterK_obj {h : Heap} {it a : Addr} {i : Nat} : ∀ {k : Kd}, IterK h it a i k → ∃ o, h.get? it = some o ∧ ∀ v, o.data ≠ .cell v
  | .l, ⟨o, e, _, d⟩ => ⟨o, e, fun v q => by rw [d] at q; cases q⟩
  | .t, ⟨o, e, _, d⟩ => ⟨o, e, fun v q => by rw [d] at q; cases q⟩
theorem iterK_first {h : Heap} {it a : Addr} : ∀ {k : Kd}, h.get? it = some (firstO a k) → IterK h it a 0 k
  | .l, e => ⟨_, e, rfl, rfl⟩
  | .t, e => ⟨_, e, rfl, rfl⟩
theorem drawsK {prog : Program} {w : World} {A : Around} (hh : A.handled = none) (it a : Addr) (hne : a ≠ it) (items : Array Value) :
    ∀ k : Kd, Draws prog w A it [it, a] items.size (fun i v => items[i]? = some v) (fun i h => IterK h it a i k ∧ ArrK h a items k)
  | .l => Draws.list hh it a hne items
  | .t => Draws.tuple hh it a hne items
theorem beginsK (a : Addr) (items : Array Value) : ∀ k : Kd, Begins (.ref a) (firstO a k) fun h => ArrK h a items k
  | .l => begins_list a items
  | .t => begins_tuple a items
section
variable {X : Cx} {pins : List (Addr × Obj)} {σ : L2.St} {H : Hp} {s : Shared} {a : Addr} {xs ys : List V}
theorem invK (I : Inv X pins σ H s) : ∀ {k : Kd}, SqK X.K H a xs k → ∃ its : List Value, Vals xs its ∧ ArrK s.heap a its.toArray k ∧ xs.length ≤ sizeLine ∧ a < s.heap.objs.size
  | .l, h => by
    obtain ⟨its, r, p, z⟩ := I.list h
    exact ⟨its, r, p.isList, z, p.lt⟩
  | .t, h => by
    obtain ⟨its, r, p, z⟩ := I.tuple h
    exact ⟨its, r, p, z, p.lt⟩
theorem injK (I : Inv X pins σ H s) : ∀ {k : Kd}, SqK X.K H a xs k → SqK X.K H a ys k → xs = ys
  | .l, h, h' => I.list_inj h h'
  | .t, h, h' => I.tuple_inj h h'
end
theorem SqK.same {K : PySem.W.Frag} {H H' : Hp} {a : Addr} {xs : List V} (s : Same H H') : ∀ {k : Kd}, SqK K H a xs k → SqK K H' a xs k
  | .l, h => s.seq h
  | .t, h => by
    rcases h with (h | ⟨o, h⟩) | h
    · exact .inl (.inl (s _ _ h))
    · exact .inl (.inr ⟨o, s _ _ h⟩)
    · exact .inr h

/-! ### zip of two -/
def Itz2 (K : PySem.W.Frag) (k1 k2 : Kd) (a b : Addr) : It :=
  ⟨fun i H => ∃ (xs ys : List V) (x y : V), SqK K H a xs k1 ∧ SqK K H b ys k2 ∧ xs[i]? = some x ∧ ys[i]? = some y,
    fun i H v H' => ∃ T x y, v = .ref T ∧ H T = none ∧ H' = upd H T (.tup [x, y]) ∧ (∀ xs, SqK K H a xs k1 → xs[i]? = some x) ∧ ∀ ys, SqK K H b ys k2 → ys[i]? = some y,
    fun i H => ∃ xs ys : List V, SqK K H a xs k1 ∧ SqK K H b ys k2 ∧ i ≤ xs.length ∧ i ≤ ys.length ∧ (i = xs.length ∨ i = ys.length)⟩
theorem turn_z2 {P : Program} {w : World} {K : PySem.W.Frag} {elts : List Expr} {kk : Nat} {tpos : Pos} {k1 k2 : Kd} {a b z TI TO i1 i2 : Addr} (S : ZipSep2 z TI TO i1 i2 [i1, a] [i2, b]) (n1 : a ≠ i1) (n2 : b ≠ i2) :
    Turn P w K (.Tuple elts kk tpos) (Itz2 K k1 k2 a b) [z, TI, TO, i1, i2] z
      (fun i h => IsZip h z TI TO .none ∧ IsTupOf2 h TI (.ref i1) (.ref i2) ∧ (∃ x y, IsTupOf2 h TO x y) ∧ IterK h i1 a i k1 ∧ IterK h i2 b i k2) where
  mem := by simp
  obj := fun i h st c hc => by
    obtain ⟨hz, hTI, ⟨x, y, hTO⟩, h1, h2⟩ := st
    simp only [List.mem_cons, List.mem_nil_iff, or_false] at hc
    rcases hc with rfl | rfl | rfl | rfl | rfl
    · exact ⟨_, hz, fun v q => nomatch q⟩
    · exact ⟨_, hTI, fun v q => nomatch q⟩
    · exact ⟨_, hTO, fun v q => nomatch q⟩
    · exact iterK_obj h1
    · exact iterK_obj h2
  keep := fun i h h' st k => by
    obtain ⟨hz, hTI, ⟨x, y, hTO⟩, h1, h2⟩ := st
    exact ⟨k z (by simp) _ hz, k TI (by simp) _ hTI, ⟨x, y, k TO (by simp) _ hTO⟩, iterK_at h1 fun o q => k i1 (by simp) o q, iterK_at h2 fun o q => k i2 (by simp) o q⟩
  item := by
    intro X hP hw hK hc i pins s σ H E I hf st hg
    subst hP hw hK
    obtain ⟨hz, hTI, ⟨x0, y0, hTO⟩, h1, h2⟩ := st
    obtain ⟨xs, ys, x, y, qx, qy, hx, hy⟩ := hg
    obtain ⟨its1, rv1, p1, _, _⟩ := invK I qx
    obtain ⟨its2, rv2, p2, _, _⟩ := invK I qy
    obtain ⟨u1, hu1, ru1⟩ := rv1.get hx
    obtain ⟨u2, hu2, ru2⟩ := rv2.get hy
    have hh : X.A.in1.handled = none := I.ok.hd hc
    have l1 : i < its1.toArray.size := by simpa using (List.getElem?_eq_some_iff.mp hu1).1
    have l2 : i < its2.toArray.size := by simpa using (List.getElem?_eq_some_iff.mp hu2).1
    have zlt : z < s.heap.objs.size := Heap.lt_size hz
    refine wpAny_pyNext_zipD2_item S (drawsK hh i1 a n1 its1.toArray k1) (drawsK hh i2 b n2 its2.toArray k2) hz hTI hTO ⟨h1, p1⟩ ⟨h2, p2⟩ l1 l2 fun v1 v2 h' tk pv1 pv2 z' TO' s1 s2 hT hsz hk => ?_
    have e1 : v1 = u1 := by simpa [hu1] using pv1.symm
    have e2 : v2 = u2 := by simpa [hu2] using pv2.symm
    subst e1 e2
    refine ⟨_, rfl, wpAny_letOwnedTupleGo_zip (s := { s with heap := h', toks := tk }) z' fun h'' z'' sb => ?_⟩
    have hT2 := (sb.2 _ (Nat.ne_of_gt zlt)).trans hT
    have new : ObjOk X.prog X.w (upd H s.heap.objs.size (.tup [x, y])) h'' s.heap.objs.size (.tup [x, y]) :=
      ⟨by show 2 ≤ sizeLine; decide, [v1, v2], .cons ru1 (.cons ru2 .nil), ⟨_, hT2, rfl, _, rfl⟩⟩
    have stay : ∀ c o, c ∉ [z, TI, TO, i1, i2] → s.heap.get? c = some o → h''.get? c = some o := fun c o hc q => by
      simp only [List.mem_cons, List.mem_nil_iff, or_false, not_or] at hc
      exact (sb.2 c hc.1).trans (hk c o hc.1 hc.2.2.1 hc.2.2.2.1 hc.2.2.2.2 q)
    have I1 := I.turnedNew (t' := tk) (ch := [z, TI, TO, i1, i2]) stay hf (Nat.le_refl _) new
    refine ⟨.ref s.heap.objs.size, _, I1, rfl, ⟨_, x, y, rfl, I.hok.fresh (Nat.le_refl _), rfl, fun l hl => by rw [injK I hl qx]; exact hx, fun l hl => by rw [injK I hl qy]; exact hy⟩, ⟨z'', ?_, ⟨v1, v2, ?_⟩, ?_, ?_⟩, fun c hcm => ?_⟩
    · exact (sb.2 _ S.TIz).trans (hk _ _ S.TIz S.TITO S.TIi1 S.TIi2 hTI)
    · exact (sb.2 _ S.TOz).trans TO'
    · exact iterK_at s1.1 fun o q => (sb.2 _ S.zi1.symm).trans q
    · exact iterK_at s2.1 fun o q => (sb.2 _ S.zi2.symm).trans q
    · have hlt : c < s.heap.objs.size := by
        simp only [List.mem_cons, List.mem_nil_iff, or_false] at hcm
        rcases hcm with rfl | rfl | rfl | rfl | rfl
        · exact zlt
        · exact Heap.lt_size hTI
        · exact Heap.lt_size hTO
        · obtain ⟨_, e, _⟩ := iterK_obj h1; exact Heap.lt_size e
        · obtain ⟨_, e, _⟩ := iterK_obj h2; exact Heap.lt_size e
      rw [upd_ne (Nat.ne_of_lt hlt)]
      exact (hf c hcm).1
  done := by
    intro X hP hw hK hc i pins s σ H E I hf st hg
    subst hP hw hK
    obtain ⟨hz, hTI, ⟨x0, y0, hTO⟩, h1, h2⟩ := st
    obtain ⟨xs, ys, qx, qy, le1, le2, hend⟩ := hg
    obtain ⟨its1, rv1, p1, _, _⟩ := invK I qx
    obtain ⟨its2, rv2, p2, _, _⟩ := invK I qy
    have hh : X.A.in1.handled = none := I.ok.hd hc
    have e1 := rv1.length
    have e2 := rv2.length
    refine wpAny_pyNext_zipD2_end S (drawsK hh i1 a n1 its1.toArray k1) (drawsK hh i2 b n2 its2.toArray k2) hz hTI hTO ⟨h1, p1⟩ ⟨h2, p2⟩ (by simp; omega) (by simp; omega) (by simp; omega) fun h' tk hk => ⟨rfl, ?_⟩
    refine I.turnedL (t' := tk) (ch := [z, TI, TO, i1, i2]) (fun c o hc q => ?_) hf
    simp only [List.mem_cons, List.mem_nil_iff, or_false, not_or] at hc
    exact hk c o hc.1 hc.2.2.1 hc.2.2.2.1 hc.2.2.2.2 q
  self := fun A i s Q E st h => wpAny_pyIter_zip st.1 h
def iZip2 (K : PySem.W.Frag) (k1 k2 : Kd) (ta : TA) : TI := fun σ H R => ta σ H fun vs H1 => ∃ a b xs ys, vs = [.ref a, .ref b] ∧ SqK K H1 a xs k1 ∧ SqK K H1 b ys k2 ∧ R (Itz2 K k1 k2 a b) H1
theorem pi_zip2 {X : Cx} {e e2 : Expr} {ta : TA} {p pos tpos : Pos} {elts : List Expr} {kk : Nat} (k1 k2 : Kd) (hg : Gl X "zip") (hm : X.mg "zip" = none) (ha : PA X [e, e2] ta)
    (hs : starEach [e, e2] X.env = (false, eval e X.env) :: starEach [e2] X.env := by rfl) (hpl : (backTo pos (starEach [e2] X.env)).any (·.1) = false := by rfl) :
    PI X (.Tuple elts kk tpos) (.Call (.Name "zip" p) [e, e2] [] pos) (iZip2 X.K k1 k2 ta) := by
  refine ⟨fun pins s σ H R I h => ?_⟩
  refine Call_ (ld_blt I hg hm PyProof.Rows.boot_zip (PyProof.Rows.callWith_type1 (thn (ha.run pos pins s σ H _ I h) fun us s1 ⟨vs, H1, I1, r1, q1⟩ => ?_) hs hpl))
  obtain ⟨a, b, xs, ys, ex, qx, qy, q⟩ := q1
  subst ex
  obtain ⟨u1, u2, rfl, ra, rb⟩ := vals2 r1
  cases (show u1 = Value.ref a from ra)
  cases (show u2 = Value.ref b from rb)
  obtain ⟨its1, rv1, p1, _, la⟩ := invK I1 qx
  obtain ⟨its2, rv2, p2, _, lb⟩ := invK I1 qy
  generalize hN : s1.heap.objs.size = N at la lb
  have fresh : ∀ c, c ∈ [N + 4, N + 2, N + 3, N, N + 1] → FpOk X pins H1 c := fun c hc => by
    have hle : s1.heap.objs.size ≤ c := by
      simp only [List.mem_cons, List.mem_nil_iff, or_false] at hc
      omega
    exact I1.fpOk hle (I1.hok.fresh hle)
  refine zip_begins2 (beginsK a its1.toArray k1) (beginsK b its2.toArray k2) p1 p2 fun h' hz hTI hTO g1 g2 hsz hk => wpAny_pyIter_zip hz ?_
  rw [hN] at hz hTI hTO g1 g2 ⊢
  have I2 : Inv X pins σ H1 { s1 with heap := h' } := I1.kept (t' := s1.toks) hk
  exact ⟨N + 4, [N + 4, N + 2, N + 3, N, N + 1], _, _, H1, rfl, I2, turn_z2 (zip_sep2 (fp1 := [a]) (fp2 := [b]) (by simpa using la) (by simpa using lb)) (Nat.ne_of_lt la) (Nat.ne_of_lt (Nat.lt_succ_of_lt lb)), ⟨hz, hTI, ⟨_, _, hTO⟩, iterK_first g1, iterK_first g2⟩, fresh, q⟩

/-! ### comprehensions over any iterator of n turns -/
theorem lc_any {J : It} {g : TG} {tt : TT} {te : TE} {vs : List Nat} {σ : L2.St} {H1 : Hp} {D : Addr} {Qd : Hp → Prop} (n : Nat) (Pv : Nat → Hp → Prop) (h0 : Pv 0 (upd H1 D (.lst [])))
    (hgo : ∀ i H, i < n → Pv i H → J.go i H) (hstop : ∀ H, Pv n H → J.stop n H)
    (hs : ∀ i H x H', i < n → Pv i H → J.yld i H x H' → g x (wipe σ vs) H' fun σ2 H2 => wipe σ2 vs = wipe σ vs ∧ tt σ2 H2 fun b H3 =>
      if b = true then te σ2 H3 fun y H4 => ∃ acc, H4 D = some (.lst acc) ∧ acc.length < sizeLine ∧ Pv (i + 1) (upd H4 D (.lst (acc ++ [y]))) else Pv (i + 1) H3) (hd : ∀ H, Pv n H → Qd H) :
    ∃ W : Nat → Nat → Hp → Prop, (∃ m, W 0 m (upd H1 D (.lst []))) ∧ ∀ i m H, W i m H →
      (J.stop i H ∧ Qd H) ∨ (J.go i H ∧ ∃ Nx : Hp → Prop, (∀ H', Nx H' → ∃ m', m' < m ∧ W (i + 1) m' H') ∧ ∀ x H', J.yld i H x H' → g x (wipe σ vs) H' fun σ2 H2 => wipe σ2 vs = wipe σ vs ∧ tt σ2 H2 fun b H3 =>
        if b = true then te σ2 H3 fun y H4 => ∃ acc, H4 D = some (.lst acc) ∧ acc.length < sizeLine ∧ Nx (upd H4 D (.lst (acc ++ [y]))) else Nx H3) := by
  refine ⟨fun i m H => i + m = n ∧ Pv i H, ⟨n, Nat.zero_add _, h0⟩, fun i m H ⟨e, p⟩ => ?_⟩
  by_cases hi : i < n
  · exact .inr ⟨hgo i H hi p, Pv (i + 1), fun H' p' => ⟨m - 1, by omega, by omega, p'⟩, fun x H' y => hs i H x H' hi p y⟩
  · obtain rfl : i = n := by omega
    exact .inl ⟨hstop H p, hd H p⟩
/-- one new member a turn: R i y is known of the i-th; I i of the heap ahead of turn i -/
theorem lc_grow {J : It} {g : TG} {te : TE} {vs : List Nat} {σ : L2.St} {H1 : Hp} {D : Addr} {Qd : Hp → Prop} (n : Nat) (hn : n < sizeLine) (I : Nat → Hp → Prop) (R : Nat → V → Prop) (h0 : I 0 (upd H1 D (.lst [])))
    (hgo : ∀ i H, i < n → I i H → J.go i H) (hstop : ∀ H, I n H → J.stop n H)
    (hs : ∀ i H x H' acc, i < n → I i H → H D = some (.lst acc) → acc.length = i → (∀ j y, acc[j]? = some y → R j y) → J.yld i H x H' → ∀ Qn : VK,
      (∀ y H4, R i y → H4 D = some (.lst acc) → I (i + 1) (upd H4 D (.lst (acc ++ [y]))) → Qn y H4) → g x (wipe σ vs) H' fun σ2 H2 => wipe σ2 vs = wipe σ vs ∧ te σ2 H2 Qn)
    (hd : ∀ H acc, I n H → H D = some (.lst acc) → acc.length = n → (∀ i y, acc[i]? = some y → R i y) → Qd H) :
    ∃ W : Nat → Nat → Hp → Prop, (∃ m, W 0 m (upd H1 D (.lst []))) ∧ ∀ i m H, W i m H →
      (J.stop i H ∧ Qd H) ∨ (J.go i H ∧ ∃ Nx : Hp → Prop, (∀ H', Nx H' → ∃ m', m' < m ∧ W (i + 1) m' H') ∧ ∀ x H', J.yld i H x H' → g x (wipe σ vs) H' fun σ2 H2 => wipe σ2 vs = wipe σ vs ∧ tYes σ2 H2 fun b H3 =>
        if b = true then te σ2 H3 fun y H4 => ∃ acc, H4 D = some (.lst acc) ∧ acc.length < sizeLine ∧ Nx (upd H4 D (.lst (acc ++ [y]))) else Nx H3) := by
  refine lc_any n (fun i H => I i H ∧ ∃ acc, H D = some (.lst acc) ∧ acc.length = i ∧ ∀ j y, acc[j]? = some y → R j y) ⟨h0, [], upd_same, rfl, fun j y h => by simp at h⟩ (fun i H hi p => hgo i H hi p.1) (fun H p => hstop H p.1) (fun i H x H' hi p y => ?_) (fun H p => ?_)
  · obtain ⟨pI, acc, hD, hl, hR⟩ := p
    have z := hs i H x H' acc hi pI hD hl hR y (fun y H4 => ∃ acc, H4 D = some (.lst acc) ∧ acc.length < sizeLine ∧ I (i + 1) (upd H4 D (.lst (acc ++ [y]))) ∧ ∃ acc', (upd H4 D (.lst (acc ++ [y]))) D = some (.lst acc') ∧ acc'.length = i + 1 ∧ ∀ j y, acc'[j]? = some y → R j y) fun z H4 hr h4 hi4 => by
      refine ⟨acc, h4, by omega, hi4, acc ++ [z], upd_same, by simp [hl], fun j u hj => ?_⟩
      by_cases hja : j < acc.length
      · rw [List.getElem?_append_left hja] at hj
        exact hR j u hj
      · have hj2 : j = i := by
          have := (List.getElem?_eq_some_iff.mp hj).1
          simp at this
          omega
        subst hj2
        rw [List.getElem?_append_right (by omega), hl] at hj
        simp at hj
        rw [← hj]
        exact hr
    have e : ∀ (A : TE) (B : Hp → Prop) (Q : VK), (fun (σ2 : L2.St) (H2 : Hp) => wipe σ2 vs = wipe σ vs ∧ A σ2 H2 Q) = fun σ2 H2 => wipe σ2 vs = wipe σ vs ∧ tYes σ2 H2 fun b H3 => if b = true then A σ2 H3 Q else B H3 := fun A B Q => by
      funext σ2 H2
      simp [tYes]
    rw [e te (fun H3 => I (i + 1) H3 ∧ ∃ acc', H3 D = some (.lst acc') ∧ acc'.length = i + 1 ∧ ∀ j y, acc'[j]? = some y → R j y)] at z
    exact z
  · obtain ⟨pI, acc, hD, hl, hR⟩ := p
    exact hd H acc pI hD hl hR
/-- over range(n) -/
theorem lc_growR {g : TG} {te : TE} {vs : List Nat} {σ : L2.St} {H1 : Hp} {D : Addr} {Qd : Hp → Prop} {lo : Int} (n : Nat) (hn : n < sizeLine) (I : Nat → Hp → Prop) (R : Nat → V → Prop) (h0 : I 0 (upd H1 D (.lst [])))
    (hs : ∀ i H acc, i < n → I i H → H D = some (.lst acc) → acc.length = i → (∀ j y, acc[j]? = some y → R j y) → ∀ Qn : VK,
      (∀ y H4, R i y → H4 D = some (.lst acc) → I (i + 1) (upd H4 D (.lst (acc ++ [y]))) → Qn y H4) → g (.int (lo + i)) (wipe σ vs) H fun σ2 H2 => wipe σ2 vs = wipe σ vs ∧ te σ2 H2 Qn)
    (hd : ∀ H acc, I n H → H D = some (.lst acc) → acc.length = n → (∀ i y, acc[i]? = some y → R i y) → Qd H) :
    ∃ W : Nat → Nat → Hp → Prop, (∃ m, W 0 m (upd H1 D (.lst []))) ∧ ∀ i m H, W i m H →
      ((Itr lo n).stop i H ∧ Qd H) ∨ ((Itr lo n).go i H ∧ ∃ Nx : Hp → Prop, (∀ H', Nx H' → ∃ m', m' < m ∧ W (i + 1) m' H') ∧ ∀ x H', (Itr lo n).yld i H x H' → g x (wipe σ vs) H' fun σ2 H2 => wipe σ2 vs = wipe σ vs ∧ tYes σ2 H2 fun b H3 =>
        if b = true then te σ2 H3 fun y H4 => ∃ acc, H4 D = some (.lst acc) ∧ acc.length < sizeLine ∧ Nx (upd H4 D (.lst (acc ++ [y]))) else Nx H3) := by
  refine lc_grow n hn I R h0 (fun i H hi _ => hi) (fun H _ => Nat.le_refl n) (fun i H x H' acc hi pI hD hl hR y Qn hq => ?_) hd
  obtain ⟨e1, e2⟩ := y
  subst e1 e2
  exact hs i H' acc hi pI hD hl hR Qn hq
/-- over a list that stays -/
theorem lc_growL {K : PySem.W.Frag} {a : Addr} {xs : List V} {g : TG} {te : TE} {vs : List Nat} {σ : L2.St} {H1 : Hp} {D : Addr} {Qd : Hp → Prop} (hn : xs.length < sizeLine) (I : Nat → Hp → Prop) (R : Nat → V → Prop) (h0 : I 0 (upd H1 D (.lst [])))
    (hl : ∀ i H, I i H → SqL K H a xs)
    (hs : ∀ i x H acc, xs[i]? = some x → I i H → H D = some (.lst acc) → acc.length = i → (∀ j y, acc[j]? = some y → R j y) → ∀ Qn : VK,
      (∀ y H4, R i y → H4 D = some (.lst acc) → I (i + 1) (upd H4 D (.lst (acc ++ [y]))) → Qn y H4) → g x (wipe σ vs) H fun σ2 H2 => wipe σ2 vs = wipe σ vs ∧ te σ2 H2 Qn)
    (hd : ∀ H acc, I xs.length H → H D = some (.lst acc) → acc.length = xs.length → (∀ i y, acc[i]? = some y → R i y) → Qd H) :
    ∃ W : Nat → Nat → Hp → Prop, (∃ m, W 0 m (upd H1 D (.lst []))) ∧ ∀ i m H, W i m H →
      ((Itl K a).stop i H ∧ Qd H) ∨ ((Itl K a).go i H ∧ ∃ Nx : Hp → Prop, (∀ H', Nx H' → ∃ m', m' < m ∧ W (i + 1) m' H') ∧ ∀ x H', (Itl K a).yld i H x H' → g x (wipe σ vs) H' fun σ2 H2 => wipe σ2 vs = wipe σ vs ∧ tYes σ2 H2 fun b H3 =>
        if b = true then te σ2 H3 fun y H4 => ∃ acc, H4 D = some (.lst acc) ∧ acc.length < sizeLine ∧ Nx (upd H4 D (.lst (acc ++ [y]))) else Nx H3) := by
  refine lc_grow xs.length hn I R h0 (fun i H hi p => ⟨xs, xs[i], hl i H p, List.getElem?_eq_getElem hi⟩) (fun H p => ⟨xs, hl _ H p, Nat.le_refl _⟩) (fun i H x H' acc hi pI hD hla hR y Qn hq => ?_) hd
  obtain ⟨e1, e2⟩ := y
  subst e1
  exact hs i x H' acc (e2 _ (hl i H' pI)) pI hD hla hR Qn hq
/-- over a tuple that stays -/
theorem lc_growT {K : PySem.W.Frag} {a : Addr} {xs : List V} {g : TG} {te : TE} {vs : List Nat} {σ : L2.St} {H1 : Hp} {D : Addr} {Qd : Hp → Prop} (hn : xs.length < sizeLine) (I : Nat → Hp → Prop) (R : Nat → V → Prop) (h0 : I 0 (upd H1 D (.lst [])))
    (hl : ∀ i H, I i H → SqT K H a xs)
    (hs : ∀ i x H acc, xs[i]? = some x → I i H → H D = some (.lst acc) → acc.length = i → (∀ j y, acc[j]? = some y → R j y) → ∀ Qn : VK,
      (∀ y H4, R i y → H4 D = some (.lst acc) → I (i + 1) (upd H4 D (.lst (acc ++ [y]))) → Qn y H4) → g x (wipe σ vs) H fun σ2 H2 => wipe σ2 vs = wipe σ vs ∧ te σ2 H2 Qn)
    (hd : ∀ H acc, I xs.length H → H D = some (.lst acc) → acc.length = xs.length → (∀ i y, acc[i]? = some y → R i y) → Qd H) :
    ∃ W : Nat → Nat → Hp → Prop, (∃ m, W 0 m (upd H1 D (.lst []))) ∧ ∀ i m H, W i m H →
      ((Itt K a).stop i H ∧ Qd H) ∨ ((Itt K a).go i H ∧ ∃ Nx : Hp → Prop, (∀ H', Nx H' → ∃ m', m' < m ∧ W (i + 1) m' H') ∧ ∀ x H', (Itt K a).yld i H x H' → g x (wipe σ vs) H' fun σ2 H2 => wipe σ2 vs = wipe σ vs ∧ tYes σ2 H2 fun b H3 =>
        if b = true then te σ2 H3 fun y H4 => ∃ acc, H4 D = some (.lst acc) ∧ acc.length < sizeLine ∧ Nx (upd H4 D (.lst (acc ++ [y]))) else Nx H3) := by
  refine lc_grow xs.length hn I R h0 (fun i H hi p => ⟨xs, xs[i], hl i H p, List.getElem?_eq_getElem hi⟩) (fun H p => ⟨xs, hl _ H p, Nat.le_refl _⟩) (fun i H x H' acc hi pI hD hla hR y Qn hq => ?_) hd
  obtain ⟨e1, e2⟩ := y
  subst e1
  exact hs i x H' acc (e2 _ (hl i H' pI)) pI hD hla hR Qn hq
/-- what is known of every member, as an equation of lists -/
theorem eq_map {acc : List V} {n : Nat} {f : Nat → V} (hl : acc.length = n) (h : ∀ i y, acc[i]? = some y → y = f i) : acc = (List.range n).map f := by
  refine List.ext_getElem? fun i => ?_
  by_cases hi : i < n
  · have e : acc[i]? = some acc[i] := List.getElem?_eq_getElem (by omega)
    rw [e, h i _ e]
    simp [hi]
  · have h1 : acc[i]? = none := List.getElem?_eq_none_iff.mpr (by omega)
    have h2 : ((List.range n).map f)[i]? = none := List.getElem?_eq_none_iff.mpr (by rw [List.length_map, List.length_range]; omega)
    rw [h1, h2]
end ZK

namespace EN.M
/-! ### falling products, binomials over all integers -/
def ff (n : Int) : Nat → Int
  | 0 => 1
  | k + 1 => ff n k * (n - k)
def fac : Nat → Int
  | 0 => 1
  | k + 1 => fac k * (k + 1)
theorem fac_pos : ∀ k, 0 < fac k
  | 0 => by decide
  | k + 1 => Int.mul_pos (fac_pos k) (by omega)
theorem ff_up (n : Int) : ∀ k, ff (n + 1) (k + 1) = (n + 1) * ff n k
  | 0 => by simp [ff]
  | k + 1 => by
    have ih := ff_up n k
    rw [ff, ih, ff, Int.mul_assoc]
    have e : n + 1 - ((k + 1 : Nat) : Int) = n - (k : Int) := by omega
    rw [e]
theorem ff_step (n : Int) (k : Nat) : ff (n + 1) (k + 1) = ff n (k + 1) + (k + 1) * ff n k := by
  rw [ff_up, show ff n (k + 1) = ff n k * (n - k) from rfl, Int.mul_comm (ff n k), ← Int.add_mul]
  have e : n - (k : Int) + ((k : Int) + 1) = n + 1 := by omega
  rw [e]
theorem ff_zero : ∀ k, ff 0 (k + 1) = 0
  | 0 => by simp [ff]
  | k + 1 => by rw [ff, ff_zero k, Int.zero_mul]
/-- up and down from 0 -/
theorem int_ind {p : Int → Prop} (h0 : p 0) (up : ∀ n, p n → p (n + 1)) (down : ∀ n, p (n + 1) → p n) : ∀ n, p n := by
  have a : ∀ m : Nat, p (m : Int) := fun m => by
    induction m with
    | zero => exact h0
    | succ m ih => exact up _ ih
  have b : ∀ m : Nat, p (-(m : Int)) := fun m => by
    induction m with
    | zero => exact h0
    | succ m ih =>
      refine down _ ?_
      have e : -((m + 1 : Nat) : Int) + 1 = -(m : Int) := by omega
      rw [e]
      exact ih
  intro n
  by_cases h : 0 ≤ n
  · have := a n.toNat
    rwa [Int.toNat_of_nonneg h] at this
  · have := b (-n).toNat
    rwa [Int.toNat_of_nonneg (by omega), Int.neg_neg] at this
theorem dvd_ff : ∀ (k : Nat) (n : Int), fac k ∣ ff n k
  | 0, n => ⟨1, by simp [ff, fac]⟩
  | k + 1, n => by
    have part : ∀ n : Int, fac (k + 1) ∣ (k + 1) * ff n k := fun n => by
      obtain ⟨q, e⟩ := dvd_ff k n
      exact ⟨q, by rw [e, fac, ← Int.mul_assoc, Int.mul_comm ((k : Int) + 1)]⟩
    refine int_ind (p := fun n => fac (k + 1) ∣ ff n (k + 1)) ⟨0, by rw [ff_zero, Int.mul_zero]⟩ (fun n h => ?_) (fun n h => ?_) n
    · rw [ff_step]
      exact Int.dvd_add h (part n)
    · rw [ff_step] at h
      exact (Int.dvd_add_left (part n)).mp h
def C (n : Int) (k : Nat) : Int := ff n k / fac k
theorem C_mul (n : Int) (k : Nat) : C n k * fac k = ff n k := Int.ediv_mul_cancel (dvd_ff k n)
theorem fac_cancel {k : Nat} {a b : Int} (h : a * fac k = b * fac k) : a = b := Int.eq_of_mul_eq_mul_right (Int.ne_of_gt (fac_pos k)) h
theorem C_zero (n : Int) : C n 0 = 1 := by simp [C, ff, fac]
theorem C_rec (n : Int) (k : Nat) : C n (k + 1) * (k + 1) = C n k * (n - k) := by
  refine fac_cancel (k := k) ?_
  rw [Int.mul_assoc, Int.mul_comm ((k : Int) + 1), show fac k * ((k : Int) + 1) = fac (k + 1) from rfl, C_mul, ff, ← C_mul n k, Int.mul_right_comm]
theorem C_next (n : Int) (k : Nat) : C n k * (n - k) / ((k : Int) + 1) = C n (k + 1) := by
  rw [← C_rec]
  exact Int.mul_ediv_cancel _ (by omega)
theorem pascal (n : Int) (k : Nat) : C (n + 1) (k + 1) = C n (k + 1) + C n k := by
  refine fac_cancel (k := k + 1) ?_
  rw [Int.add_mul, C_mul, C_mul, ff_step, show fac (k + 1) = fac k * ((k : Int) + 1) from rfl, ← Int.mul_assoc, C_mul, Int.mul_comm (ff n k)]
theorem C_at0 (k : Nat) : C 0 (k + 1) = 0 := by rw [C, ff_zero, Int.zero_ediv]
/-! ### rows -/
def valF : Nat → List Int → Int → Int
  | _, [], _ => 0
  | j, a :: r, n => a * C n j + valF (j + 1) r n
def val (r : List Int) (n : Int) : Int := valF 0 r n
theorem valF_step : ∀ (r : List Int) (j : Nat) (n : Int), valF (j + 1) r (n + 1) = valF (j + 1) r n + valF j r n
  | [], j, n => rfl
  | a :: r, j, n => by
    rw [valF, valF, valF, valF_step r (j + 1) n, pascal, Int.mul_add]
    omega
theorem valF_at0 : ∀ (r : List Int) (j : Nat), valF (j + 1) r 0 = 0
  | [], _ => rfl
  | a :: r, j => by rw [valF, C_at0, Int.mul_zero, valF_at0 r (j + 1), Int.zero_add]
theorem val_cons (a : Int) (r : List Int) (n : Int) : val (a :: r) n = a + valF 1 r n := by
  show a * C n 0 + valF 1 r n = _
  rw [C_zero, Int.mul_one]
theorem valF1_step (r : List Int) (n : Int) : valF 1 r (n + 1) = valF 1 r n + val r n := valF_step r 0 n
/-! ### through values -/
def diffs : List Int → List Int
  | a :: b :: r => (b - a) :: diffs (b :: r)
  | _ => []
theorem diffs_len : ∀ l : List Int, (diffs l).length = l.length - 1
  | [] => rfl
  | [_] => rfl
  | a :: b :: r => by
    have ih := diffs_len (b :: r)
    rw [diffs, List.length_cons, ih]
    simp
theorem diffs_get : ∀ (l : List Int) (k : Nat) (x y : Int), l[k]? = some x → l[k + 1]? = some y → (diffs l)[k]? = some (y - x)
  | [], k, x, y, h, _ => by simp at h
  | [a], k, x, y, h, h2 => by simp at h2
  | a :: b :: r, 0, x, y, h, h2 => by
    simp at h h2
    simp [diffs, h, h2]
  | a :: b :: r, k + 1, x, y, h, h2 => by
    have ih := diffs_get (b :: r) k x y (by simpa using h) (by simpa using h2)
    simpa [diffs] using ih
def thrN : Nat → List Int → List Int
  | m + 1, a :: r => a :: thrN m (diffs (a :: r))
  | _, _ => []
def thr (l : List Int) : List Int := thrN l.length l
theorem thr_nil : thr [] = [] := rfl
theorem thr_cons (a : Int) (r : List Int) : thr (a :: r) = a :: thr (diffs (a :: r)) := by
  show a :: thrN r.length (diffs (a :: r)) = a :: thrN (diffs (a :: r)).length (diffs (a :: r))
  rw [diffs_len]
  rfl
theorem thr_len (l : List Int) : (thr l).length = l.length := by
  have h : ∀ m (l : List Int), l.length = m → (thr l).length = m := by
    intro m
    induction m with
    | zero => intro l h; cases l with
      | nil => rfl
      | cons a r => simp at h
    | succ m ih => intro l h; cases l with
      | nil => simp at h
      | cons a r =>
        rw [thr_cons, List.length_cons, ih _ (by rw [diffs_len, h]; rfl)]
  exact h _ l rfl
theorem thr_val (l : List Int) : ∀ k : Nat, k < l.length → l[k]? = some (val (thr l) (k : Int)) := by
  have h : ∀ m (l : List Int), l.length = m → ∀ k : Nat, k < m → l[k]? = some (val (thr l) (k : Int)) := by
    intro m
    induction m with
    | zero => intro l h k hk; omega
    | succ m ih => intro l h; cases l with
      | nil => simp at h
      | cons a r =>
        intro k
        induction k with
        | zero =>
          intro _
          rw [thr_cons, val_cons, show ((0 : Nat) : Int) = 0 from rfl, valF_at0, Int.add_zero]
          rfl
        | succ k ihk =>
          intro hk
          have h1 := ihk (by omega)
          have hd := ih (diffs (a :: r)) (by rw [diffs_len, h]; rfl) k (by omega)
          obtain ⟨y, hy⟩ : ∃ y, (a :: r)[k + 1]? = some y := ⟨_, List.getElem?_eq_getElem (by omega)⟩
          have h2 := diffs_get _ k _ _ h1 hy
          rw [h2] at hd
          rw [hy]
          have e := Option.some.inj hd
          rw [thr_cons, val_cons] at e ⊢
          rw [show ((k + 1 : Nat) : Int) = (k : Int) + 1 from rfl, valF1_step, ← e]
          congr 1
          omega
  exact h _ l rfl
theorem row_unique : ∀ (r r' : List Int), r.length = r'.length → (∀ k : Nat, k < r.length → val r (k : Int) = val r' (k : Int)) → r = r'
  | [], [], _, _ => rfl
  | [], _ :: _, h, _ => by simp at h
  | _ :: _, [], h, _ => by simp at h
  | a :: r, b :: s, h, hv => by
    have h0 := hv 0 (by simp)
    rw [val_cons, val_cons, show ((0 : Nat) : Int) = 0 from rfl, valF_at0, valF_at0, Int.add_zero, Int.add_zero] at h0
    subst h0
    have hl : r.length = s.length := by simpa using h
    congr 1
    refine row_unique r s hl fun k hk => ?_
    have h1 := hv k (by rw [List.length_cons]; omega)
    have h2 := hv (k + 1) (by rw [List.length_cons]; omega)
    rw [val_cons, val_cons] at h1 h2
    rw [show ((k + 1 : Nat) : Int) = (k : Int) + 1 from rfl, valF1_step, valF1_step] at h2
    omega
def vals (f : Int → Int) (m : Nat) : List Int := (List.range m).map fun k : Nat => f (k : Int)
theorem vals_len (f : Int → Int) (m : Nat) : (vals f m).length = m := by simp [vals]
theorem vals_get (f : Int → Int) (m k : Nat) (h : k < m) : (vals f m)[k]? = some (f (k : Int)) := by
  simp [vals, h]
theorem thr_vals (r : List Int) : thr (vals (val r) r.length) = r := by
  refine row_unique _ _ (by rw [thr_len, vals_len]) fun k hk => ?_
  rw [thr_len, vals_len] at hk
  have h := thr_val (vals (val r) r.length) k (by rw [vals_len]; exact hk)
  rw [vals_get _ _ _ hk] at h
  exact (Option.some.inj h).symm
theorem vals_congr {f g : Int → Int} {m : Nat} (h : ∀ k : Nat, k < m → f (k : Int) = g (k : Int)) : vals f m = vals g m := by
  unfold vals
  exact List.map_congr_left fun k hk => h k (List.mem_range.mp hk)
/-! ### ahead -/
def ah : List Int → Int → List Int
  | [], _ => []
  | a :: r, k => val (a :: r) k :: ah r k
theorem ah_len (k : Int) : ∀ r : List Int, (ah r k).length = r.length
  | [] => rfl
  | a :: r => by rw [ah, List.length_cons, ah_len k r, List.length_cons]
theorem ah_val (k : Int) : ∀ (r : List Int) (n : Int), val (ah r k) n = val r (n + k)
  | [], n => rfl
  | a :: r, n => by
    have ih := ah_val k r
    rw [ah, val_cons, val_cons, val_cons]
    refine int_ind (p := fun n => a + valF 1 r k + valF 1 (ah r k) n = a + valF 1 r (n + k)) ?_ (fun n h => ?_) (fun n h => ?_) n
    · rw [valF_at0, Int.zero_add, Int.add_zero]
    · rw [valF1_step, ih, show n + 1 + k = n + k + 1 by omega, valF1_step]
      omega
    · rw [valF1_step, ih, show n + 1 + k = n + k + 1 by omega, valF1_step] at h
      omega
theorem ah_get (k : Int) : ∀ (r : List Int) (j : Nat), j < r.length → (ah r k)[j]? = some (val (r.drop j) k)
  | [], j, h => by simp at h
  | a :: r, 0, h => rfl
  | a :: r, j + 1, h => by
    have ih := ah_get k r j (by simpa using h)
    simpa [ah] using ih
theorem ah_eq (r : List Int) (k : Int) : (List.range r.length).map (fun j => val (r.drop j) k) = ah r k := by
  refine List.ext_getElem? fun j => ?_
  by_cases h : j < r.length
  · rw [ah_get k r j h]
    simp [h]
  · have h1 : (ah r k)[j]? = none := List.getElem?_eq_none_iff.mpr (by rw [ah_len]; omega)
    rw [h1]
    simp; omega
/-! ### without the zeros at the end -/
def cutN (r : List Int) : Nat → Nat
  | 0 => 0
  | e + 1 => if r[e]? = some 0 then cutN r e else e + 1
def cut (r : List Int) : List Int := r.take (cutN r r.length)
theorem cutN_le (r : List Int) : ∀ e, cutN r e ≤ e
  | 0 => Nat.le_refl _
  | e + 1 => by
    unfold cutN
    split
    · exact Nat.le_succ_of_le (cutN_le r e)
    · exact Nat.le_refl _
theorem valF_append : ∀ (r s : List Int) (j : Nat) (n : Int), valF j (r ++ s) n = valF j r n + valF (j + r.length) s n
  | [], s, j, n => by simp [valF]
  | a :: r, s, j, n => by
    rw [List.cons_append, valF, valF, valF_append r s (j + 1) n, List.length_cons, show j + 1 + r.length = j + (r.length + 1) by omega]
    omega
theorem val_take (r : List Int) (n : Int) : ∀ e, e ≤ r.length → val (r.take (cutN r e)) n = val (r.take e) n
  | 0, _ => rfl
  | e + 1, h => by
    unfold cutN
    split
    · rename_i z
      rw [val_take r n e (by omega)]
      have hx : e < r.length := by omega
      rw [List.take_succ_eq_append_getElem hx, val, val, valF_append]
      have e0 : r[e] = 0 := by
        rw [List.getElem?_eq_getElem hx] at z
        exact Option.some.inj z
      rw [e0]
      simp [valF]
    · rfl
theorem cut_val (r : List Int) (n : Int) : val (cut r) n = val r n := by
  rw [cut, val_take r n _ (Nat.le_refl _), List.take_length]
/-! ### the falling product as a row -/
def fallRow (m : Nat) : List Int := List.replicate m 0 ++ [fac m]
theorem valF_zeros (n : Int) : ∀ (m j : Nat), valF j (List.replicate m 0) n = 0
  | 0, _ => rfl
  | m + 1, j => by rw [List.replicate_succ, valF, valF_zeros n m (j + 1), Int.zero_mul, Int.zero_add]
theorem fall_val (m : Nat) (n : Int) : val (fallRow m) n = ff n m := by
  rw [fallRow, val, valF_append, valF_zeros, List.length_replicate]
  show 0 + (fac m * C n (0 + m) + 0) = _
  rw [Nat.zero_add, Int.zero_add, Int.add_zero, Int.mul_comm, C_mul]
theorem fall_len (m : Nat) : (fallRow m).length = m + 1 := by simp [fallRow]
/-! ### what the law wishes -/
theorem through_law (vs : List Int) (o : Int) : cut (ah (thr vs) (-o)) = cut (thr (vals (fun n => val (cut (thr vs)) (n - o)) vs.length)) := by
  have h : vals (fun n => val (cut (thr vs)) (n - o)) vs.length = vals (val (ah (thr vs) (-o))) (ah (thr vs) (-o)).length := by
    rw [ah_len, thr_len]
    refine vals_congr fun k _ => ?_
    rw [ah_val, cut_val]
    rfl
  rw [h, thr_vals]
theorem through_back (vs : List Int) (o : Int) (k : Nat) (h : k < vs.length) : vs[k]? = some (val (cut (ah (thr vs) (-o))) (o + k)) := by
  rw [cut_val, ah_val, show o + (k : Int) + -o = (k : Int) by omega]
  exact thr_val vs k h
theorem falling_law (m : Nat) (o : Int) : cut (ah (fallRow m) (-o)) = cut (thr (vals (fun n => ff (n - o) m) (m + 1))) := by
  have h : vals (fun n => ff (n - o) m) (m + 1) = vals (val (ah (fallRow m) (-o))) (ah (fallRow m) (-o)).length := by
    rw [ah_len, fall_len]
    refine vals_congr fun k _ => ?_
    rw [ah_val, fall_val]
    rfl
  rw [h, thr_vals]
end EN.M

namespace EN
open PySem L2 PyProof.Rows
def top (i : Nat) : Stmt := PySem.Challenge.pw_everyname_k21_whole_spans_changed_in_pla.main.body.getD i (.Pass ⟨0, 0, 0, 0⟩)

/-! ### a def by its module name -/
/-- the module's x is a def that keeps the promise sp by level k -/
structure Has (P : Program) (w : World) (K : PySem.W.Frag) (mg : Str → Option Value) (base : Heap) (k : Nat) (x : Str) (ps : List Str) (sp : Sp) : Prop where
  ex : ∃ (f : Addr) (fd : FuncData), FnOk P w K mg base CX0 k f fd ps sp ∧ mg x = some (.ref f) ∧ PySem.W.keepIn K (.ref f) = true ∧ Binds K fd ps []
section
variable {X : Cx} {k : Nat} {x : Str} {ps : List Str} {sp : Sp} {p pos : Pos} {e : Expr} {es : List Expr} {t : TA}
theorem pe_has (O : Has X.prog X.w X.K X.mg X.base k x ps sp) (hr : Room k X.A) (ha : PA X (e :: es) t) (hg : Gl X x := by rfl) (hdb : (x == ("__debug__" : Str)) = false := by decide)
    (he : starEach (e :: es) X.env = (false, eval e X.env) :: starEach es X.env := by rfl) (hpl : (backTo pos (starEach es X.env)).any (·.1) = false := by rfl) :
    PE X (.Call (.Name x p) (e :: es) [] pos) (tCall sp [] E0 t) := by
  obtain ⟨f, fd, F, hm, hk, hb⟩ := O.ex
  exact pe_call F hr hg hm hk hb .nil pass0 ha hdb he hpl
end

/-! ### built-ins whose reading names the written part -/
def rLenQ (K : PySem.W.Frag) : List V → Hp → VK → Prop := fun xs H Q => ∃ p ys, xs = [.ref p] ∧ (SqL K H p ys ∨ SqT K H p ys) ∧ Q (.int ys.length) H
theorem c_len {X : Cx} : CallR X (.builtin "len") (rLenQ X.K) := call_len_seq
def rListQ (K : PySem.W.Frag) : List V → Hp → VK → Prop := fun xs H Q => ∃ p ys, xs = [.ref p] ∧ (SqL K H p ys ∨ SqT K H p ys) ∧ ∀ l, H l = none → Q (.ref l) (upd H l (.lst ys))
theorem c_list {X : Cx} : CallR X (.type "list") (rListQ X.K) := call_list_of
def rTupQ (K : PySem.W.Frag) : List V → Hp → VK → Prop := fun xs H Q => ∃ p ys, xs = [.ref p] ∧ ((SqL K H p ys ∧ ∀ l, H l = none → Q (.ref l) (upd H l (.tup ys))) ∨ (SqT K H p ys ∧ Q (.ref p) H))
theorem c_tuple {X : Cx} : CallR X (.type "tuple") (rTupQ X.K) := call_tuple_of

/-! ### heaps -/
/-- what stood stands, but at p -/
def But (p : Addr) (H H' : Hp) : Prop := ∀ b o, H b = some o → b ≠ p → H' b = some o
theorem But.refl (p : Addr) (H : Hp) : But p H H := fun _ _ h _ => h
theorem But.trans {p : Addr} {H H1 H2 : Hp} (a : But p H H1) (b : But p H1 H2) : But p H H2 := fun c o h n => b c o (a c o h n) n
theorem But.upd {p : Addr} {H H1 : Hp} (a : But p H H1) (u : HO) : But p H (upd H1 p u) := fun c o h n => by
  rw [upd_ne n]; exact a c o h n
theorem But.new {p q : Addr} {H H1 : Hp} (a : But p H H1) (u : HO) (hq : H1 q = none) : But p H (L2.upd H1 q u) := fun c o h n => by
  rw [upd_ne (ne_of_none (a c o h n) hq)]; exact a c o h n
theorem same_but {p : Addr} {H H' : Hp} (a : Same H H') : But p H H' := fun c o h _ => a c o h
theorem same_new {q : Addr} {H H1 : Hp} (a : Same H H1) (u : HO) (hq : H1 q = none) : Same H (upd H1 q u) := fun c o h => by
  rw [upd_ne (ne_of_none (a c o h) hq)]; exact a c o h

/-- an object that came later is changed -/
theorem same_but_new {q : Addr} {H H1 : Hp} {u : HO} (a : Same H H1) (hq : H q = none) : Same H (upd H1 q u) := fun c o h => by
  rw [upd_ne (ne_of_none h hq)]; exact a c o h
theorem but_new {p q : Addr} {H H1 : Hp} {u : HO} (a : But p H H1) (hq : H q = none) : But p H (upd H1 q u) := fun c o h n => by
  rw [upd_ne (ne_of_none h hq)]; exact a c o h n

/-! ### the pen -/
abbrev kC : Key := Sum.inr "cells"
abbrev kB : Key := Sum.inr "begun"
abbrev kR : Key := Sum.inr "rest"
def penO (c : Addr) (b r : Int) : HO := .dK [(kC, .ref c), (kB, .int b), (kR, .int r)]
theorem pen_c (c : Addr) (b r : Int) : valV [(kC, V.ref c), (kB, .int b), (kR, .int r)] kC = some (.ref c) := by simp [valV]
theorem pen_b (c : Addr) (b r : Int) : valV [(kC, V.ref c), (kB, .int b), (kR, .int r)] kB = some (.int b) := by
  rw [valV_neg (show ¬ (kC = kB) by decide +kernel), valV_pos rfl]
theorem pen_r (c : Addr) (b r : Int) : valV [(kC, V.ref c), (kB, .int b), (kR, .int r)] kR = some (.int r) := by
  rw [valV_neg (show ¬ (kC = kR) by decide +kernel), valV_neg (show ¬ (kB = kR) by decide +kernel), valV_pos rfl]
theorem pen_pb (c : Addr) (b r : Int) (y : V) : putK [(kC, V.ref c), (kB, .int b), (kR, .int r)] kB y = [(kC, V.ref c), (kB, y), (kR, .int r)] := by
  have h1 : ¬ (kC = kB) := by decide +kernel
  have h2 : ¬ (kR = kB) := by decide +kernel
  unfold putK
  simp [h1, h2]
theorem pen_pr (c : Addr) (b r : Int) (y : V) : putK [(kC, V.ref c), (kB, .int b), (kR, .int r)] kR y = [(kC, V.ref c), (kB, .int b), (kR, y)] := by
  have h1 : ¬ (kC = kR) := by decide +kernel
  have h2 : ¬ (kB = kR) := by decide +kernel
  unfold putK
  simp [h1, h2]
/-- the pen at p over the cells ns at c; at most B cells were begun -/
structure Pen (H : Hp) (p c : Addr) (ns : List Int) (B : Nat) : Prop where
  at_ : ∃ b r : Int, H p = some (penO c b r) ∧ 0 ≤ b ∧ b ≤ B ∧ 0 ≤ r
  cells : H c = some (.lst (ns.map V.int))
  few : ns.length ≤ 63
  small : B ≤ 1000000000
theorem Pen.ne {H : Hp} {p c : Addr} {ns : List Int} {B : Nat} (h : Pen H p c ns B) : c ≠ p := by
  obtain ⟨b, r, e, _⟩ := h.at_
  exact ne_of h.cells e (by intro z; cases z)
theorem Pen.more {H : Hp} {p c : Addr} {ns : List Int} {B B' : Nat} (h : Pen H p c ns B) (hb : B ≤ B') (hs : B' ≤ 1000000000) : Pen H p c ns B' := by
  obtain ⟨b, r, e, h0, h1, h2⟩ := h.at_
  exact ⟨⟨b, r, e, h0, by omega, h2⟩, h.cells, h.few, hs⟩
/-- other objects may come, or change -/
theorem Pen.stay {H H' : Hp} {p c : Addr} {ns : List Int} {B : Nat} (h : Pen H p c ns B) (hp : H' p = H p) (hc : H' c = H c) : Pen H' p c ns B := by
  obtain ⟨b, r, e, z⟩ := h.at_
  exact ⟨⟨b, r, hp.trans e, z⟩, hc.trans h.cells, h.few, h.small⟩
theorem Pen.same {H H' : Hp} {p c : Addr} {ns : List Int} {B : Nat} (h : Pen H p c ns B) (s : Same H H') : Pen H' p c ns B := by
  obtain ⟨b, r, e, z⟩ := h.at_
  exact ⟨⟨b, r, s _ _ e, z⟩, s _ _ h.cells, h.few, h.small⟩
theorem Pen.new {H : Hp} {p c q : Addr} {ns : List Int} {B : Nat} {u : HO} (h : Pen H p c ns B) (hq : H q = none) : Pen (upd H q u) p c ns B := by
  obtain ⟨b, r, e, z⟩ := h.at_
  exact h.stay (upd_ne (ne_of_none e hq)) (upd_ne (ne_of_none h.cells hq))
theorem Pen.nep {H : Hp} {p c q : Addr} {ns : List Int} {B : Nat} (h : Pen H p c ns B) (hq : H q = none) : q ≠ p := by
  obtain ⟨b, r, e, z⟩ := h.at_
  exact (ne_of_none e hq).symm
theorem Pen.nec {H : Hp} {p c q : Addr} {ns : List Int} {B : Nat} (h : Pen H p c ns B) (hq : H q = none) : q ≠ c := (ne_of_none h.cells hq).symm

/-! ### the promises of the pen -/
def spPen (K : PySem.W.Frag) : Sp := fun vs H Q _ => ∃ (a : Addr) (ns : List Int), vs = [.ref a] ∧ SqL K H a (ns.map V.int) ∧ ns.length ≤ 63 ∧
  ∀ (p c : Addr) (H' : Hp), Same H H' → H p = none → H c = none → Pen H' p c ns 0 → Q (.ref p) H'
def spDraw : Sp := fun vs H Q _ => ∃ (p c : Addr) (ns : List Int) (B : Nat) (m : Int), vs = [.ref p, .int m] ∧ Pen H p c ns B ∧ B < 1000000000 ∧ 0 < m ∧ m.natAbs < 2 ^ 8000 ∧
  ∀ (d : Int) (H' : Hp), 0 ≤ d → d < m → Pen H' p c ns (B + 1) → But p H H' → Q (.int d) H'
/-- what the walk asks of the built-in names -/
structure Blt (mg : Str → Option Value) : Prop where
  list_ : mg "list" = none
  len_ : mg "len" = none
  int_ : mg "int" = none
  abs_ : mg "abs" = none
  range_ : mg "range" = none
  tuple_ : mg "tuple" = none
  isinstance_ : mg "isinstance" = none
  bool_ : mg "bool" = none
  all_ : mg "all" = none
  sum_ : mg "sum" = none
  zip_ : mg "zip" = none
  min_ : mg "min" = none
  sorted_ : mg "sorted" = none
  any_ : mg "any" = none
  set_ : mg "set" = none
  max_ : mg "max" = none
  str_ : mg "str" = none
  enumerate_ : mg "enumerate" = none
  reversed_ : mg "reversed" = none
  dict_ : mg "dict" = none
end EN

namespace EN
open PySem L2 PyProof.Rows
section
variable {P : Program} {w : World} {K : PySem.W.Frag} {mg : Str → Option Value} {base : Heap} {f : Addr} {fd : FuncData}
theorem sqT_same {H H' : Hp} {a : Addr} {xs : List V} (s : Same H H') (h : SqT K H a xs) : SqT K H' a xs := ZK.SqK.same (k := .t) s h
theorem sqL_but {H H' : Hp} {p a : Addr} {xs : List V} (s : But p H H') (np : ∀ o, H p = some o → o ≠ .lst xs ∧ ∀ u, o ≠ .frz u (.lst xs)) (h : SqL K H a xs) : SqL K H' a xs := by
  rcases h with (h | ⟨o, h⟩) | h
  · refine .inl (.inl (s _ _ h fun e => ?_))
    subst e
    exact (np _ h).1 rfl
  · refine .inl (.inr ⟨o, s _ _ h fun e => ?_⟩)
    subst e
    exact (np _ h).2 o rfl
  · exact .inr h
theorem sqT_but {H H' : Hp} {p a : Addr} {xs : List V} (s : But p H H') (np : ∀ o, H p = some o → o ≠ .tup xs ∧ ∀ u, o ≠ .frz u (.tup xs)) (h : SqT K H a xs) : SqT K H' a xs := by
  rcases h with (h | ⟨o, h⟩) | h
  · refine .inl (.inl (s _ _ h fun e => ?_))
    subst e
    exact (np _ h).1 rfl
  · refine .inl (.inr ⟨o, s _ _ h fun e => ?_⟩)
    subst e
    exact (np _ h).2 o rfl
  · exact .inr h
theorem Pen.sqL {H H' : Hp} {p c a : Addr} {ns : List Int} {B : Nat} {xs : List V} (P : Pen H p c ns B) (s : But p H H') (h : SqL K H a xs) : SqL K H' a xs := by
  obtain ⟨b, r, e, _⟩ := P.at_
  exact sqL_but s (fun o z => by rw [e] at z; cases z; exact ⟨(by intro q; cases q), (by intro u q; cases q)⟩) h
theorem Pen.sqT {H H' : Hp} {p c a : Addr} {ns : List Int} {B : Nat} {xs : List V} (P : Pen H p c ns B) (s : But p H H') (h : SqT K H a xs) : SqT K H' a xs := by
  obtain ⟨b, r, e, _⟩ := P.at_
  exact sqT_but s (fun o z => by rw [e] at z; cases z; exact ⟨(by intro q; cases q), (by intro u q; cases q)⟩) h
theorem tyx_lst {H : Hp} {a : Addr} {xs : List V} (h : SqL K H a xs) : TyX K H (.ref a) (.type "list") := by
  rcases h with (h | ⟨o, h⟩) | ⟨o, its, n, e, c, _⟩
  · exact .base (.lst h)
  · exact .base (.frz h)
  · exact .kList e c
theorem tyx_tup {H : Hp} {a : Addr} {xs : List V} (h : SqT K H a xs) : TyX K H (.ref a) (.type "tuple") := by
  rcases h with (h | ⟨o, h⟩) | ⟨o, its, n, e, c, _⟩
  · exact .base (.tup h)
  · exact .fTuple h
  · exact .kTuple e c
theorem look1 {f : Str} {v : V} : List.lookup f [(f, v)] = some v := by simp [List.lookup]
theorem get_int {r : List Int} {e : Nat} (h : e < r.length) : (r.map V.int)[e]? = some (.int (r.getD e 0)) ∧ r[e]? = some (r.getD e 0) := by
  rw [List.getElem?_map, List.getElem?_eq_getElem h, List.getD_eq_getElem?_getD, List.getElem?_eq_getElem h]
  exact ⟨rfl, rfl⟩
theorem sqT_upd {H : Hp} {t x C dx : Addr} {fs : List (Str × V)} {xs : List V} {o : HO} (h : SqT K H t xs) (hx : H x = some (.ins C dx fs)) : SqT K (upd H x o) t xs :=
  sqT_but (p := x) (fun b u e n => by rw [upd_ne n]; exact e) (fun u e => by rw [hx] at e; cases e; exact ⟨(by intro q; cases q), (by intro u q; cases q)⟩) h
theorem all_true (n : Nat) : ((List.range n).map fun _ => true).all id = true := by simp
end
end EN

namespace EN
open PySem L2 PyProof.Rows
section
variable {P : Program} {w : World} {K : PySem.W.Frag} {mg : Str → Option Value} {base : Heap} {f : Addr} {fd : FuncData}
abbrev s_pen : Stmt := top 25
abbrev N_pen : List Str := ["_law_script"]
theorem sc_pen : FnScope N_pen ["_law_script"] (defScope s_pen) := ⟨rfl, rfl, rfl, by decide +kernel, rfl, by decide +kernel, by decide +kernel⟩

theorem cut63 {xs : List V} (h : xs.length ≤ 63) : cutV xs none (some 63) = xs := by
  unfold cutV
  rw [show HT.sIx xs.length 0 none = 0 from rfl, show (63 : Int) = ((63 : Nat) : Int) from rfl, HT.sIx_nat, List.drop_zero, Nat.sub_zero, Nat.min_eq_right h, List.take_length]
theorem pen_mk (c : Addr) : mergeK [] [(kC, V.ref c), (kB, .int 0), (kR, .int 0)] = [(kC, V.ref c), (kB, .int 0), (kR, .int 0)] := by
  have h1 : ¬ (kC = kB) := by decide +kernel
  have h2 : ¬ (kC = kR) := by decide +kernel
  have h3 : ¬ (kB = kR) := by decide +kernel
  simp [mergeK, putK, h1, h2, h3]
theorem ok_pen (F : Fun K "_law_pen" "_law_pen" s_pen f fd) (T : Blt mg) : FnOk P w K mg base CX0 1 f fd ["_law_script"] (spPen K) := by
  refine F.ok sc_pen (fun vs H Q E h => ?_) (fun cdv A outer s H vs Q E hr h => ?_)
  · obtain ⟨a, ns, rfl, _⟩ := h
    rfl
  · obtain ⟨a, ns, rfl, hS, hl, k⟩ := h
    have hu := hu_of hr
    refine ⟨_, (pss_one (ps_ret (pe_disp (pps_cons pe_str (pe_callTy (show CallR _ _ (rListQ K) from c_list) (by rfl) T.list_ (by decide +kernel) (pa_cons (pe_slice (show SlR _ (rSlL K) from sl_list) (pv 0) po_none (po_some pe_int)) pa_nil)) (pps_cons pe_str pe_int (pps_cons pe_str pe_int pps_nil))) (by rfl) (by rfl) (fun z => by cases z) (by decide)))), ?_⟩
    intro p hp
    have s1 : Same H (upd H p (.dK [])) := same_new (Same.refl H) _ hp
    refine ⟨_, rfl, _, rfl, a, _, rfl, s1.seq hS, fun q hq => ?_⟩
    refine ⟨q, _, rfl, .inl (SqL.of upd_same), fun c hc => ?_⟩
    have ec := cut63 (xs := ns.map V.int) (by rw [List.length_map]; exact hl)
    rw [ec] at hc ⊢
    have npq : p ≠ q := ne_of_none upd_same hq
    have npc : p ≠ c := ne_of_none (by rw [upd_ne npq]; exact upd_same) hc
    have nqc : q ≠ c := ne_of_none upd_same hc
    refine ⟨by rw [upd_ne npc, upd_ne npq, upd_same], [(kC, V.ref c), (kB, .int 0), (kR, .int 0)], rfl, (by show 3 ≤ 15; decide), ?_⟩
    rw [pen_mk]
    refine k p c _ (fun b o e => ?_) hp ?_ ⟨⟨0, 0, upd_same, Int.le_refl _, by decide, Int.le_refl _⟩, by rw [upd_ne npc.symm, upd_same], hl, by decide⟩
    · have nb : b ≠ p := ne_of_none e hp
      have e1 := s1 b o e
      rw [upd_ne nb]
      exact same_new (same_new (Same.refl _) _ hq) _ hc b o e1
    · have e1 : (upd H p (HO.dK [])) c = none := (same_new (Same.refl _) _ hq).free hc
      exact s1.free e1
end
end EN

namespace EN
open PySem L2 PyProof.Rows
section
variable {P : Program} {w : World} {K : PySem.W.Frag} {mg : Str → Option Value} {base : Heap} {f : Addr} {fd : FuncData}
abbrev s_draw : Stmt := top 26
abbrev N_draw : List Str := ["_law_pen_here", "_law_many", "_law_digit", "_law_spot", "_law_size", "_law_cell", "_law_stir"]
theorem sc_draw : FnScope N_draw ["_law_pen_here", "_law_many"] (defScope s_draw) := ⟨rfl, rfl, rfl, by decide +kernel, rfl, by decide +kernel, by decide +kernel⟩

/-! sizes of numbers -/
theorem lt_wide {x : Int} {n : Nat} (h : x.natAbs < 2 ^ n) : x.natAbs.log2 < n + 1 := by
  by_cases z : x.natAbs = 0
  · rw [z]
    exact Nat.succ_pos n
  · exact Nat.lt_succ_of_lt ((Nat.log2_lt z).mpr h)
theorem mulW {i j : Int} (a b : Nat) (ha : i.natAbs < 2 ^ a) (hb : j.natAbs < 2 ^ b) (h : a + b ≤ 999990) : CMulW i j := by
  have h1 := lt_wide ha
  have h2 := lt_wide hb
  show i.natAbs.log2 + j.natAbs.log2 < 1000000
  omega
theorem divW {i j : Int} (b : Nat) (h : 0 < j) (hb : j.natAbs < 2 ^ b) (h9 : b ≤ 8990) : CDivW i j := ⟨h, by have := lt_wide hb; omega⟩
theorem pm {x y : Int} (h : 0 < y) : (fun _ j : Int => 0 < j) x y := h
theorem add_small {x : Int} (h : x.natAbs < 2 ^ 32) : (x + 32771).natAbs < 2 ^ 33 := by omega
theorem at_some {xs : List Int} {i : Int} (h0 : 0 ≤ i) (h1 : i < xs.length) : ∃ z, atI (xs.map V.int) i = some (V.int z) := by
  obtain ⟨n, rfl⟩ := Int.eq_ofNat_of_zero_le h0
  have hn : n < xs.length := by omega
  exact ⟨xs[n], atI_nat (by rw [List.getElem?_map, List.getElem?_eq_getElem hn]; rfl)⟩
theorem ok_draw (F : Fun K "_law_draw" "_law_draw" s_draw f fd) (T : Blt mg) : FnOk P w K mg base CX0 1 f fd ["_law_pen_here", "_law_many"] spDraw := by
  refine F.ok sc_draw (fun vs H Q E h => ?_) (fun cdv A outer s H vs Q E hr h => ?_)
  · obtain ⟨p, c, ns, B, m, rfl, _⟩ := h
    rfl
  · obtain ⟨p, c, ns, B, m, rfl, hP, hB, hm, hmb, k⟩ := h
    have hu := hu_of hr
    obtain ⟨b, r, e, hb0, hbB, hr0⟩ := hP.at_
    have ncp := hP.ne
    refine ⟨_, (pss_cons (ps_if (pt_cmpR op_gt (pe_dget hu (pv 0) pe_str (fun _ _ => rfl)) pe_int (nomark _))
      (pss_cons (ps_set (i := 2) sc_draw.nd rfl (Or.inl rfl) (pe_op op_mod (pe_callTy call_int1 (by rfl) T.int_ (by decide +kernel) (pa_cons (pe_dget hu (pv 0) pe_str (fun _ _ => rfl)) pa_nil)) (pv 1)))
      (pss_cons (ps_dput hu (pv 0) pe_str (pe_op op_fdivW (pe_dget hu (pv 0) pe_str (fun _ _ => rfl)) (pv 1)) rfl)
      (pss_one (ps_ret (pv 2)))))
      pss_nil)
    (pss_cons (ps_par (i := 3) (j := 4) (by rfl) sc_draw.nd rfl rfl (by decide) rfl rfl (pa_cons (pe_dget hu (pv 0) pe_str (fun _ _ => rfl)) (pa_cons (pe_callB (show CallR _ _ (rLenQ K) from c_len) (by rfl) T.len_ (by decide +kernel) (pa_cons (pe_dget hu (pv 0) pe_str (fun _ _ => rfl)) pa_nil)) pa_nil)) (by rfl))
    (pss_cons (ps_dput hu (pv 0) pe_str (pe_op op_add (pv 3) pe_int) rfl)
    (pss_cons (ps_set (i := 5) sc_draw.nd rfl (Or.inl rfl) (pe_op op_add (pe_op op_mulW pe_int (pv 3)) pe_int))
    (Evl.pss_cut (ps_if (pt_cmpR op_gt (pv 4) pe_int (nomark _))
      (pss_one (ps_set (i := 5) sc_draw.nd rfl (Or.inl rfl) (pe_ix (show IxR _ (rIxL K) from ix_list) (pe_dget hu (pv 0) pe_str (fun _ _ => rfl)) (pe_op op_mod (pe_callTy call_int1 (by rfl) T.int_ (by decide +kernel) (pa_cons (pv 3) pa_nil)) (pv 4)) (fun _ _ => rfl))))
      pss_nil)
    (Evl.pss_cut (ps_if (PW.pt (pw_and (pt_cmpR op_lt (pv 3) (pv 4) (nomark _)) (pw_and1 (pt_cmpR op_ge (pe_callB call_abs (by rfl) T.abs_ (by decide +kernel) (pa_cons (pv 5) pa_nil)) (pe_op op_pow pe_int pe_int) (nomark _)))))
      (pss_cons (ps_dput hu (pv 0) pe_str (pe_op op_fdivW (pe_op op_sub (pe_callB call_abs (by rfl) T.abs_ (by decide +kernel) (pa_cons (pv 5) pa_nil)) (pe_op op_pow pe_int pe_int)) (pv 1)) rfl)
      (pss_one (ps_ret (pe_op op_mod (pe_op op_sub (pe_callB call_abs (by rfl) T.abs_ (by decide +kernel) (pa_cons (pv 5) pa_nil)) (pe_op op_pow pe_int pe_int)) (pv 1)))))
      pss_nil)
    (pss_cons (ps_set (i := 6) sc_draw.nd rfl (Or.inl rfl) (pe_op op_mod (pe_callTy call_int1 (by rfl) T.int_ (by decide +kernel) (pa_cons (pe_op op_add (pe_op op_add (pe_op op_mulW (pe_op op_mod (pe_callTy call_int1 (by rfl) T.int_ (by decide +kernel) (pa_cons (pv 5) pa_nil)) pe_int) pe_int) (pe_op op_mulW (pe_op op_mulW pe_int (pv 3)) (pv 3))) pe_int) pa_nil)) pe_int))
    (pss_cons (ps_set (i := 6) sc_draw.nd rfl (Or.inl rfl) (pe_op op_mod (pe_callTy call_int1 (by rfl) T.int_ (by decide +kernel) (pa_cons (pe_op op_add (pe_op op_add (pe_op op_add (pe_op op_mulW (pv 6) (pv 6)) (pe_op op_mulW pe_int (pv 6))) (pe_op op_mulW pe_int (pv 3))) pe_int) pa_nil)) pe_int))
    (pss_cons (ps_set (i := 6) sc_draw.nd rfl (Or.inl rfl) (pe_op op_fdivW (pe_op op_mod (pe_callTy call_int1 (by rfl) T.int_ (by decide +kernel) (pa_cons (pe_op op_mulW (pv 6) (pe_op op_add (pv 6) pe_int)) pa_nil)) pe_int) pe_int))
    (pss_one (ps_ret (pe_op op_mod (pe_callTy call_int1 (by rfl) T.int_ (by decide +kernel) (pa_cons (pv 6) pa_nil)) (pv 1))))))))))))), ?_⟩
    have gC : ∀ {H : Hp} {b r : Int}, H p = some (penO c b r) → DGet H p (.str "cells") (some (.ref c)) := fun e => by
      have z := DGet.k (k := kC) e
      rw [pen_c] at z
      exact z
    have gB : ∀ {H : Hp} {b r : Int}, H p = some (penO c b r) → DGet H p (.str "begun") (some (.int b)) := fun e => by
      have z := DGet.k (k := kB) e
      rw [pen_b] at z
      exact z
    have gR : ∀ {H : Hp} {b r : Int}, H p = some (penO c b r) → DGet H p (.str "rest") (some (.int r)) := fun e => by
      have z := DGet.k (k := kR) e
      rw [pen_r] at z
      exact z
    have pB : ∀ {H : Hp} {b r : Int} (y : Int), H p = some (penO c b r) → DPut H p (.str "begun") (.int y) (upd H p (penO c y r)) := fun y e => by
      have z := DPut.k (k := kB) (v := .int y) e (by show 3 < sizeLine; decide)
      rw [pen_pb] at z
      exact z
    have pR : ∀ {H : Hp} {b r : Int} (y : Int), H p = some (penO c b r) → DPut H p (.str "rest") (.int y) (upd H p (penO c b y)) := fun y e => by
      have z := DPut.k (k := kR) (v := .int y) e (by show 3 < sizeLine; decide)
      rw [pen_pr] at z
      exact z
    have cut : CDivW r m := divW 8000 hm hmb (by decide)
    -- if rest > 0
    refine ⟨_, rfl, p, _, rfl, gR e, _, _, rfl, rfl, _, rfl, ?_⟩
    refine ite2 (fun h1 => ?_) (fun h1 => ?_)
    · -- the digit
      refine ⟨_, rfl, p, _, rfl, gR e, .inl ⟨_, rfl, _, rfl, _, _, rfl, rfl, hm, ?_⟩⟩
      refine ⟨_, rfl, p, _, rfl, gR e, _, rfl, _, _, rfl, rfl, divW 8000 hm hmb (by decide), _, rfl, p, _, rfl, pR _ e, _, rfl, ?_⟩
      refine k _ _ (Int.emod_nonneg _ (by omega)) (Int.emod_lt_of_pos _ hm) ⟨⟨_, _, upd_same, hb0, by omega, Int.ediv_nonneg hr0 (by omega)⟩, by rw [upd_ne ncp]; exact hP.cells, hP.few, by omega⟩ ((But.refl _ _).upd _)
    · -- a new cell
      have hl := hP.few
      refine ⟨_, rfl, p, _, rfl, gB e, _, rfl, p, _, rfl, gC e, c, _, rfl, .inl (SqL.of hP.cells), _, _, rfl, ?_⟩
      refine ⟨_, rfl, _, _, rfl, rfl, _, rfl, p, _, rfl, pB _ e, ?_⟩
      have e1 : (upd H p (penO c (b + 1) r)) p = some (penO c (b + 1) r) := upd_same
      have hc1 : (upd H p (penO c (b + 1) r)) c = some (.lst (ns.map V.int)) := by rw [upd_ne ncp]; exact hP.cells
      generalize hH1 : upd H p (penO c (b + 1) r) = H1 at e1 hc1 ⊢
      have but1 : But p H H1 := by rw [← hH1]; exact (But.refl _ _).upd _
      have bnd : b.natAbs < 2 ^ 30 := by omega
      refine ⟨_, rfl, _, _, rfl, rfl, mulW 10 30 (by decide) bnd (by decide), _, _, rfl, rfl, ?_⟩
      -- the cell
      rw [List.length_map]
      refine ⟨fun σ H' => H1 = H' ∧ ∃ cell : Int, σ = [some (.ref p), some (.int m), none, some (.int b), some (.int (ns.length : Int)), some (.int cell), none], ?_, ?_⟩
      · refine ⟨_, rfl, _, _, rfl, rfl, _, rfl, ?_⟩
        refine ite2 (fun h2 => ?_) (fun h2 => ?_)
        · have h3 : 0 < (ns.length : Int) := of_decide_eq_true h2
          obtain ⟨z, hz⟩ := at_some (xs := ns) (i := b % (ns.length : Int)) (Int.emod_nonneg _ (by omega)) (Int.emod_lt_of_pos _ h3)
          exact ⟨_, rfl, p, _, rfl, gC e1, _, rfl, .inl ⟨_, rfl, _, rfl, _, _, rfl, rfl, h3, c, _, _, _, rfl, rfl, SqL.of hc1, hz, rfl, z, rfl⟩⟩
        · exact ⟨rfl, _, rfl⟩
      · rintro _ _ ⟨rfl, cell, rfl⟩
        have pen1 : Pen H1 p c ns (B + 1) := ⟨⟨_, _, e1, by omega, by omega, hr0⟩, hc1, hl, by omega⟩
        refine ⟨fun σ H' => H1 = H' ∧ σ = [some (.ref p), some (.int m), none, some (.int b), some (.int (ns.length : Int)), some (.int cell), none], ?_, ?_⟩
        · refine ⟨_, rfl, _, rfl, _, _, rfl, rfl, _, rfl, ?_⟩
          refine ite2 (fun h2 => ?_) (fun h2 => ⟨rfl, rfl⟩)
          refine ⟨_, rfl, cell, rfl, 10, 18, rfl, rfl, ⟨by decide, by decide, by decide⟩, _, _, rfl, rfl, _, rfl, ?_⟩
          refine ite2 (fun h4 => ?_) (fun h4 => ⟨rfl, rfl⟩)
          have h5 : (10 : Int) ^ (18 : Int).toNat ≤ (if cell < 0 then -cell else cell) := of_decide_eq_true h4
          refine ⟨_, rfl, cell, rfl, 10, 18, rfl, rfl, ⟨by decide, by decide, by decide⟩, _, _, rfl, rfl, _, rfl, _, _, rfl, rfl, divW 8000 hm hmb (by decide), _, rfl, p, _, rfl, pR _ e1, ?_⟩
          refine ⟨_, rfl, cell, rfl, 10, 18, rfl, rfl, ⟨by decide, by decide, by decide⟩, _, _, rfl, rfl, _, rfl, _, _, rfl, rfl, hm, ?_⟩
          exact k _ _ (Int.emod_nonneg _ (by omega)) (Int.emod_lt_of_pos _ hm) ⟨⟨_, _, upd_same, by omega, by omega, Int.ediv_nonneg (by omega) (by omega)⟩, by rw [upd_ne ncp]; exact hc1, hl, by omega⟩ (but1.upd _)
        · rintro _ _ ⟨rfl, rfl⟩
          -- the stir
          have m1 : ∀ x y : Int, 0 < y → y < 2 ^ 32 → (x % y).natAbs < 2 ^ 32 := fun x y h0 h1 => by
            have := Int.emod_nonneg x (show y ≠ 0 by omega)
            have := Int.emod_lt_of_pos x h0
            omega
          have M : ∀ x y : Int, 0 < y → y < 2 ^ 32 → (x % y).natAbs < 2 ^ 32 := m1
          refine ⟨_, rfl, .inl ⟨_, rfl, _, _, rfl, rfl, (show (0 : Int) < 4294967231 by decide), _, _, rfl, rfl, mulW 32 16 (M _ _ (by decide) (by decide)) (by decide) (by decide), _, rfl, _, _, rfl, rfl, mulW 16 30 (by decide) bnd (by decide), _, rfl, _, _, rfl, rfl, mulW 46 30 ?_ bnd (by decide), _, _, rfl, rfl, _, _, rfl, rfl, .inl ⟨_, rfl, _, _, rfl, rfl, (show (0 : Int) < 4294967279 by decide), ?_⟩⟩⟩
          · rw [Int.natAbs_mul]
            exact Nat.lt_of_lt_of_le (Nat.mul_lt_mul_of_le_of_lt (Nat.le_refl _) bnd (by decide)) (by decide)
          refine ⟨_, rfl, _, rfl, _, _, rfl, rfl, mulW 32 32 (M _ _ (by decide) (by decide)) (M _ _ (by decide) (by decide)) (by decide), _, rfl, _, _, rfl, rfl, mulW 17 32 (by decide) (M _ _ (by decide) (by decide)) (by decide), _, _, rfl, rfl, _, rfl, _, _, rfl, rfl, mulW 5 30 (by decide) bnd (by decide), _, _, rfl, rfl, _, _, rfl, rfl, .inl ⟨_, rfl, _, _, rfl, rfl, (show (0 : Int) < 4294967291 by decide), ?_⟩⟩
          refine ⟨_, rfl, _, rfl, _, _, rfl, rfl, _, _, rfl, rfl, mulW 32 33 (M _ _ (by decide) (by decide)) (add_small (M _ _ (by decide) (by decide))) (by decide), .inl ⟨_, rfl, _, _, rfl, rfl, (show (0 : Int) < 4294967197 by decide), _, _, rfl, rfl, divW 7 (by decide) (by decide) (by decide), ?_⟩⟩
          refine ⟨_, rfl, .inl ⟨_, rfl, _, rfl, _, _, rfl, rfl, hm, ?_⟩⟩
          exact k _ _ (Int.emod_nonneg _ (by omega)) (Int.emod_lt_of_pos _ hm) pen1 but1
end
end EN

namespace EN
open PySem L2 PyProof.Rows
section
variable {P : Program} {w : World} {K : PySem.W.Frag} {mg : Str → Option Value} {base : Heap} {f : Addr} {fd : FuncData}
/-! ### sizes of numbers -/
def Sz (b : Nat) (x : Int) : Prop := x.natAbs < 2 ^ b
theorem Sz.mono {a b : Nat} {x : Int} (h : Sz a x) (hab : a ≤ b) : Sz b x := Nat.lt_of_lt_of_le h (Nat.pow_le_pow_right (by decide) hab)
theorem Sz.add {a : Nat} {x y : Int} (h : Sz a x) (g : Sz a y) : Sz (a + 1) (x + y) := by
  unfold Sz at *
  have := Int.natAbs_add_le x y
  rw [Nat.pow_succ]
  omega
theorem Sz.neg {a : Nat} {x : Int} (h : Sz a x) : Sz a (-x) := by
  unfold Sz at *
  rwa [Int.natAbs_neg]
theorem Sz.sub {a : Nat} {x y : Int} (h : Sz a x) (g : Sz a y) : Sz (a + 1) (x - y) := by
  have := h.add g.neg
  rwa [← Int.sub_eq_add_neg] at this
theorem Sz.mul {a b : Nat} {x y : Int} (h : Sz a x) (g : Sz b y) : Sz (a + b) (x * y) := by
  unfold Sz at *
  rw [Int.natAbs_mul, Nat.pow_add]
  exact Nat.mul_lt_mul_of_lt_of_le h (Nat.le_of_lt g) (Nat.two_pow_pos b)
theorem Sz.mulOk {a b : Nat} {x y : Int} (h : Sz a x) (g : Sz b y) (hab : a + b ≤ 999990) : CMulW x y := mulW a b h g hab
theorem Sz.le {a : Nat} {x : Int} {m : Nat} (h0 : x.natAbs ≤ m) (hm : m < 2 ^ a) : Sz a x := Nat.lt_of_le_of_lt h0 hm
theorem Sz.div {a : Nat} {x y : Int} (h : Sz a x) : Sz a (x / y) := by
  unfold Sz at *
  exact Nat.lt_of_le_of_lt (Int.natAbs_ediv_le_natAbs x y) h

/-! ### promises -/
def spPick (K : PySem.W.Frag) : Sp := fun vs H Q _ => ∃ (p c : Addr) (ns : List Int) (B : Nat) (l : Addr) (xs : List V), vs = [.ref p, .ref l] ∧ Pen H p c ns B ∧ B < 1000000000 ∧ (SqL K H l xs ∨ SqT K H l xs) ∧ 0 < xs.length ∧ xs.length ≤ 1000 ∧
  ∀ x ∈ xs, ∀ H' : Hp, Pen H' p c ns (B + 1) → But p H H' → Q x H'
def spWhole : Sp := fun vs H Q _ => ∃ i : Int, vs = [.int i] ∧ Q (.bl true) H
def spGreat : Sp := fun vs H Q _ => ∃ (p c : Addr) (ns : List Int) (B : Nat) (m : Int), vs = [.ref p, .int m] ∧ Pen H p c ns B ∧ B + 20 ≤ 1000000000 ∧ 0 < m ∧ Sz 300 m ∧
  ∀ (d : Int) (H' : Hp), 0 ≤ d → d < m → Pen H' p c ns (B + 20) → But p H H' → Q (.int d) H'
def spInteger : Sp := fun vs H Q _ => ∃ (p c : Addr) (ns : List Int) (B : Nat), vs = [.ref p] ∧ Pen H p c ns B ∧ B + 30 ≤ 1000000000 ∧
  ∀ (z : Int) (H' : Hp), Sz 200 z → Pen H' p c ns (B + 30) → But p H H' → Q (.int z) H'
def spFar : Sp := fun vs H Q _ => ∃ (p c : Addr) (ns : List Int) (B : Nat), vs = [.ref p] ∧ Pen H p c ns B ∧ B + 30 ≤ 1000000000 ∧
  ∀ (z : Int) (H' : Hp), 0 ≤ z → Sz 340 z → Pen H' p c ns (B + 30) → But p H H' → Q (.int z) H'
end
end EN

namespace EN
open PySem L2 PyProof.Rows
section
variable {P : Program} {w : World} {K : PySem.W.Frag} {mg : Str → Option Value} {base : Heap} {f : Addr} {fd : FuncData}
def spIsWhole : Sp := fun vs H Q _ => ∃ i : Int, vs = [.int i] ∧ Q (.bl true) H
def spCheckWhole : Sp := fun vs H Q _ => ∃ i : Int, vs = [.int i] ∧ Q .non H
def spCheckFrom : Sp := fun vs H Q _ => ∃ i b : Int, vs = [.int i, .int b] ∧ b ≤ i ∧ Q .non H
abbrev SeqI (K : PySem.W.Frag) (H : Hp) (a : Addr) (r : List Int) : Prop := SqL K H a (r.map V.int) ∨ SqT K H a (r.map V.int)
def spCheckWholes (K : PySem.W.Frag) : Sp := fun vs H Q _ => ∃ (a : Addr) (r : List Int), vs = [.ref a] ∧ SeqI K H a r ∧ r.length ≤ 1000 ∧ ∀ H' : Hp, Same H H' → Q .non H'
def spChooses : Sp := fun vs H Q _ => ∃ (n : Int) (m : Nat), vs = [.int n, .int (m : Int)] ∧ m ≤ 16 ∧ Sz 400 n ∧ ∀ (l : Addr) (H' : Hp), Same H H' → H l = none → H' l = some (.lst (((List.range m).map fun k => M.C n k).map V.int)) → Q (.ref l) H'
def spRowValue (K : PySem.W.Frag) : Sp := fun vs H Q _ => ∃ (a : Addr) (r : List Int) (n : Int), vs = [.ref a, .int n] ∧ SqT K H a (r.map V.int) ∧ r.length ≤ 12 ∧ (∀ x ∈ r, Sz 9000 x) ∧ Sz 400 n ∧ ∀ H' : Hp, Same H H' → Q (.int (M.val r n)) H'
theorem int_at {r : List Int} {i : Nat} {x : V} (h : (r.map V.int)[i]? = some x) : i < r.length ∧ x = V.int (r.getD i 0) := by
  rw [List.getElem?_map] at h
  cases e : r[i]? with
  | none => rw [e] at h; cases h
  | some j =>
    rw [e] at h
    refine ⟨(List.getElem?_eq_some_iff.mp e).1, ?_⟩
    rw [List.getD_eq_getElem?_getD, e]
    exact (Option.some.inj h).symm
end
end EN

/-! stretches: plain mathematics -/
namespace MS
abbrev Str2 := Int × Option Int
def inS (p : Str2) (n : Int) : Bool := decide (p.1 ≤ n) && (match p.2 with | none => true | some h => decide (n ≤ h))
def inL (S : List Str2) (n : Int) : Bool := S.any fun p => inS p n
def paired : List Int → List Str2
  | [] => []
  | [a] => [(a, none)]
  | a :: b :: r => (a, some (b - 1)) :: paired r
/-- the points at which f is not what it was at the point ahead -/
def scan (f : Int → Bool) : Bool → List Int → List Int
  | _, [] => []
  | b, p :: r => if b = f p then scan f (f p) r else p :: scan f (f p) r
def Up (t : List Int) : Prop := t.Pairwise (· < ·)
theorem up_eq : ∀ {s t : List Int}, Up s → Up t → (∀ n, n ∈ s ↔ n ∈ t) → s = t
  | [], [], _, _, _ => rfl
  | [], b :: t, _, _, h => absurd ((h b).mpr List.mem_cons_self) (by simp)
  | a :: s, [], _, _, h => absurd ((h a).mp List.mem_cons_self) (by simp)
  | a :: s, b :: t, hs, ht, h => by
    obtain ⟨hs1, hs2⟩ := List.pairwise_cons.mp hs
    obtain ⟨ht1, ht2⟩ := List.pairwise_cons.mp ht
    have e : a = b := by
      rcases List.mem_cons.mp ((h a).mp List.mem_cons_self) with e | e
      · exact e
      · rcases List.mem_cons.mp ((h b).mpr List.mem_cons_self) with e2 | e2
        · exact e2.symm
        · have := ht1 a e
          have := hs1 b e2
          omega
    subst e
    rw [up_eq hs2 ht2 fun n => ⟨fun z => ?_, fun z => ?_⟩]
    · rcases List.mem_cons.mp ((h n).mp (List.mem_cons_of_mem _ z)) with e | e
      · have := hs1 n z
        omega
      · exact e
    · rcases List.mem_cons.mp ((h n).mpr (List.mem_cons_of_mem _ z)) with e | e
      · have := ht1 n z
        omega
      · exact e
/-- t are the turns of f from 0 on -/
structure Turns (f : Int → Bool) (t : List Int) : Prop where
  up : Up t
  mem : ∀ n, n ∈ t ↔ f n ≠ f (n - 1)
theorem Turns.eq {f : Int → Bool} {s t : List Int} (a : Turns f s) (b : Turns f t) : s = t := up_eq a.up b.up fun n => (a.mem n).trans (b.mem n).symm
/-- between two points without a turn f stays -/
theorem stays {f : Int → Bool} {a : Int} : ∀ k : Nat, (∀ n, a < n → n ≤ a + k → f n = f (n - 1)) → f (a + k) = f a
  | 0, _ => by simp
  | k + 1, h => by
    have e := h (a + ((k + 1 : Nat) : Int)) (by omega) (by omega)
    rw [e, show a + ((k + 1 : Nat) : Int) - 1 = a + (k : Int) by omega]
    exact stays k fun n h1 h2 => h n h1 (by omega)
theorem stays' {f : Int → Bool} {a b : Int} (hab : a ≤ b) (h : ∀ n, a < n → n ≤ b → f n = f (n - 1)) : f b = f a := by
  obtain ⟨k, rfl⟩ : ∃ k : Nat, b = a + k := ⟨(b - a).toNat, by omega⟩
  exact stays k h
theorem scan_sub (f : Int → Bool) : ∀ (r : List Int) (b : Bool) (n : Int), n ∈ scan f b r → n ∈ r
  | [], _, _, h => by simp [scan] at h
  | p :: r, b, n, h => by
    unfold scan at h
    split at h
    · exact List.mem_cons_of_mem _ (scan_sub f r _ n h)
    · rcases List.mem_cons.mp h with e | e
      · rw [e]; exact List.mem_cons_self
      · exact List.mem_cons_of_mem _ (scan_sub f r _ n e)
theorem scan_up (f : Int → Bool) : ∀ (r : List Int) (b : Bool), Up r → Up (scan f b r)
  | [], _, _ => List.Pairwise.nil
  | p :: r, b, h => by
    obtain ⟨h1, h2⟩ := List.pairwise_cons.mp h
    unfold scan
    split
    · exact scan_up f r _ h2
    · exact List.pairwise_cons.mpr ⟨fun n hn => h1 n (scan_sub f r _ n hn), scan_up f r _ h2⟩
/-- the scan finds the turns, if f turns at the points alone -/
theorem scan_mem (f : Int → Bool) : ∀ (r : List Int) (a : Int), Up r → (∀ n ∈ r, a < n) → (∀ n, a < n → f n ≠ f (n - 1) → n ∈ r) → ∀ n, n ∈ scan f (f a) r ↔ a < n ∧ f n ≠ f (n - 1)
  | [], a, _, _, h, n => by
    simp only [scan, List.not_mem_nil, false_iff]
    rintro ⟨h1, h2⟩
    exact absurd (h n h1 h2) (by simp)
  | p :: r, a, hu, ha, h, n => by
    obtain ⟨h1, h2⟩ := List.pairwise_cons.mp hu
    have hp : a < p := ha p List.mem_cons_self
    have ep : f (p - 1) = f a := stays' (by omega) fun m hm1 hm2 => by
      by_cases e : f m = f (m - 1)
      · exact e
      · rcases List.mem_cons.mp (h m hm1 e) with q | q
        · omega
        · have := h1 m q
          omega
    have ih := scan_mem f r p h2 h1 (fun m hm e => by
      rcases List.mem_cons.mp (h m (by omega) e) with q | q
      · omega
      · exact q) n
    have gap : ∀ m, a < m → m < p → f m = f (m - 1) := fun m hm1 hm2 => by
      by_cases e : f m = f (m - 1)
      · exact e
      · rcases List.mem_cons.mp (h m hm1 e) with q | q
        · omega
        · have := h1 m q
          omega
    unfold scan
    split
    · rename_i e
      rw [ih]
      constructor
      · rintro ⟨q1, q2⟩
        exact ⟨by omega, q2⟩
      · rintro ⟨q1, q2⟩
        refine ⟨?_, q2⟩
        by_cases q : p < n
        · exact q
        · exfalso
          by_cases q3 : n = p
          · subst q3
            exact q2 (by rw [ep, e])
          · exact q2 (gap n q1 (by omega))
    · rename_i e
      rw [List.mem_cons, ih]
      constructor
      · rintro (q | ⟨q1, q2⟩)
        · subst q
          exact ⟨hp, by rw [ep]; exact fun z => e z.symm⟩
        · exact ⟨by omega, q2⟩
      · rintro ⟨q1, q2⟩
        by_cases q : p < n
        · exact .inr ⟨q, q2⟩
        · by_cases q3 : n = p
          · exact .inl q3
          · exact absurd (gap n q1 (by omega)) q2
theorem scan_turns {f : Int → Bool} {ps : List Int} (hf : ∀ n, n < 0 → f n = false) (hu : Up ps) (h0 : ∀ n ∈ ps, 0 ≤ n) (h : ∀ n, f n ≠ f (n - 1) → n ∈ ps) : Turns f (scan f false ps) := by
  refine ⟨scan_up f ps false hu, fun n => ?_⟩
  have e := scan_mem f ps (-1) hu (fun m hm => by have := h0 m hm; omega) (fun m _ e => h m e) n
  rw [hf (-1) (by omega)] at e
  rw [e]
  refine ⟨fun z => z.2, fun z => ⟨?_, z⟩⟩
  have := h0 n (h n z)
  omega
/-- the turns up to n, their parity -/
def par (t : List Int) (n : Int) : Bool := decide ((t.filter fun m => decide (m ≤ n)).length % 2 = 1)
theorem paired_par : ∀ (t : List Int) (n : Int), Up t → inL (paired t) n = par t n
  | [], n, _ => rfl
  | [a], n, _ => by
    simp only [paired, inL, List.any_cons, List.any_nil, Bool.or_false, inS, Bool.and_true, par, List.filter_cons, List.filter_nil]
    by_cases h : a ≤ n <;> simp [h]
  | a :: b :: r, n, hu => by
    obtain ⟨h1, h2⟩ := List.pairwise_cons.mp hu
    obtain ⟨h3, h4⟩ := List.pairwise_cons.mp h2
    have hab := h1 b List.mem_cons_self
    have ih := paired_par r n h4
    have out : n < b → (r.filter fun m => decide (m ≤ n)) = [] := fun hn => List.filter_eq_nil_iff.mpr fun m hm => by
      have := h3 m hm
      simp
      omega
    show (inS (a, some (b - 1)) n || inL (paired r) n) = par (a :: b :: r) n
    rw [ih]
    simp only [inS, par, List.filter_cons]
    by_cases ha : a ≤ n
    · by_cases hb : b ≤ n
      · have : ¬ n ≤ b - 1 := by omega
        simp only [ha, hb, this, decide_true, decide_false, Bool.and_false, Bool.false_or, if_true, List.length_cons]
        congr 1
        exact propext ⟨fun z => by omega, fun z => by omega⟩
      · have : n ≤ b - 1 := by omega
        rw [out (by omega)]
        simp [ha, hb, this]
    · have hb : ¬ b ≤ n := by omega
      rw [out (by omega)]
      simp [ha, hb]
theorem filter_step (n : Int) : ∀ t : List Int, Up t → (t.filter fun m => decide (m ≤ n)).length = (t.filter fun m => decide (m ≤ n - 1)).length + (if n ∈ t then 1 else 0)
  | [], _ => rfl
  | a :: t, hu => by
    obtain ⟨h1, h2⟩ := List.pairwise_cons.mp hu
    have ih := filter_step n t h2
    simp only [List.filter_cons, List.mem_cons]
    by_cases e : n = a
    · subst e
      have no : n ∉ t := fun z => by have := h1 n z; omega
      rw [if_neg no] at ih
      have c1 : decide (n ≤ n) = true := by simp
      have c2 : decide (n ≤ n - 1) = false := by simp; omega
      rw [c1, c2, if_pos rfl, if_neg Bool.false_ne_true, if_pos (.inl rfl), List.length_cons, ih]
    · by_cases q : a ≤ n - 1
      · have c1 : decide (a ≤ n) = true := by simp; omega
        have c2 : decide (a ≤ n - 1) = true := by simp; omega
        rw [c1, c2, if_pos rfl, if_pos rfl, List.length_cons, List.length_cons, ih]
        by_cases z : n ∈ t <;> simp [e, z] <;> omega
      · have c1 : decide (a ≤ n) = false := by simp; omega
        have c2 : decide (a ≤ n - 1) = false := by simp; omega
        rw [c1, c2, if_neg Bool.false_ne_true, if_neg Bool.false_ne_true, ih]
        by_cases z : n ∈ t <;> simp [e, z]
theorem par_turns {f : Int → Bool} {t : List Int} (T : Turns f t) (hf : ∀ n, n < 0 → f n = false) (n : Int) : par t n = f n := by
  have neg : ∀ n, n < 0 → par t n = false := fun n hn => by
    have e : (t.filter fun m => decide (m ≤ n)) = [] := List.filter_eq_nil_iff.mpr fun m hm => by
      have := (T.mem m).mp hm
      have h0 : 0 ≤ m := by
        by_cases q : 0 ≤ m
        · exact q
        · exact absurd (by rw [hf m (by omega), hf (m - 1) (by omega)]) this
      simp
      omega
    unfold par
    rw [e]
    rfl
  have up : ∀ k : Nat, par t ((k : Int) - 1) = f ((k : Int) - 1) := fun k => by
    induction k with
    | zero => rw [neg _ (by omega), hf _ (by omega)]
    | succ k ih =>
      have st := filter_step (((k + 1 : Nat) : Int) - 1) t T.up
      have m := T.mem (((k + 1 : Nat) : Int) - 1)
      rw [show (((k + 1 : Nat) : Int) - 1) - 1 = (k : Int) - 1 by omega] at st m
      unfold par at ih ⊢
      rw [st]
      by_cases z : (((k + 1 : Nat) : Int) - 1) ∈ t
      · have z2 := m.mp z
        rw [if_pos z]
        rw [← ih] at z2
        generalize hc : (t.filter fun m => decide (m ≤ (k : Int) - 1)).length = c at z2 ih ⊢
        cases e : f (((k + 1 : Nat) : Int) - 1)
        · rw [e] at z2
          have : c % 2 = 1 := by
            by_cases y : c % 2 = 1
            · exact y
            · exact absurd (by simp [y]) z2
          simp
          omega
        · rw [e] at z2
          have : ¬ c % 2 = 1 := fun y => z2 (by simp [y])
          simp
          omega
      · have z2 : f (((k + 1 : Nat) : Int) - 1) = f ((k : Int) - 1) := by
          by_cases y : f (((k + 1 : Nat) : Int) - 1) = f ((k : Int) - 1)
          · exact y
          · exact absurd (m.mpr y) z
        rw [if_neg z, Nat.add_zero, z2]
        exact ih
  by_cases hn : n < 0
  · rw [neg n hn, hf n hn]
  · have := up (n + 1).toNat
    rw [show (((n + 1).toNat : Nat) : Int) - 1 = n by omega] at this
    exact this
/-- the paired turns have the members that f tells -/
theorem paired_mem {f : Int → Bool} {t : List Int} (T : Turns f t) (hf : ∀ n, n < 0 → f n = false) (n : Int) : inL (paired t) n = f n := (paired_par t n T.up).trans (par_turns T hf n)
/-! ### the law's way: runs of equal marks -/
def runs (f : Int → Bool) : Int → Bool → List Int → List (Int × Option Int × Bool)
  | s, m, [] => [(s, none, m)]
  | s, m, p :: r => if f p = m then runs f s m r else (s, some (p - 1), m) :: runs f p (f p) r
def held (l : List (Int × Option Int × Bool)) : List Str2 := (l.filter fun q => q.2.2).map fun q => (q.1, q.2.1)
theorem held_runs (f : Int → Bool) : ∀ (r : List Int) (s : Int), held (runs f s true r) = paired (s :: scan f true r) ∧ held (runs f s false r) = paired (scan f false r)
  | [], s => ⟨rfl, rfl⟩
  | p :: r, s => by
    obtain ⟨i1, i2⟩ := held_runs f r s
    obtain ⟨j1, j2⟩ := held_runs f r p
    cases e : f p
    · constructor
      · simp only [runs, scan, e, Bool.false_eq_true, if_false, Bool.true_eq_false]
        show held ((s, some (p - 1), true) :: runs f p false r) = paired (s :: p :: scan f false r)
        show (s, some (p - 1)) :: held (runs f p false r) = _
        rw [j2]
        rfl
      · simp only [runs, scan, e, if_true]
        exact i2
    · constructor
      · simp only [runs, scan, e, if_true]
        exact i1
      · simp only [runs, scan, e, Bool.true_eq_false, if_false, Bool.false_eq_true]
        show held ((s, some (p - 1), false) :: runs f p true r) = paired (p :: scan f true r)
        show held (runs f p true r) = _
        rw [j1]
theorem held_all (f : Int → Bool) (p : Int) (r : List Int) : held (runs f p (f p) r) = paired (scan f false (p :: r)) := by
  obtain ⟨i1, i2⟩ := held_runs f r p
  cases e : f p
  · rw [i2]
    simp only [scan, e, if_true]
  · rw [i1]
    simp only [scan, e, Bool.false_eq_true, if_false]
end MS

namespace MS
/-! ### how many stretches have n -/
def cnt (S : List Str2) (n : Int) : Int := (S.map fun p => if inS p n then (1 : Int) else 0).sum
/-- what a stretch adds at the key k -/
def one (p : Str2) (k : Int) : Int := (if k = p.1 then 1 else 0) - (match p.2 with | some h => if k = h + 1 then 1 else 0 | none => 0)
def ch (S : List Str2) (k : Int) : Int := (S.map fun p => one p k).sum
def keyB (S : List Str2) (k : Int) : Bool := S.any fun p => decide (k = p.1) || (match p.2 with | some h => decide (k = h + 1) | none => false)
def GoodS (p : Str2) : Prop := 0 ≤ p.1 ∧ ∀ h, p.2 = some h → p.1 ≤ h
theorem sum_add (f g : Int → Int) : ∀ l : List Int, (l.map fun k => f k + g k).sum = (l.map f).sum + (l.map g).sum
  | [] => rfl
  | a :: l => by simp only [List.map_cons, List.sum_cons, sum_add f g l]; omega
theorem sum_zero : ∀ l : List Int, (l.map fun _ => (0 : Int)).sum = 0
  | [] => rfl
  | a :: l => by simp only [List.map_cons, List.sum_cons, sum_zero l]; omega
theorem sum_at (m n : Int) : ∀ l : List Int, l.Nodup → ((l.filter fun k => decide (k ≤ n)).map fun k => if k = m then (1 : Int) else 0).sum = if m ∈ l ∧ m ≤ n then 1 else 0
  | [], _ => by simp
  | a :: l, hn => by
    obtain ⟨h1, h2⟩ := List.nodup_cons.mp hn
    have ih := sum_at m n l h2
    by_cases ha : a ≤ n
    · simp only [List.filter_cons, ha, decide_true, if_true, List.map_cons, List.sum_cons, ih, List.mem_cons]
      by_cases e : a = m
      · subst e
        simp [h1, ha]
      · have : ¬ m = a := fun z => e z.symm
        simp [e, this]
    · simp only [List.filter_cons, ha, decide_false, Bool.false_eq_true, if_false, ih, List.mem_cons]
      by_cases e : m = a
      · subst e
        simp [h1, ha]
      · simp [e]
theorem sum_sub (f g : Int → Int) : ∀ l : List Int, (l.map fun k => f k - g k).sum = (l.map f).sum - (l.map g).sum
  | [] => rfl
  | a :: l => by simp only [List.map_cons, List.sum_cons, sum_sub f g l]; omega
theorem sum_one {p : Str2} (g : GoodS p) {l : List Int} (hn : l.Nodup) (n : Int) (h1 : p.1 ∈ l) (h2 : ∀ h, p.2 = some h → h + 1 ∈ l) :
    ((l.filter fun k => decide (k ≤ n)).map fun k => one p k).sum = if inS p n then 1 else 0 := by
  obtain ⟨lo, hi⟩ := p
  cases hi with
  | none =>
    have e : (fun k => one (lo, none) k) = fun k => if k = lo then (1 : Int) else 0 := by
      funext k
      show (if k = lo then (1 : Int) else 0) - 0 = _
      omega
    rw [e, sum_at lo n l hn]
    have : lo ∈ l := h1
    by_cases q : lo ≤ n <;> simp [inS, this, q]
  | some h =>
    have g2 : lo ≤ h := g.2 h rfl
    have m1 : lo ∈ l := h1
    have m2 : h + 1 ∈ l := h2 h rfl
    have e : (fun k => one (lo, some h) k) = fun k => (if k = lo then (1 : Int) else 0) - (if k = h + 1 then (1 : Int) else 0) := rfl
    rw [e, sum_sub, sum_at lo n l hn, sum_at (h + 1) n l hn]
    by_cases q : lo ≤ n
    · by_cases q2 : n ≤ h
      · have : ¬ h + 1 ≤ n := by omega
        simp [inS, m1, m2, q, q2, this]
      · have : h + 1 ≤ n := by omega
        simp [inS, m1, m2, q, q2, this]
    · have : ¬ h + 1 ≤ n := by omega
      simp [inS, q, this]
theorem sum_ch {l : List Int} (hn : l.Nodup) (n : Int) : ∀ S : List Str2, (∀ p ∈ S, GoodS p ∧ p.1 ∈ l ∧ ∀ h, p.2 = some h → h + 1 ∈ l) → ((l.filter fun k => decide (k ≤ n)).map fun k => ch S k).sum = cnt S n
  | [], _ => sum_zero _
  | p :: S, h => by
    have ih := sum_ch hn n S fun q hq => h q (List.mem_cons_of_mem _ hq)
    obtain ⟨g, m1, m2⟩ := h p List.mem_cons_self
    have e : (fun k => ch (p :: S) k) = fun k => one p k + ch S k := rfl
    rw [e, sum_add, ih, sum_one g hn n m1 m2]
    rfl
theorem take_sum {l : List Int} (hu : Up l) : ∀ {i : Nat} {n : Int}, l[i]? = some n → (l.filter fun k => decide (k ≤ n)) = l.take (i + 1) := by
  induction l with
  | nil => intro i n h; simp at h
  | cons a l ih =>
    intro i n h
    obtain ⟨h1, h2⟩ := List.pairwise_cons.mp hu
    cases i with
    | zero =>
      obtain rfl : a = n := by simpa using h
      have e : (l.filter fun k => decide (k ≤ a)) = [] := List.filter_eq_nil_iff.mpr fun m hm => by
        have := h1 m hm
        simp
        omega
      simp [List.filter_cons, e]
    | succ i =>
      have h' : l[i]? = some n := by simpa using h
      have hm : n ∈ l := List.mem_of_getElem? h'
      have := h1 n hm
      have le : a ≤ n := by omega
      simp [List.filter_cons, le, ih h2 h']
theorem cnt_neg {S : List Str2} (g : ∀ p ∈ S, GoodS p) {n : Int} (hn : n < 0) : cnt S n = 0 := by
  unfold cnt
  have e : (S.map fun p => if inS p n then (1 : Int) else 0) = S.map fun _ => (0 : Int) := List.map_congr_left fun p hp => by
    have := (g p hp).1
    have q : ¬ p.1 ≤ n := by omega
    simp [inS, q]
  rw [e]
  clear e g
  induction S with
  | nil => rfl
  | cons p S ih => rw [List.map_cons, List.sum_cons, ih]; rfl
theorem cnt_stays {S : List Str2} {n : Int} (h : keyB S n = false) : cnt S n = cnt S (n - 1) := by
  unfold cnt
  congr 1
  refine List.map_congr_left fun p hp => ?_
  have q := List.any_eq_false.mp h p hp
  obtain ⟨lo, hi⟩ := p
  have e : inS (lo, hi) n = inS (lo, hi) (n - 1) := by
    cases hi with
    | none =>
      have q1 : ¬ n = lo := by simpa using q
      have : (lo ≤ n) = (lo ≤ n - 1) := propext ⟨fun z => by omega, fun z => by omega⟩
      simp [inS, this]
    | some h =>
      have q1 : ¬ n = lo ∧ ¬ n = h + 1 := by simpa using q
      have a1 : (lo ≤ n) = (lo ≤ n - 1) := propext ⟨fun z => by omega, fun z => by omega⟩
      have a2 : (n ≤ h) = (n - 1 ≤ h) := propext ⟨fun z => by omega, fun z => by omega⟩
      simp [inS, a1, a2]
  rw [e]
/-- a stretch is in depth 0 or 1 where the turns are paired -/
theorem cnt_par : ∀ (t : List Int) (n : Int), Up t → cnt (paired t) n = if par t n then 1 else 0
  | [], n, _ => rfl
  | [a], n, _ => by
    by_cases h : a ≤ n <;> simp [cnt, paired, inS, par, h]
  | a :: b :: r, n, hu => by
    obtain ⟨h1, h2⟩ := List.pairwise_cons.mp hu
    obtain ⟨h3, h4⟩ := List.pairwise_cons.mp h2
    have hab := h1 b List.mem_cons_self
    have ih := cnt_par r n h4
    have out : n < b → (r.filter fun m => decide (m ≤ n)) = [] := fun hn => List.filter_eq_nil_iff.mpr fun m hm => by
      have := h3 m hm
      simp
      omega
    show (if inS (a, some (b - 1)) n then (1 : Int) else 0) + cnt (paired r) n = _
    rw [ih]
    by_cases ha : a ≤ n
    · by_cases hb : b ≤ n
      · have no : ¬ n ≤ b - 1 := by omega
        have e : par (a :: b :: r) n = par r n := by
          simp only [par, List.filter_cons, ha, hb, decide_true, if_true, List.length_cons]
          congr 1
          exact propext ⟨fun z => by omega, fun z => by omega⟩
        rw [e]
        simp [inS, ha, no]
      · have yes : n ≤ b - 1 := by omega
        have e1 : par r n = false := by unfold par; rw [out (by omega)]; rfl
        have e2 : par (a :: b :: r) n = true := by
          simp only [par, List.filter_cons, ha, hb, decide_true, decide_false, if_true, Bool.false_eq_true, if_false, List.length_cons]
          rw [out (by omega)]
          rfl
        rw [e1, e2]
        simp [inS, ha, yes]
    · have hb : ¬ b ≤ n := by omega
      have e1 : par r n = false := by unfold par; rw [out (by omega)]; rfl
      have e2 : par (a :: b :: r) n = false := by
        simp only [par, List.filter_cons, ha, hb, decide_false, Bool.false_eq_true, if_false]
        rw [out (by omega)]
        rfl
      rw [e1, e2]
      simp [inS, ha]
theorem good_paired : ∀ (t : List Int), Up t → (∀ n ∈ t, 0 ≤ n) → ∀ p ∈ paired t, GoodS p
  | [], _, _, p, h => by simp [paired] at h
  | [a], _, h0, p, h => by
    obtain rfl : p = (a, none) := by simpa [paired] using h
    exact ⟨h0 a List.mem_cons_self, fun h e => nomatch e⟩
  | a :: b :: r, hu, h0, p, h => by
    obtain ⟨h1, h2⟩ := List.pairwise_cons.mp hu
    obtain ⟨h3, h4⟩ := List.pairwise_cons.mp h2
    have hab := h1 b List.mem_cons_self
    rcases List.mem_cons.mp h with e | e
    · subst e
      exact ⟨h0 a List.mem_cons_self, fun h e => by obtain rfl : b - 1 = h := Option.some.inj e; show a ≤ b - 1; omega⟩
    · exact good_paired r h4 (fun n hn => h0 n (List.mem_cons_of_mem _ (List.mem_cons_of_mem _ hn))) p e
theorem paired_len : ∀ t : List Int, (paired t).length ≤ t.length
  | [] => Nat.le_refl _
  | [a] => Nat.le_refl _
  | a :: b :: r => by
    have := paired_len r
    simp only [paired, List.length_cons]
    omega
/-- the one form of the set that f tells -/
structure Can (f : Int → Bool) (S : List Str2) : Prop where
  neg : ∀ n, n < 0 → f n = false
  ex : ∃ t, Turns f t ∧ S = paired t
theorem Turns.nonneg {f : Int → Bool} {t : List Int} (T : Turns f t) (hf : ∀ n, n < 0 → f n = false) : ∀ n ∈ t, 0 ≤ n := fun n hn => by
  by_cases q : 0 ≤ n
  · exact q
  · exact absurd (by rw [hf n (by omega), hf (n - 1) (by omega)]) ((T.mem n).mp hn)
theorem Can.cnt {f : Int → Bool} {S : List Str2} (c : Can f S) (n : Int) : MS.cnt S n = if f n then 1 else 0 := by
  obtain ⟨t, T, rfl⟩ := c.ex
  rw [cnt_par t n T.up, par_turns T c.neg]
theorem Can.good {f : Int → Bool} {S : List Str2} (c : Can f S) : ∀ p ∈ S, GoodS p := by
  obtain ⟨t, T, rfl⟩ := c.ex
  exact good_paired t T.up (T.nonneg c.neg)
theorem Can.mem {f : Int → Bool} {S : List Str2} (c : Can f S) (n : Int) : inL S n = f n := by
  obtain ⟨t, T, rfl⟩ := c.ex
  exact paired_mem T c.neg n
theorem Can.one {f g : Int → Bool} {S T : List Str2} (a : Can f S) (b : Can g T) (h : ∀ n, f n = g n) : S = T := by
  obtain rfl : f = g := funext h
  obtain ⟨s, A, rfl⟩ := a.ex
  obtain ⟨t, B, rfl⟩ := b.ex
  rw [A.eq B]
theorem cnt_app (S T : List Str2) (n : Int) : cnt (S ++ T) n = cnt S n + cnt T n := by
  induction S with
  | nil => simp [cnt]
  | cons p S ih =>
    show (if inS p n then (1 : Int) else 0) + cnt (S ++ T) n = ((if inS p n then (1 : Int) else 0) + cnt S n) + cnt T n
    rw [ih]
    omega
/-- what the sweep finds: from least to most of the stretches -/
def depthF (S : List Str2) (a b : Int) (n : Int) : Bool := decide (a ≤ cnt S n) && decide (cnt S n ≤ b)
theorem depth_can {S : List Str2} {a b : Int} {ks : List Int} (g : ∀ p ∈ S, GoodS p) (ha : 1 ≤ a) (hu : Up ks) (hk : ∀ n, n ∈ ks ↔ keyB S n = true) : Can (depthF S a b) (paired (scan (depthF S a b) false ks)) := by
  have neg : ∀ n, n < 0 → depthF S a b n = false := fun n hn => by
    unfold depthF
    rw [cnt_neg g hn]
    have : ¬ a ≤ 0 := by omega
    simp [this]
  refine ⟨neg, _, scan_turns neg hu (fun n hn => ?_) (fun n hn => ?_), rfl⟩
  · obtain ⟨p, hp, e⟩ := List.any_eq_true.mp ((hk n).mp hn)
    obtain ⟨g1, g2⟩ := g p hp
    obtain ⟨lo, hi⟩ := p
    cases hi with
    | none =>
      have : n = lo := by simpa using e
      subst this
      exact g1
    | some h =>
      have e2 : n = lo ∨ n = h + 1 := by simpa using e
      have := g2 h rfl
      simp only at this g1
      omega
  · rw [hk n]
    cases e : keyB S n
    · exact absurd (by unfold depthF; rw [cnt_stays e]) hn
    · rfl
end MS
namespace MS
theorem paired_get : ∀ (t : List Int) (i : Nat) (a : Int), t[2 * i]? = some a → (paired t)[i]? = some (a, (t[2 * i + 1]?).map fun b => b - 1)
  | [], i, a, h => by simp at h
  | [x], 0, a, h => by
    obtain rfl : x = a := by simpa using h
    rfl
  | [x], i + 1, a, h => by simp [Nat.mul_add] at h
  | x :: y :: r, 0, a, h => by
    obtain rfl : x = a := by simpa using h
    rfl
  | x :: y :: r, i + 1, a, h => by
    have e1 : 2 * (i + 1) = 2 * i + 2 := by omega
    have e2 : 2 * (i + 1) + 1 = 2 * i + 1 + 2 := by omega
    rw [e1] at h
    rw [e2, show 2 * i + 1 + 2 = (2 * i + 1 + 1) + 1 by omega]
    have h2 : r[2 * i]? = some a := by simpa using h
    have ih := paired_get r i a h2
    simpa [paired] using ih
theorem paired_length : ∀ t : List Int, (paired t).length = (t.length + 1) / 2
  | [] => rfl
  | [a] => by simp [paired]
  | a :: b :: r => by
    simp only [paired, List.length_cons, paired_length r]
    omega
end MS
namespace MS
theorem Can.congr {f g : Int → Bool} {S : List Str2} (a : Can f S) (h : ∀ n, f n = g n) : Can g S := by
  obtain rfl : f = g := funext h
  exact a
theorem two_cnt {f g : Int → Bool} {A B : List Str2} (a : Can f A) (b : Can g B) (n : Int) : cnt (A ++ B) n = (if f n then 1 else 0) + (if g n then 1 else 0) := by rw [cnt_app, a.cnt, b.cnt]
theorem either_f {f g : Int → Bool} {A B : List Str2} (a : Can f A) (b : Can g B) (n : Int) : depthF (A ++ B) 1 2 n = (f n || g n) := by
  unfold depthF
  rw [two_cnt a b]
  cases f n <;> cases g n <;> decide
theorem both_f {f g : Int → Bool} {A B : List Str2} (a : Can f A) (b : Can g B) (n : Int) : depthF (A ++ B) 2 2 n = (f n && g n) := by
  unfold depthF
  rw [two_cnt a b]
  cases f n <;> cases g n <;> decide
theorem one_f {f g : Int → Bool} {A B : List Str2} (a : Can f A) (b : Can g B) (n : Int) : depthF (A ++ B) 1 1 n = (f n != g n) := by
  unfold depthF
  rw [two_cnt a b]
  cases f n <;> cases g n <;> decide
theorem can_all : Can (fun n => decide (0 ≤ n)) [(0, none)] := by
  refine ⟨fun n hn => decide_eq_false (by omega), [0], ⟨List.pairwise_singleton _ _, fun n => ?_⟩, rfl⟩
  rw [List.mem_singleton]
  constructor
  · rintro rfl
    decide
  · intro h
    by_cases q : 0 ≤ n
    · by_cases q2 : 0 ≤ n - 1
      · exact absurd (by rw [decide_eq_true q, decide_eq_true q2]) h
      · omega
    · exact absurd (by rw [decide_eq_false q, decide_eq_false (by omega)]) h
theorem cnt_inL {S : List Str2} (n : Int) : decide (1 ≤ cnt S n) = inL S n ∧ 0 ≤ cnt S n ∧ cnt S n ≤ S.length := by
  induction S with
  | nil => exact ⟨rfl, Int.le_refl _, Int.le_refl _⟩
  | cons p S ih =>
    obtain ⟨h1, h2, h3⟩ := ih
    have e : cnt (p :: S) n = (if inS p n then 1 else 0) + cnt S n := rfl
    have e2 : inL (p :: S) n = (inS p n || inL S n) := rfl
    rw [e, e2, List.length_cons, ← h1]
    cases inS p n
    · refine ⟨by simp, by simp; exact h2, by simp; omega⟩
    · refine ⟨by simp; omega, by simp; omega, by simp; omega⟩
/-- all of them: the union -/
theorem union_f (S : List Str2) (n : Int) : depthF S 1 S.length n = inL S n := by
  obtain ⟨h1, h2, h3⟩ := cnt_inL (S := S) n
  unfold depthF
  rw [h1, decide_eq_true h3, Bool.and_true]
end MS
namespace MS
theorem inL_neg {S : List Str2} (g : ∀ p ∈ S, GoodS p) {n : Int} (hn : n < 0) : inL S n = false := by
  rw [← (cnt_inL (S := S) n).1, cnt_neg g hn]
  rfl
theorem inL_stays {S : List Str2} {n : Int} (h : keyB S n = false) : inL S n = inL S (n - 1) := by
  rw [← (cnt_inL (S := S) n).1, ← (cnt_inL (S := S) (n - 1)).1, cnt_stays h]
theorem key_nonneg {S : List Str2} (g : ∀ p ∈ S, GoodS p) {n : Int} (h : keyB S n = true) : 0 ≤ n := by
  obtain ⟨p, hp, e⟩ := List.any_eq_true.mp h
  obtain ⟨g1, g2⟩ := g p hp
  obtain ⟨lo, hi⟩ := p
  cases hi with
  | none =>
    have : n = lo := by simpa using e
    subst this
    exact g1
  | some h =>
    have e2 : n = lo ∨ n = h + 1 := by simpa using e
    have := g2 h rfl
    simp only at this g1
    omega
/-- the law's way, of one row -/
theorem points_can {S : List Str2} (g : ∀ p ∈ S, GoodS p) {ps : List Int} (hu : Up ps) (hk : ∀ n, n ∈ ps ↔ n = 0 ∨ keyB S n = true) : Can (inL S) (paired (scan (inL S) false ps)) := by
  refine ⟨fun n hn => inL_neg g hn, _, scan_turns (fun n hn => inL_neg g hn) hu (fun n hn => ?_) (fun n hn => ?_), rfl⟩
  · rcases (hk n).mp hn with e | e
    · omega
    · exact key_nonneg g e
  · rw [hk n]
    cases e : keyB S n
    · exact absurd (inL_stays e) hn
    · exact .inr rfl
/-- .. of two -/
theorem points_op {A B : List Str2} {op : Bool → Bool → Bool} (h0 : op false false = false) (gA : ∀ p ∈ A, GoodS p) (gB : ∀ p ∈ B, GoodS p) {ps : List Int} (hu : Up ps) (hk : ∀ n, n ∈ ps ↔ n = 0 ∨ keyB (A ++ B) n = true) :
    Can (fun n => op (inL A n) (inL B n)) (paired (scan (fun n => op (inL A n) (inL B n)) false ps)) := by
  have neg : ∀ n, n < 0 → op (inL A n) (inL B n) = false := fun n hn => by rw [inL_neg gA hn, inL_neg gB hn, h0]
  have gAB : ∀ p ∈ A ++ B, GoodS p := fun p h => (List.mem_append.mp h).elim (gA p) (gB p)
  refine ⟨neg, _, scan_turns neg hu (fun n hn => ?_) (fun n hn => ?_), rfl⟩
  · rcases (hk n).mp hn with e | e
    · omega
    · exact key_nonneg gAB e
  · rw [hk n]
    cases e : keyB (A ++ B) n
    · exfalso
      have e2 : (keyB A n || keyB B n) = false := by
        unfold keyB at e ⊢
        rw [List.any_append] at e
        exact e
      rw [Bool.or_eq_false_iff] at e2
      exact hn (by rw [inL_stays e2.1, inL_stays e2.2])
    · exact .inr rfl
end MS

namespace EN
open PySem L2 PyProof.Rows
section
variable {P : Program} {w : World} {K : PySem.W.Frag} {mg : Str → Option Value} {base : Heap} {f : Addr} {fd : FuncData}
/-! ### stretches on the heap -/
def optV : Option Int → V
  | none => .non
  | some h => .int h
def StrT (K : PySem.W.Frag) (H : Hp) (v : V) (p : MS.Str2) : Prop := ∃ t, v = .ref t ∧ SqT K H t [.int p.1, optV p.2]
abbrev StrA (K : PySem.W.Frag) (H : Hp) : List V → List MS.Str2 → Prop := Paired (StrT K H)
theorem StrA.same {H H' : Hp} (s : Same H H') : ∀ {xs : List V} {S : List MS.Str2}, StrA K H xs S → StrA K H' xs S
  | _, _, .nil => .nil
  | _, _, .cons ⟨t, e, h⟩ r => .cons ⟨t, e, sqT_same s h⟩ (StrA.same s r)
theorem StrA.len {H : Hp} : ∀ {xs : List V} {S : List MS.Str2}, StrA K H xs S → xs.length = S.length
  | _, _, .nil => rfl
  | _, _, .cons _ r => by rw [List.length_cons, List.length_cons, StrA.len r]
theorem StrA.get {H : Hp} : ∀ {xs : List V} {S : List MS.Str2} {i : Nat} {x : V}, StrA K H xs S → xs[i]? = some x → ∃ p, S[i]? = some p ∧ StrT K H x p
  | _, _, 0, _, .cons h _, e => ⟨_, rfl, by simpa using (Option.some.inj (by simpa using e)) ▸ h⟩
  | _, _, i + 1, _, .cons _ r, e => by
    obtain ⟨p, e1, e2⟩ := StrA.get (i := i) r (by simpa using e)
    exact ⟨p, by simpa using e1, e2⟩
theorem StrA.app {H : Hp} : ∀ {xs ys : List V} {S T : List MS.Str2}, StrA K H xs S → StrA K H ys T → StrA K H (xs ++ ys) (S ++ T)
  | _, _, _, _, .nil, h => h
  | _, _, _, _, .cons a r, h => .cons a (StrA.app r h)
/-- what a stretch must keep -/
abbrev Good (p : MS.Str2) : Prop := MS.GoodS p
abbrev s_is_stretch : Stmt := top 12
abbrev N_is_stretch : List Str := ["pair", "low", "high"]
theorem sc_is_stretch : FnScope N_is_stretch ["pair"] (defScope s_is_stretch) := ⟨rfl, rfl, rfl, by decide +kernel, rfl, by decide +kernel, by decide +kernel⟩

def spIsStretch (K : PySem.W.Frag) : Sp := fun vs H Q _ => ∃ (t : Addr) (p : MS.Str2), vs = [.ref t] ∧ SqT K H t [.int p.1, optV p.2] ∧ Good p ∧ Q (.bl true) H
theorem ok_is_stretch (F : Fun K "is_stretch" "is_stretch" s_is_stretch f fd) (T : Blt mg) (G_is_whole : Has P w K mg base 1 "is_whole" ["value"] spIsWhole) : FnOk P w K mg base CX0 2 f fd ["pair"] (spIsStretch K) := by
  refine F.ok sc_is_stretch (fun vs H Q E h => ?_) (fun cdv A outer s H vs Q E hr h => ?_)
  · obtain ⟨t, p, rfl, _⟩ := h
    rfl
  · obtain ⟨t, ⟨lo, hi⟩, rfl, hT, ⟨g1, g2⟩, k⟩ := h
    refine ⟨_, (pss_cons (ps_if (PW.pt (pw_or (pt_not (pt_val (pe_callB (show CallR _ _ (rIsi K) from call_isi) (by rfl) T.isinstance_ (by decide +kernel) (pa_cons (pv 0) (pa_cons (pe_bltn (v := .ty "tuple") (u := .type "tuple") (by rfl) T.tuple_ (by decide +kernel) rfl) pa_nil))))) (pw_or1 (pt_cmpR op_ne (pe_callB (show CallR _ _ (rLenQ K) from c_len) (by rfl) T.len_ (by decide +kernel) (pa_cons (pv 0) pa_nil)) pe_int (nomark _)))))
      (pss_one (ps_ret pe_bl))
      pss_nil)
    (pss_cons (ps_asg (pv 0) (pg_tup rfl (pgs_cons (pg_name (i := 1) sc_is_stretch.nd rfl (Or.inl rfl)) (pgs_cons (pg_name (i := 2) sc_is_stretch.nd rfl (Or.inl rfl)) pgs_nil))))
    (pss_cons (ps_if (PW.pt (pw_or (pt_not (pt_val (pe_has G_is_whole (hr.mono (by decide)) (pa_cons (pv 1) pa_nil)))) (pw_or1 (pt_cmpR op_lt (pv 1) pe_int (nomark _)))))
      (pss_one (ps_ret pe_bl))
      pss_nil)
    (pss_one (ps_ret (pe_or (pe_cmpR op_isN (pv 2) pe_non (nomark _)) (pe_one (pe_and (pe_has G_is_whole (hr.mono (by decide)) (pa_cons (pv 2) pa_nil)) (pe_one (pe_cmpR op_ge (pv 2) (pv 1) (nomark _))))))))))), ?_⟩
    refine ⟨_, rfl, .ref t, .ty "tuple", .type "tuple", .type "tuple", true, rfl, .ty _, tyx_tup hT, kit_ty (by decide +kernel), true, rfl, iteF ?_⟩
    refine ⟨_, rfl, t, _, rfl, .inr hT, rfl, false, rfl, iteF ?_⟩
    refine ⟨_, rfl, t, _, rfl, hT, rfl, _, _, rfl, _, _, rfl, rfl, ?_⟩
    refine ⟨_, rfl, _, rfl, true, rfl, iteF ?_⟩
    have g0 : ¬ (lo < 0) := by have : (0 : Int) ≤ lo := g1; omega
    refine ⟨_, rfl, _, _, rfl, rfl, false, congrArg V.bl (decide_eq_false g0), iteF ?_⟩
    cases hi with
    | none => exact ⟨_, rfl, rfl, _, rfl, iteT k⟩
    | some h =>
      have g3 : lo ≤ h := g2 h rfl
      refine ⟨_, rfl, rfl, false, rfl, iteF ?_⟩
      exact ⟨_, rfl, h, rfl, true, rfl, iteT ⟨_, rfl, _, rfl, _, _, rfl, rfl, by show Q (V.bl (decide (lo ≤ h))) H; rw [decide_eq_true g3]; exact k⟩⟩
end
end EN

namespace EN
open PySem L2 PyProof.Rows
section
variable {P : Program} {w : World} {K : PySem.W.Frag} {mg : Str → Option Value} {base : Heap} {f : Addr} {fd : FuncData}
/-! ### the sweep's dict -/
theorem valV_some_map {kvs : List (Key × V)} {k : Key} {y : V} (h : (valV kvs k).isSome = true) : (putK kvs k y).map (·.1) = kvs.map (·.1) := by
  have e : (kvs.any fun kv => decide (kv.1 = k)) = true := by rw [valV_any]; exact h
  unfold putK
  rw [if_pos e, List.map_map]
  refine List.map_congr_left fun p _ => ?_
  show (if p.1 = k then (p.1, y) else p).1 = p.1
  split <;> rfl
/-- what the dict tells: at the keys f, nothing at others -/
structure DF (kvs : List (Key × V)) (g : Int → Int) (ks : Int → Bool) : Prop where
  nd : (kvs.map (·.1)).Nodup
  key : ∃ is : List Int, kvs.map (·.1) = is.map Sum.inl
  val : ∀ n : Int, valV kvs (Sum.inl n) = if ks n = true then some (.int (g n)) else none
  zero : ∀ n, ks n = false → g n = 0
theorem DF.get {kvs : List (Key × V)} {g : Int → Int} {ks : Int → Bool} (d : DF kvs g ks) (n : Int) : (valV kvs (Sum.inl n)).getD (.int 0) = .int (g n) := by
  rw [d.val n]
  cases e : ks n
  · rw [d.zero n e]; rfl
  · rfl
theorem DF.put {kvs : List (Key × V)} {g : Int → Int} {ks : Int → Bool} (d : DF kvs g ks) (m a : Int) : DF (putK kvs (Sum.inl m) (.int (g m + a))) (fun n => g n + if n = m then a else 0) (fun n => ks n || decide (n = m)) := by
  refine ⟨?_, ?_, fun n => ?_, fun n h => ?_⟩
  · cases e : valV kvs (Sum.inl m) with
    | none => exact nd_putK _ d.nd e
    | some v => rw [valV_some_map (by rw [e]; rfl)]; exact d.nd
  · obtain ⟨is, hi⟩ := d.key
    cases e : valV kvs (Sum.inl m) with
    | none => exact ⟨is ++ [m], by rw [putK_new _ e, List.map_append, hi, List.map_append]; rfl⟩
    | some v => exact ⟨is, by rw [valV_some_map (by rw [e]; rfl)]; exact hi⟩
  · rw [valV_put]
    by_cases e : n = m
    · subst e
      simp
    · have e2 : ¬ ((Sum.inl n : Key) = Sum.inl m) := fun z => e (Sum.inl.inj z)
      rw [if_neg e2, d.val n]
      simp [e]
  · have e1 : ks n = false := by
      cases q : ks n
      · rfl
      · rw [q] at h; simp at h
    have e2 : ¬ n = m := fun z => by subst z; simp at h
    rw [d.zero n e1, if_neg e2]
    rfl
theorem DF.len {kvs : List (Key × V)} {k : Key} {x : V} {n : Nat} (h : kvs.length ≤ n) : (putK kvs k x).length ≤ n + 1 := by
  cases e : valV kvs k with
  | none => rw [putK_new _ e, List.length_append]; simp; exact h
  | some v =>
    have e2 := congrArg List.length (valV_some_map (y := x) (show (valV kvs k).isSome = true by rw [e]; rfl))
    rw [List.length_map, List.length_map] at e2
    omega
theorem DF.congr {kvs : List (Key × V)} {g g' : Int → Int} {ks ks' : Int → Bool} (d : DF kvs g ks) (h : ∀ n, g n = g' n) (h' : ∀ n, ks n = ks' n) : DF kvs g' ks' := by
  obtain rfl : g = g' := funext h
  obtain rfl : ks = ks' := funext h'
  exact d
theorem ch_snoc (S : List MS.Str2) (p : MS.Str2) (k : Int) : MS.ch (S ++ [p]) k = MS.ch S k + MS.one p k := by
  unfold MS.ch
  rw [List.map_append, List.sum_append]
  simp
theorem key_snoc (S : List MS.Str2) (p : MS.Str2) (k : Int) : MS.keyB (S ++ [p]) k = (MS.keyB S k || (decide (k = p.1) || (match p.2 with | some h => decide (k = h + 1) | none => false))) := by
  obtain ⟨lo, hi⟩ := p
  unfold MS.keyB
  rw [List.any_append]
  cases hi <;> simp
theorem take_snoc {α : Type} {S : List α} {i : Nat} {p : α} (h : S[i]? = some p) : S.take (i + 1) = S.take i ++ [p] := by
  rw [List.take_add_one, h]
  rfl
def spDepth (K : PySem.W.Frag) : Sp := fun vs H Q _ => ∃ (a : Addr) (xs : List V) (S : List MS.Str2), vs = [.ref a] ∧ (SqL K H a xs ∨ SqT K H a xs) ∧ StrA K H xs S ∧ S.length ≤ 200 ∧
  ∀ (d : Addr) (kvs : List (Key × V)) (H' : Hp), Same H H' → H d = none → H' d = some (.dK kvs) → DF kvs (MS.ch S) (MS.keyB S) → kvs.length ≤ 2 * S.length → Q (.ref d) H'
abbrev s_depth_changes : Stmt := top 13
abbrev N_depth_changes : List Str := ["stretches", "found", "low", "high"]
theorem sc_depth_changes : FnScope N_depth_changes ["stretches"] (defScope s_depth_changes) := ⟨rfl, rfl, rfl, by decide +kernel, rfl, by decide +kernel, by decide +kernel⟩

theorem ok_depth (F : Fun K "depth_changes" "depth_changes" s_depth_changes f fd) (T : Blt mg) : FnOk P w K mg base CX0 1 f fd ["stretches"] (spDepth K) := by
  refine F.ok sc_depth_changes (fun vs H Q E h => ?_) (fun cdv A outer s H vs Q E hr h => ?_)
  · obtain ⟨a, xs, S, rfl, _⟩ := h
    rfl
  · obtain ⟨a, xs, S, rfl, hS | hS, hA, hl, k⟩ := h
    all_goals have hu := hu_of hr
    · refine ⟨_, (pss_cons (ps_set (i := 1) sc_depth_changes.nd rfl (Or.inl rfl) pe_dnewK)
    (pss_cons (ps_for PassesOwn.never rfl (pi_list (pv 0)) (pg_tup rfl (pgs_cons (pg_name (i := 2) sc_depth_changes.nd rfl (Or.inl rfl)) (pgs_cons (pg_name (i := 3) sc_depth_changes.nd rfl (Or.inl rfl)) pgs_nil)))
      (pss_cons (ps_dput hu (pv 1) (pv 2) (pe_op op_add (pe_dget2 hu (pv 1) (pv 2) pe_int ⟨rfl, rfl, rfl, rfl⟩) pe_int) rfl)
      (pss_one (ps_if (pt_cmpR op_notN (pv 3) pe_non (nomark _))
        (pss_one (ps_dput hu (pv 1) (pe_op op_add (pv 3) pe_int) (pe_op op_sub (pe_dget2 hu (pv 1) (pe_op op_add (pv 3) pe_int) pe_int ⟨rfl, rfl, rfl, rfl⟩) pe_int) rfl))
        pss_nil))))
    (pss_one (ps_ret (pv 1))))), ?_⟩
      refine fun d hd => ?_
      refine ⟨_, rfl, a, rfl, ⟨_, (same_new (Same.refl H) (.dK []) hd).seq hS⟩, ?_⟩
      let W : Nat → L2.St → Hp → Prop := fun i σ H' => ∃ (kvs : List (Key × V)) (v2 v3 : Option V), σ = [some (.ref a), some (.ref d), v2, v3] ∧ Same H H' ∧ H' d = some (.dK kvs) ∧ DF kvs (MS.ch (S.take i)) (MS.keyB (S.take i)) ∧ kvs.length ≤ 2 * i
      refine for_list (K := K) (a := a) (xs := xs) W ⟨[], none, none, rfl, same_new (Same.refl H) _ hd, upd_same, ⟨List.nodup_nil, ⟨[], rfl⟩, fun n => rfl, fun n _ => rfl⟩, Nat.zero_le _⟩ (fun i σ H' _ h => by obtain ⟨_, _, _, _, s1, _⟩ := h; exact s1.seq hS) ?_ ?_
      · rintro i x σ H1 hx ⟨kvs, v2, v3, rfl, s1, hd1, D, hk⟩
        obtain ⟨⟨lo, hi⟩, hp, t, rfl, hT⟩ := (hA.same s1).get hx
        have hi2 : i < S.length := (List.getElem?_eq_some_iff.mp hp).1
        refine ⟨t, _, rfl, hT, rfl, _, _, rfl, _, _, rfl, rfl, ?_⟩
        have tk := take_snoc hp
        have D1 := D.put lo 1
        have l1 : (putK kvs (Sum.inl lo) (.int (MS.ch (S.take i) lo + 1))).length ≤ 2 * i + 1 := DF.len hk
        refine ⟨_, rfl, d, rfl, .inl ⟨_, .inl hd1⟩, _, rfl, _, DGet.k (k := Sum.inl lo) hd1, _, 1, D.get lo, rfl, _, rfl, _, rfl, d, _, rfl, DPut.k (k := Sum.inl lo) hd1 (small1000 (by omega)), ?_⟩
        have s2 : Same H (upd H1 d (.dK (putK kvs (Sum.inl lo) (.int (MS.ch (S.take i) lo + 1))))) := same_but_new s1 hd
        have hd2 : (upd H1 d (.dK (putK kvs (Sum.inl lo) (.int (MS.ch (S.take i) lo + 1))))) d = some (.dK (putK kvs (Sum.inl lo) (.int (MS.ch (S.take i) lo + 1)))) := upd_same
        generalize upd H1 d (.dK (putK kvs (Sum.inl lo) (.int (MS.ch (S.take i) lo + 1)))) = H2 at s2 hd2
        generalize putK kvs (Sum.inl lo) (.int (MS.ch (S.take i) lo + 1)) = kvs1 at D1 l1 hd2
        cases hi with
        | none =>
          refine ⟨_, rfl, rfl, false, rfl, iteF ?_⟩
          refine ⟨kvs1, _, _, rfl, s2, hd2, D1.congr (fun n => ?_) (fun n => ?_), by omega⟩
          · rw [tk, ch_snoc]
            show _ = MS.ch (S.take i) n + ((if n = lo then 1 else 0) - 0)
            omega
          · rw [tk, key_snoc]
            simp
        | some h =>
          have D2 := D1.put (h + 1) (-1)
          refine ⟨_, rfl, rfl, true, rfl, iteT ?_⟩
          refine ⟨_, rfl, d, rfl, .inl ⟨_, .inl hd2⟩, _, rfl, _, _, rfl, rfl, _, DGet.k (k := Sum.inl (h + 1)) hd2, _, 1, D1.get (h + 1), rfl, _, rfl, _, rfl, _, _, rfl, rfl, d, _, rfl, DPut.k (k := Sum.inl (h + 1)) hd2 (small1000 (by omega)), ?_⟩
          refine ⟨_, _, _, rfl, same_but_new s2 hd, upd_same, DF.congr (g := fun n => (MS.ch (S.take i) n + if n = lo then 1 else 0) + if n = h + 1 then -1 else 0) (ks := fun n => (MS.keyB (S.take i) n || decide (n = lo)) || decide (n = h + 1)) D2 (fun n => ?_) (fun n => ?_), by have := DF.len (k := (Sum.inl (h + 1) : Key)) (x := V.int ((MS.ch (S.take i) (h + 1) + if h + 1 = lo then 1 else 0) + -1)) l1; exact Nat.le_trans this (by omega)⟩
          · rw [tk, ch_snoc]
            show _ = MS.ch (S.take i) n + ((if n = lo then 1 else 0) - (if n = h + 1 then 1 else 0))
            split <;> split <;> omega
          · rw [tk, key_snoc]
            simp [Bool.or_assoc]
      · rintro σ H1 ⟨kvs, v2, v3, rfl, s1, hd1, D, hk⟩
        have el : xs.length = S.length := hA.len
        rw [el, List.take_length] at D
        exact ⟨_, rfl, k d kvs H1 s1 hd hd1 D (by omega)⟩
    · refine ⟨_, (pss_cons (ps_set (i := 1) sc_depth_changes.nd rfl (Or.inl rfl) pe_dnewK)
    (pss_cons (ps_for PassesOwn.never rfl (pi_tup (pv 0)) (pg_tup rfl (pgs_cons (pg_name (i := 2) sc_depth_changes.nd rfl (Or.inl rfl)) (pgs_cons (pg_name (i := 3) sc_depth_changes.nd rfl (Or.inl rfl)) pgs_nil)))
      (pss_cons (ps_dput hu (pv 1) (pv 2) (pe_op op_add (pe_dget2 hu (pv 1) (pv 2) pe_int ⟨rfl, rfl, rfl, rfl⟩) pe_int) rfl)
      (pss_one (ps_if (pt_cmpR op_notN (pv 3) pe_non (nomark _))
        (pss_one (ps_dput hu (pv 1) (pe_op op_add (pv 3) pe_int) (pe_op op_sub (pe_dget2 hu (pv 1) (pe_op op_add (pv 3) pe_int) pe_int ⟨rfl, rfl, rfl, rfl⟩) pe_int) rfl))
        pss_nil))))
    (pss_one (ps_ret (pv 1))))), ?_⟩
      refine fun d hd => ?_
      refine ⟨_, rfl, a, rfl, ⟨_, sqT_same (same_new (Same.refl H) (.dK []) hd) hS⟩, ?_⟩
      let W : Nat → L2.St → Hp → Prop := fun i σ H' => ∃ (kvs : List (Key × V)) (v2 v3 : Option V), σ = [some (.ref a), some (.ref d), v2, v3] ∧ Same H H' ∧ H' d = some (.dK kvs) ∧ DF kvs (MS.ch (S.take i)) (MS.keyB (S.take i)) ∧ kvs.length ≤ 2 * i
      refine for_tup (K := K) (a := a) (xs := xs) W ⟨[], none, none, rfl, same_new (Same.refl H) _ hd, upd_same, ⟨List.nodup_nil, ⟨[], rfl⟩, fun n => rfl, fun n _ => rfl⟩, Nat.zero_le _⟩ (fun i σ H' _ h => by obtain ⟨_, _, _, _, s1, _⟩ := h; exact sqT_same s1 hS) ?_ ?_
      · rintro i x σ H1 hx ⟨kvs, v2, v3, rfl, s1, hd1, D, hk⟩
        obtain ⟨⟨lo, hi⟩, hp, t, rfl, hT⟩ := (hA.same s1).get hx
        have hi2 : i < S.length := (List.getElem?_eq_some_iff.mp hp).1
        refine ⟨t, _, rfl, hT, rfl, _, _, rfl, _, _, rfl, rfl, ?_⟩
        have tk := take_snoc hp
        have D1 := D.put lo 1
        have l1 : (putK kvs (Sum.inl lo) (.int (MS.ch (S.take i) lo + 1))).length ≤ 2 * i + 1 := DF.len hk
        refine ⟨_, rfl, d, rfl, .inl ⟨_, .inl hd1⟩, _, rfl, _, DGet.k (k := Sum.inl lo) hd1, _, 1, D.get lo, rfl, _, rfl, _, rfl, d, _, rfl, DPut.k (k := Sum.inl lo) hd1 (small1000 (by omega)), ?_⟩
        have s2 : Same H (upd H1 d (.dK (putK kvs (Sum.inl lo) (.int (MS.ch (S.take i) lo + 1))))) := same_but_new s1 hd
        have hd2 : (upd H1 d (.dK (putK kvs (Sum.inl lo) (.int (MS.ch (S.take i) lo + 1))))) d = some (.dK (putK kvs (Sum.inl lo) (.int (MS.ch (S.take i) lo + 1)))) := upd_same
        generalize upd H1 d (.dK (putK kvs (Sum.inl lo) (.int (MS.ch (S.take i) lo + 1)))) = H2 at s2 hd2
        generalize putK kvs (Sum.inl lo) (.int (MS.ch (S.take i) lo + 1)) = kvs1 at D1 l1 hd2
        cases hi with
        | none =>
          refine ⟨_, rfl, rfl, false, rfl, iteF ?_⟩
          refine ⟨kvs1, _, _, rfl, s2, hd2, D1.congr (fun n => ?_) (fun n => ?_), by omega⟩
          · rw [tk, ch_snoc]
            show _ = MS.ch (S.take i) n + ((if n = lo then 1 else 0) - 0)
            omega
          · rw [tk, key_snoc]
            simp
        | some h =>
          have D2 := D1.put (h + 1) (-1)
          refine ⟨_, rfl, rfl, true, rfl, iteT ?_⟩
          refine ⟨_, rfl, d, rfl, .inl ⟨_, .inl hd2⟩, _, rfl, _, _, rfl, rfl, _, DGet.k (k := Sum.inl (h + 1)) hd2, _, 1, D1.get (h + 1), rfl, _, rfl, _, rfl, _, _, rfl, rfl, d, _, rfl, DPut.k (k := Sum.inl (h + 1)) hd2 (small1000 (by omega)), ?_⟩
          refine ⟨_, _, _, rfl, same_but_new s2 hd, upd_same, DF.congr (g := fun n => (MS.ch (S.take i) n + if n = lo then 1 else 0) + if n = h + 1 then -1 else 0) (ks := fun n => (MS.keyB (S.take i) n || decide (n = lo)) || decide (n = h + 1)) D2 (fun n => ?_) (fun n => ?_), by have := DF.len (k := (Sum.inl (h + 1) : Key)) (x := V.int ((MS.ch (S.take i) (h + 1) + if h + 1 = lo then 1 else 0) + -1)) l1; exact Nat.le_trans this (by omega)⟩
          · rw [tk, ch_snoc]
            show _ = MS.ch (S.take i) n + ((if n = lo then 1 else 0) - (if n = h + 1 then 1 else 0))
            split <;> split <;> omega
          · rw [tk, key_snoc]
            simp [Bool.or_assoc]
      · rintro σ H1 ⟨kvs, v2, v3, rfl, s1, hd1, D, hk⟩
        have el : xs.length = S.length := hA.len
        rw [el, List.take_length] at D
        exact ⟨_, rfl, k d kvs H1 s1 hd hd1 D (by omega)⟩
end
end EN

namespace EN
open PySem L2 PyProof.Rows
section
variable {P : Program} {w : World} {K : PySem.W.Frag} {mg : Str → Option Value} {base : Heap} {f : Addr} {fd : FuncData}
/-! ### turns, paired -/
theorem rsize2 (n : Nat) : Builtin.Range.rangeSize 0 (n : Int) 2 = (((n + 1) / 2 : Nat) : Int) := by
  unfold Builtin.Range.rangeSize
  by_cases q : (0 : Int) < n
  · simp only [show (2 : Int) > 0 by decide, q, if_true]
    omega
  · simp only [show (2 : Int) > 0 by decide, q, if_true, if_false]
    omega
theorem rgc2 (n : Nat) (h : n ≤ 1000) : RgC 0 (n : Int) 2 ((n + 1) / 2) := by
  refine ⟨by decide, by decide, ?_, rsize2 n⟩
  unfold Builtin.Range.small
  rw [rsize2]
  unfold Builtin.Range.rangeFitsLong
  rw [if_pos (show (2 : Int) > 0 by decide)]
  have e : ∀ x : Int, 0 ≤ x → x ≤ 2000 → (decide (-2 ^ 63 ≤ x) && decide (x < 2 ^ 63)) = true := fun x h0 h1 => by
    rw [decide_eq_true (show -2 ^ 63 ≤ x by omega), decide_eq_true (show x < 2 ^ 63 by omega)]
    rfl
  rw [e 0 (by decide) (by decide), e n (by omega) (by omega), e 2 (by decide) (by decide), e _ (by omega) (by omega), e ((n : Int) + (2 - 1)) (by omega) (by omega), Bool.or_true]
  rfl
theorem StrA.upd {H : Hp} {d : Addr} {ys : List V} {o : HO} (hd : H d = some (.lst ys)) : ∀ {xs : List V} {S : List MS.Str2}, StrA K H xs S → StrA K (upd H d o) xs S
  | _, _, .nil => .nil
  | _, _, .cons ⟨t, e, h⟩ r => .cons ⟨t, e, sqT_but (p := d) (fun b u e n => by rw [upd_ne n]; exact e) (fun u e => by rw [hd] at e; cases e; exact ⟨(by intro q; cases q), (by intro u q; cases q)⟩) h⟩ (StrA.upd hd r)
def spPaired (K : PySem.W.Frag) : Sp := fun vs H Q _ => ∃ (a : Addr) (ts : List Int), vs = [.ref a] ∧ SqL K H a (ts.map V.int) ∧ ts.length ≤ 1000 ∧
  ∀ (t : Addr) (xs : List V) (H' : Hp), Same H H' → H t = none → H' t = some (.tup xs) → StrA K H' xs (MS.paired ts) → Q (.ref t) H'
theorem StrA.snoc {H : Hp} {xs : List V} {S : List MS.Str2} {x : V} {p : MS.Str2} (h : StrA K H xs S) (q : StrT K H x p) : StrA K H (xs ++ [x]) (S ++ [p]) := h.app (.cons q .nil)
abbrev s_paired : Stmt := top 15
abbrev N_paired : List Str := ["turns", "found", "k", "high"]
theorem sc_paired : FnScope N_paired ["turns"] (defScope s_paired) := ⟨rfl, rfl, rfl, by decide +kernel, rfl, by decide +kernel, by decide +kernel⟩

theorem ok_paired (F : Fun K "paired" "paired" s_paired f fd) (T : Blt mg) : FnOk P w K mg base CX0 1 f fd ["turns"] (spPaired K) := by
  refine F.ok sc_paired (fun vs H Q E h => ?_) (fun cdv A outer s H vs Q E hr h => ?_)
  · obtain ⟨a, ts, rfl, _⟩ := h
    rfl
  · obtain ⟨a, ts, rfl, hS, hl, k⟩ := h
    refine ⟨_, (pss_cons (ps_set (i := 1) sc_paired.nd rfl (Or.inl rfl) (pe_lst pa_nil))
    (pss_cons (ps_for PassesOwn.never rfl (pi_range3 (by rfl) T.range_ (pa_cons pe_int (pa_cons (pe_callB (show CallR _ _ (rLenQ K) from c_len) (by rfl) T.len_ (by decide +kernel) (pa_cons (pv 0) pa_nil)) (pa_cons pe_int pa_nil)))) (pg_name (i := 2) sc_paired.nd rfl (Or.inl rfl))
      (pss_cons (ps_set (i := 3) sc_paired.nd rfl (Or.inl rfl) (pe_ifExp (pt_cmpR op_lt (pe_op op_add (pv 2) pe_int) (pe_callB (show CallR _ _ (rLenQ K) from c_len) (by rfl) T.len_ (by decide +kernel) (pa_cons (pv 0) pa_nil)) (nomark _)) (pe_op op_sub (pe_ix (show IxR _ (rIxL K) from ix_list) (pv 0) (pe_op op_add (pv 2) pe_int) (fun _ _ => rfl)) pe_int) pe_non))
      (pss_one (ps_expr (pe_bm PySem.F.plainAttrs_list PySem.F.slot_list_append PySem.F.type_list_append mt_append (pv 1) (pa_cons (pe_tup (pa_cons (pe_ix (show IxR _ (rIxL K) from ix_list) (pv 0) (pv 2) (fun _ _ => rfl)) (pa_cons (pv 3) pa_nil))) pa_nil))))))
    (pss_one (ps_ret (pe_callTy (show CallR _ _ (rTupQ K) from c_tuple) (by rfl) T.tuple_ (by decide +kernel) (pa_cons (pv 1) pa_nil)))))), ?_⟩
    refine ⟨(by show 0 ≤ sizeLine; decide), fun d hd => ?_⟩
    have s0 := same_new (Same.refl H) (.lst []) hd
    refine ⟨_, rfl, a, _, rfl, .inl (s0.seq hS), 0, (ts.length : Int), 2, (ts.length + 1) / 2, ?_, rgc2 _ hl, ?_⟩
    · rw [List.length_map]
    refine for_rangeC (fun i σ H' => ∃ (xs : List V) (v2 v3 : Option V), σ = [some (.ref a), some (.ref d), v2, v3] ∧ Same H H' ∧ H' d = some (.lst xs) ∧ StrA K H' xs ((MS.paired ts).take i)) ⟨[], none, none, rfl, s0, upd_same, .nil⟩ ?_ ?_
    · rintro i σ H1 hi ⟨xs, v2, v3, rfl, s1, hd1, hA⟩
      have h2 : 2 * i < ts.length := by omega
      obtain ⟨g1, g2⟩ := get_int (r := ts) (e := 2 * i) h2
      have gp := MS.paired_get ts i _ g2
      refine ⟨_, rfl, _, _, rfl, rfl, _, rfl, a, _, rfl, .inl (s1.seq hS), _, _, rfl, rfl, _, rfl, ?_⟩
      have e2 : (0 : Int) + (i : Int) * 2 = ((2 * i : Nat) : Int) := by omega
      by_cases h3 : 2 * i + 1 < ts.length
      · obtain ⟨g3, g4⟩ := get_int (r := ts) (e := 2 * i + 1) h3
        rw [g4] at gp
        rw [List.length_map, show decide ((0 : Int) + (i : Int) * 2 + 1 < (ts.length : Int)) = true from decide_eq_true (by omega)]
        refine iteT ?_
        refine ⟨_, rfl, _, rfl, _, _, rfl, rfl, a, _, _, _, rfl, rfl, s1.seq hS, at_of (j := 2 * i + 1) (by omega) g3, _, _, rfl, rfl, ?_⟩
        refine ⟨_, rfl, .inl ⟨rfl, _, .inl (.inl hd1)⟩, _, rfl, _, rfl, a, _, _, _, rfl, rfl, s1.seq hS, at_of (j := 2 * i) (by omega) g1, _, rfl, (by show 2 ≤ sizeLine; decide), fun t ht => ?_⟩
        have ndt : d ≠ t := ne_of_none hd1 ht
        have st := same_new (Same.refl H1) (.tup [.int (ts.getD (2 * i) 0), .int (ts.getD (2 * i + 1) 0 - 1)]) ht
        refine ⟨d, _, _, rfl, rfl, st _ _ hd1, ?_, ?_⟩
        · rw [hA.len, List.length_take]
          exact small1000 (by rw [MS.paired_length]; omega)
        refine ⟨xs ++ [.ref t], _, _, rfl, same_but_new (s1.trans st) hd, upd_same, ?_⟩
        rw [take_snoc gp]
        exact StrA.upd (st _ _ hd1) ((hA.same st).snoc ⟨t, rfl, SqT.of upd_same⟩)
      · rw [show ts[2 * i + 1]? = none from List.getElem?_eq_none (by omega)] at gp
        rw [List.length_map, show decide ((0 : Int) + (i : Int) * 2 + 1 < (ts.length : Int)) = false from decide_eq_false (by omega)]
        refine iteF ?_
        refine ⟨_, rfl, .inl ⟨rfl, _, .inl (.inl hd1)⟩, _, rfl, _, rfl, a, _, _, _, rfl, rfl, s1.seq hS, at_of (j := 2 * i) (by omega) g1, _, rfl, (by show 2 ≤ sizeLine; decide), fun t ht => ?_⟩
        have ndt : d ≠ t := ne_of_none hd1 ht
        have st := same_new (Same.refl H1) (.tup [.int (ts.getD (2 * i) 0), .non]) ht
        refine ⟨d, _, _, rfl, rfl, st _ _ hd1, ?_, ?_⟩
        · rw [hA.len, List.length_take]
          exact small1000 (by rw [MS.paired_length]; omega)
        refine ⟨xs ++ [.ref t], _, _, rfl, same_but_new (s1.trans st) hd, upd_same, ?_⟩
        rw [take_snoc gp]
        exact StrA.upd (st _ _ hd1) ((hA.same st).snoc ⟨t, rfl, SqT.of upd_same⟩)
    · rintro σ H1 ⟨xs, v2, v3, rfl, s1, hd1, hA⟩
      rw [List.take_of_length_le (by rw [MS.paired_length]; exact Nat.le_refl _)] at hA
      refine ⟨_, rfl, d, _, rfl, .inl ⟨SqL.of hd1, fun t ht => ?_⟩⟩
      exact k t xs _ (same_new s1 _ ht) (s1.free ht) upd_same (hA.same (same_new (Same.refl H1) _ ht))
theorem sorted_up (ns : List Int) (h : ns.Nodup) (s : ns.Pairwise (· ≤ ·)) : MS.Up ns := by
  refine List.Pairwise.imp₂ (fun a b h1 h2 => ?_) s h
  omega
theorem range_map (is : List Int) : ((List.range is.length).map fun i => V.int (is.getD i 0)) = is.map V.int := by
  refine List.ext_getElem? fun i => ?_
  by_cases h : i < is.length
  · rw [List.getElem?_map, List.getElem?_range h, (get_int h).1]
    rfl
  · rw [List.getElem?_eq_none (by simp; omega), List.getElem?_eq_none (by simp; omega)]
/-! ### covered -/
def spCovered (K : PySem.W.Frag) : Sp := fun vs H Q _ => ∃ (a : Addr) (xs : List V) (S : List MS.Str2) (lo hi : Int), vs = [.ref a, .int lo, .int hi] ∧ (SqL K H a xs ∨ SqT K H a xs) ∧ StrA K H xs S ∧ (∀ p ∈ S, Good p) ∧ S.length ≤ 200 ∧ 1 ≤ lo ∧
  ∀ (t : Addr) (ys : List V) (R : List MS.Str2) (H' : Hp), Same H H' → H t = none → H' t = some (.tup ys) → StrA K H' ys R → MS.Can (MS.depthF S lo hi) R → R.length ≤ S.length → Q (.ref t) H'
abbrev s_covered : Stmt := top 14
abbrev N_covered : List Str := ["stretches", "least", "most", "changes", "turns", "depth", "inside", "n", "place"]
theorem sc_covered : FnScope N_covered ["stretches", "least", "most"] (defScope s_covered) := ⟨rfl, rfl, rfl, by decide +kernel, rfl, by decide +kernel, by decide +kernel⟩

theorem ok_covered (F : Fun K "covered" "covered" s_covered f fd) (T : Blt mg) (G_depth_changes : Has P w K mg base 1 "depth_changes" ["stretches"] (spDepth K)) (G_paired : Has P w K mg base 1 "paired" ["turns"] (spPaired K)) : FnOk P w K mg base CX0 2 f fd ["stretches", "least", "most"] (spCovered K) := by
  refine F.ok sc_covered (fun vs H Q E h => ?_) (fun cdv A outer s H vs Q E hr h => ?_)
  · obtain ⟨a, xs, S, lo, hi, rfl, _⟩ := h
    rfl
  · obtain ⟨a, xs, S, lo, hi, rfl, hS, hA, hG, hl, h1, k⟩ := h
    have hu := hu_of hr
    refine ⟨_, (pss_cons (ps_set (i := 3) sc_covered.nd rfl (Or.inl rfl) (pe_has G_depth_changes (hr.mono (by decide)) (pa_cons (pv 0) pa_nil)))
    (pss_cons (ps_set (i := 4) sc_covered.nd rfl (Or.inl rfl) (pe_lst pa_nil))
    (pss_cons (ps_set (i := 5) sc_covered.nd rfl (Or.inl rfl) pe_int)
    (pss_cons (ps_set (i := 6) sc_covered.nd rfl (Or.inl rfl) pe_bl)
    (pss_cons (ps_for PassesOwn.never rfl (pi_list (pe_callB (show CallR _ _ (rSortedI K) from cr_sortedI) (by rfl) T.sorted_ (by decide +kernel) (pa_cons (pe_lock (pe_lc (own := [("place", 8)]) (g := gName 8) (tt := tYes) (by rfl) sc_covered.nd (pi_keys (pv 3)) (blkOk_by (own := [("place", 8)]) (N := N_covered) (sc := defScope s_covered) (by decide +kernel)) (fun _ _ _ _ _ => (pg_name (i := 8) sc_covered.nd rfl (by first | exact Or.inl rfl | exact Or.inr rfl))) (fun _ _ _ _ _ => pts_nil) (fun _ _ _ _ _ => (pe_callTy call_int1 (by rfl) T.int_ (by decide +kernel) (pa_cons (pv 8) pa_nil))))) pa_nil))) (pg_name (i := 7) sc_covered.nd rfl (Or.inl rfl))
      (pss_cons (ps_set (i := 5) sc_covered.nd rfl (Or.inl rfl) (pe_op op_add (pv 5) (pe_dget hu (pv 3) (pv 7) (fun _ _ => rfl))))
      (pss_one (ps_if (pt_cmpR op_ne (pv 6) (pe_chain op_le op_le (pv 1) (pv 5) (pv 2)) (nomark _))
        (pss_cons (ps_set (i := 6) sc_covered.nd rfl (Or.inl rfl) (pe_not (pv 6)))
        (pss_one (ps_expr (pe_bm PySem.F.plainAttrs_list PySem.F.slot_list_append PySem.F.type_list_append mt_append (pv 4) (pa_cons (pv 7) pa_nil)))))
        pss_nil))))
    (pss_one (ps_ret (pe_has G_paired (hr.mono (by decide)) (pa_cons (pv 4) pa_nil))))))))), ?_⟩
    refine ⟨_, rfl, a, xs, S, rfl, hS, hA, hl, fun d kvs H1 s1 nd hd D hk => ?_⟩
    refine ⟨(by show 0 ≤ sizeLine; decide), fun l hl0 => ?_⟩
    obtain ⟨is, his⟩ := D.key
    have isn : is.Nodup := by
      have := D.nd
      rw [his] at this
      exact (List.pairwise_map.mp this).imp fun h e => h (by rw [e])
    have isl : is.length ≤ 2 * S.length := by
      have := congrArg List.length his
      rw [List.length_map, List.length_map] at this
      omega
    have iskey : ∀ n, n ∈ is ↔ MS.keyB S n = true := fun n => by
      have v := D.val n
      constructor
      · intro hn
        cases e : MS.keyB S n
        · rw [e] at v
          have : (Sum.inl n : Key) ∈ kvs.map (·.1) := by rw [his]; exact List.mem_map.mpr ⟨n, hn, rfl⟩
          exact absurd this (valV_not v)
        · rfl
      · intro e
        rw [e] at v
        have := valV_in v
        rw [his] at this
        obtain ⟨m, hm, e2⟩ := List.mem_map.mp this
        rw [← Sum.inl.inj e2]
        exact hm
    have s2 := same_new (Same.refl H1) (.lst []) hl0
    have hd2 := s2 _ _ hd
    have hl2 : (upd H1 l (.lst [])) l = some (.lst []) := upd_same
    have s12 := s1.trans s2
    have nl2 : H l = none := s1.free hl0
    generalize upd H1 l (.lst []) = H2 at s2 hd2 hl2 s12
    have ndl : d ≠ l := ne_of hd2 hl2 (by intro z; cases z)
    refine ⟨d, .dK kvs, hd2, trivial, fun od => ?_⟩
    refine ⟨_, rfl, d, od, rfl, .inl ⟨kvs, upd_same, fun D' hD' => ?_⟩⟩
    have nD'd : D' ≠ d := (ne_of_none (upd_same (H := H2) (a := d)) hD').symm
    have klen : kvs.length = is.length := by
      have := congrArg List.length his
      rw [List.length_map, List.length_map] at this
      exact this
    refine ZK.lc_grow kvs.length (small1000 (by omega)) (fun _ H' => H' d = some (.frz od (.dK kvs)) ∧ But d H2 H') (fun i y => y = .int (is.getD i 0)) ⟨by rw [upd_ne nD'd.symm]; exact upd_same, ?_⟩ ?_ ?_ ?_ ?_
    · exact ((But.refl d H2).upd _).new _ hD'
    · exact fun i H' hi hI => ⟨hI.1, hi⟩
    · exact fun H' hI => ⟨hI.1, Nat.le_refl _⟩
    · rintro i H3 x H' acc hi ⟨hf, hb⟩ hacc hal hR ⟨rfl, kk, v, hkv, rfl⟩ Qn hq
      have e1 : (kvs.map (·.1))[i]? = some kk := by rw [List.getElem?_map, hkv]; rfl
      rw [his, List.getElem?_map] at e1
      obtain ⟨m, hm, e2⟩ := Option.map_eq_some_iff.mp e1
      subst e2
      have em : is.getD i 0 = m := by rw [List.getD_eq_getElem?_getD, hm]; rfl
      refine ⟨rfl, _, rfl, .inl ⟨m, rfl, hq _ _ (by rw [em]) hacc ⟨?_, ?_⟩⟩⟩
      · rw [upd_ne nD'd.symm]
        exact hf
      · exact fun b o e n => by
          rw [upd_ne (by intro z; subst z; exact absurd e (by rw [show H2 b = none from by have := hD'; rw [upd_ne nD'd] at this; exact this]; intro z; cases z))]
          exact hb b o e n
    · rintro H3 acc ⟨hf, hb⟩ hacc hal hR
      have eacc : acc = is.map V.int := by
        rw [ZK.eq_map hal hR, klen]
        exact range_map is
      refine ⟨hf, D', is, rfl, SqL.of (by rw [upd_ne nD'd, hacc, eacc]), fun ks p hperm hle hp => ?_⟩
      have h3 : Same H2 (upd H3 d (.dK kvs)) := fun b o e => by
        by_cases z : b = d
        · subst z
          rw [hd2] at e
          rw [upd_same]
          exact e
        · rw [upd_ne z]
          exact hb b o e z
      have s3 := h3.trans (same_new (Same.refl _) (.lst (ks.map V.int)) hp)
      have hks : (upd (upd H3 d (.dK kvs)) p (.lst (ks.map V.int))) p = some (.lst (ks.map V.int)) := upd_same
      have nl : p ≠ l := (ne_of_none (h3 _ _ hl2) hp).symm
      have hd4 := s3 _ _ hd2
      have hl4 := s3 _ _ hl2
      have s4 := s12.trans s3
      generalize upd (upd H3 d (.dK kvs)) p (.lst (ks.map V.int)) = H4 at hks hd4 hl4 s4 ⊢
      have ksn : ks.Nodup := hperm.nodup_iff.mpr isn
      have kup := sorted_up ks ksn hle
      have kkey : ∀ n, n ∈ ks ↔ MS.keyB S n = true := fun n => (hperm.mem_iff).trans (iskey n)
      have kl : ks.length ≤ 2 * S.length := by rw [hperm.length_eq]; exact isl
      have kin : ∀ q ∈ S, MS.GoodS q ∧ q.1 ∈ ks ∧ ∀ h, q.2 = some h → h + 1 ∈ ks := fun q hq => by
        refine ⟨hG q hq, (kkey _).mpr (List.any_eq_true.mpr ⟨q, hq, by simp⟩), fun h e => (kkey _).mpr (List.any_eq_true.mpr ⟨q, hq, ?_⟩)⟩
        rw [e]
        simp
      refine ⟨p, rfl, ⟨_, SqL.of hks⟩, ?_⟩
      refine for_list (K := K) (a := p) (xs := ks.map V.int) (fun i σ H' => ∃ (v7 : Option V) (b : Bool) (T : List Int), σ = [some (.ref a), some (.int lo), some (.int hi), some (.ref d), some (.ref l), some (.int ((ks.take i).map (MS.ch S)).sum), some (.bl b), v7, none] ∧
        But l H4 H' ∧ H' l = some (.lst (T.map V.int)) ∧ T ++ MS.scan (MS.depthF S lo hi) b (ks.drop i) = MS.scan (MS.depthF S lo hi) false ks ∧ T.length ≤ i) ⟨none, false, [], rfl, But.refl _ _, hl4, rfl, Nat.zero_le _⟩ ?_ ?_ ?_
      · rintro i σ H' hi ⟨_, _, _, _, b5, _⟩
        exact SqL.of (b5 _ _ hks nl)
      · rintro i x σ H5 hx ⟨v7, b, T, rfl, b5, hl5, hT, hTl⟩
        obtain ⟨hj, rfl⟩ := int_at hx
        have gi : ks[i]? = some (ks.getD i 0) := (get_int hj).2
        generalize ks.getD i 0 = n at gi ⊢
        have hd5 := b5 _ _ hd4 ndl
        have hn : n ∈ ks := List.mem_of_getElem? gi
        have gv : DGet H5 d (.int n) (some (.int (MS.ch S n))) := by
          have g := DGet.k (k := Sum.inl n) hd5
          rw [D.val n, if_pos ((kkey n).mp hn)] at g
          exact g
        have esum : ((ks.take i).map (MS.ch S)).sum + MS.ch S n = ((ks.take (i + 1)).map (MS.ch S)).sum := by
          rw [take_snoc gi, List.map_append, List.sum_append]
          simp
        have ecnt : ((ks.take (i + 1)).map (MS.ch S)).sum = MS.cnt S n := by
          rw [← MS.take_sum kup gi]
          exact MS.sum_ch ksn n S kin
        have edrop : ks.drop i = n :: ks.drop (i + 1) := by
          rw [List.drop_eq_getElem_cons (List.getElem?_eq_some_iff.mp gi).1]
          rw [(List.getElem?_eq_some_iff.mp gi).2]
        rw [edrop] at hT
        have ef : MS.depthF S lo hi n = (decide (lo ≤ MS.cnt S n) && decide (MS.cnt S n ≤ hi)) := rfl
        refine ⟨_, rfl, _, rfl, _, rfl, d, _, rfl, gv, _, _, rfl, rfl, ?_⟩
        rw [← ecnt, ← esum] at ef
        by_cases q1 : lo ≤ ((ks.take i).map (MS.ch S)).sum + MS.ch S n
        · by_cases q2 : ((ks.take i).map (MS.ch S)).sum + MS.ch S n ≤ hi
          · rw [decide_eq_true q1, decide_eq_true q2] at ef
            replace ef : MS.depthF S lo hi n = true := ef
            refine ⟨_, rfl, _, rfl, _, rfl, _, _, rfl, rfl, true, congrArg V.bl (decide_eq_true q1), iteT ⟨_, rfl, _, _, rfl, rfl, ?_⟩⟩
            simp only [decide_eq_true q2]
            cases b
            · refine ⟨rfl, true, rfl, iteT ?_⟩
              refine ⟨_, rfl, _, rfl, ?_⟩
              refine ⟨_, rfl, .inl ⟨rfl, _, .inl (.inl hl5)⟩, _, rfl, l, _, _, rfl, rfl, hl5, ?_, ?_⟩
              · rw [List.length_map]
                exact small1000 (by omega)
              exact ⟨_, true, T ++ [n], by rw [← esum]; rfl, b5.upd _, by rw [upd_same, List.map_append]; rfl, by rw [← hT]; simp [MS.scan, ef], by rw [List.length_append]; simp; omega⟩
            · refine ⟨rfl, false, rfl, iteF ?_⟩
              exact ⟨_, true, T, by rw [← esum]; rfl, b5, hl5, by rw [← hT]; simp only [MS.scan, ef, if_true], by omega⟩
          · rw [decide_eq_true q1, decide_eq_false q2] at ef
            replace ef : MS.depthF S lo hi n = false := ef
            refine ⟨_, rfl, _, rfl, _, rfl, _, _, rfl, rfl, true, congrArg V.bl (decide_eq_true q1), iteT ⟨_, rfl, _, _, rfl, rfl, ?_⟩⟩
            simp only [decide_eq_false q2]
            cases b
            · refine ⟨rfl, false, rfl, iteF ?_⟩
              exact ⟨_, false, T, by rw [← esum]; rfl, b5, hl5, by rw [← hT]; simp only [MS.scan, ef, if_true], by omega⟩
            · refine ⟨rfl, true, rfl, iteT ?_⟩
              refine ⟨_, rfl, _, rfl, ?_⟩
              refine ⟨_, rfl, .inl ⟨rfl, _, .inl (.inl hl5)⟩, _, rfl, l, _, _, rfl, rfl, hl5, ?_, ?_⟩
              · rw [List.length_map]
                exact small1000 (by omega)
              exact ⟨_, false, T ++ [n], by rw [← esum]; rfl, b5.upd _, by rw [upd_same, List.map_append]; rfl, by rw [← hT]; simp [MS.scan, ef], by rw [List.length_append]; simp; omega⟩
        · rw [decide_eq_false q1, Bool.false_and] at ef
          refine ⟨_, rfl, _, rfl, _, rfl, _, _, rfl, rfl, false, congrArg V.bl (decide_eq_false q1), iteF ?_⟩
          cases b
          · refine ⟨rfl, false, rfl, iteF ?_⟩
            exact ⟨_, false, T, by rw [← esum]; rfl, b5, hl5, by rw [← hT]; simp only [MS.scan, ef, if_true], by omega⟩
          · refine ⟨rfl, true, rfl, iteT ?_⟩
            refine ⟨_, rfl, _, rfl, ?_⟩
            refine ⟨_, rfl, .inl ⟨rfl, _, .inl (.inl hl5)⟩, _, rfl, l, _, _, rfl, rfl, hl5, ?_, ?_⟩
            · rw [List.length_map]
              exact small1000 (by omega)
            exact ⟨_, false, T ++ [n], by rw [← esum]; rfl, b5.upd _, by rw [upd_same, List.map_append]; rfl, by rw [← hT]; simp [MS.scan, ef], by rw [List.length_append]; simp; omega⟩
      · rintro σ H5 ⟨v7, b, T, rfl, b5, hl5, hT, hTl⟩
        rw [List.length_map, List.drop_length] at hT
        have eT : T = MS.scan (MS.depthF S lo hi) false ks := by rw [← hT, MS.scan, List.append_nil]
        rw [List.length_map] at hTl
        refine ⟨_, rfl, l, T, rfl, SqL.of hl5, by omega, fun t ys H6 s6 nt ht hA6 => ?_⟩
        have sH5 : Same H H5 := fun b o e => b5 b o (s4 b o e) (ne_of_none e nl2)
        refine k t ys _ H6 (sH5.trans s6) (sH5.free nt) ht hA6 ?_ ?_
        · rw [eT]
          exact MS.depth_can hG h1 kup kkey
        · rw [MS.paired_length]
          omega
end
end EN

namespace EN
open PySem L2 PyProof.Rows
section
variable {P : Program} {w : World} {K : PySem.W.Frag} {mg : Str → Option Value} {base : Heap} {f : Addr} {fd : FuncData}
/-! ### the operations on tuples of stretches -/
def spOp2 (K : PySem.W.Frag) (m e : Nat) (op : Bool → Bool → Bool) : Sp := fun vs H Q _ => ∃ (a b : Addr) (xs ys : List V) (A B : List MS.Str2) (g h : Int → Bool), vs = [.ref a, .ref b] ∧ SqT K H a xs ∧ SqT K H b ys ∧ StrA K H xs A ∧ StrA K H ys B ∧ MS.Can g A ∧ MS.Can h B ∧
  A.length ≤ m ∧ B.length ≤ m ∧ ∀ (t : Addr) (zs : List V) (R : List MS.Str2) (H' : Hp), Same H H' → H t = none → H' t = some (.tup zs) → StrA K H' zs R → MS.Can (fun n => op (g n) (h n)) R → R.length ≤ A.length + B.length + e → Q (.ref t) H'
def spOutside (K : PySem.W.Frag) : Sp := fun vs H Q _ => ∃ (a : Addr) (xs : List V) (A : List MS.Str2) (g : Int → Bool), vs = [.ref a] ∧ SqT K H a xs ∧ StrA K H xs A ∧ MS.Can g A ∧ A.length ≤ 98 ∧
  ∀ (t : Addr) (zs : List V) (R : List MS.Str2) (H' : Hp), Same H H' → H t = none → H' t = some (.tup zs) → StrA K H' zs R → MS.Can (fun n => decide (0 ≤ n) && !g n) R → R.length ≤ A.length + 1 → Q (.ref t) H'
theorem cat_t {H : Hp} {a b : Addr} {xs ys : List V} (hS : SqT K H a xs) (hT : SqT K H b ys) (hl : xs.length + ys.length ≤ 1000) {Q : VK} (k : ∀ (c : Addr) (H' : Hp), Same H H' → SqT K H' c (xs ++ ys) → Q (.ref c) H') : rCatA K (.ref a) (.ref b) H Q :=
  ⟨a, b, xs, ys, rfl, rfl, hS, hT, Nat.le_of_lt (small1000 hl), fun e => k b H (Same.refl H) (by rw [e]; exact hT), fun _ e => k a H (Same.refl H) (by rw [e, List.append_nil]; exact hS), fun _ _ p hp => k p _ (same_new (Same.refl H) _ hp) (SqT.of upd_same)⟩
theorem good_app {A B : List MS.Str2} (a : ∀ p ∈ A, Good p) (b : ∀ p ∈ B, Good p) : ∀ p ∈ A ++ B, Good p := fun p h => (List.mem_append.mp h).elim (a p) (b p)
abbrev s_either_of : Stmt := top 16
abbrev N_either_of : List Str := ["stretches", "others"]
theorem sc_either_of : FnScope N_either_of ["stretches", "others"] (defScope s_either_of) := ⟨rfl, rfl, rfl, by decide +kernel, rfl, by decide +kernel, by decide +kernel⟩

theorem ok_either (F : Fun K "either_of" "either_of" s_either_of f fd) (T : Blt mg) (G_covered : Has P w K mg base 2 "covered" ["stretches", "least", "most"] (spCovered K)) : FnOk P w K mg base CX0 3 f fd ["stretches", "others"] (spOp2 K 100 0 or) := by
  refine F.ok sc_either_of (fun vs H Q E h => ?_) (fun cdv A outer s H vs Q E hr h => ?_)
  · obtain ⟨a, b, _, _, _, _, _, _, rfl, _⟩ := h
    rfl
  · obtain ⟨a, b, xs, ys, A1, B1, g, h, rfl, hS, hT, hA, hB, cA, cB, lA, lB, k⟩ := h
    refine ⟨_, (pss_one (ps_ret (pe_has G_covered (hr.mono (by decide)) (pa_cons (pe_op (show OpR _ _ (rCatA K) from op_catA) (pv 0) (pv 1)) (pa_cons pe_int (pa_cons pe_int pa_nil)))))), ?_⟩
    have l1 := hA.len
    have l2 := hB.len
    refine ⟨_, rfl, _, rfl, cat_t hS hT (by omega) fun c H1 s1 hc => ⟨c, xs ++ ys, A1 ++ B1, 1, 2, rfl, .inr hc, (hA.same s1).app (hB.same s1), good_app cA.good cB.good, ?_, by decide, fun t zs R H2 s2 nt ht hR cR lR => ?_⟩⟩
    · rw [List.length_append]
      omega
    · rw [List.length_append] at lR
      exact k t zs R H2 (s1.trans s2) (s1.free nt) ht hR (cR.congr (MS.either_f cA cB)) (by omega)
abbrev s_both_of : Stmt := top 17
abbrev N_both_of : List Str := ["stretches", "others"]
theorem sc_both_of : FnScope N_both_of ["stretches", "others"] (defScope s_both_of) := ⟨rfl, rfl, rfl, by decide +kernel, rfl, by decide +kernel, by decide +kernel⟩

theorem ok_both (F : Fun K "both_of" "both_of" s_both_of f fd) (T : Blt mg) (G_covered : Has P w K mg base 2 "covered" ["stretches", "least", "most"] (spCovered K)) : FnOk P w K mg base CX0 3 f fd ["stretches", "others"] (spOp2 K 100 0 and) := by
  refine F.ok sc_both_of (fun vs H Q E h => ?_) (fun cdv A outer s H vs Q E hr h => ?_)
  · obtain ⟨a, b, _, _, _, _, _, _, rfl, _⟩ := h
    rfl
  · obtain ⟨a, b, xs, ys, A1, B1, g, h, rfl, hS, hT, hA, hB, cA, cB, lA, lB, k⟩ := h
    refine ⟨_, (pss_one (ps_ret (pe_has G_covered (hr.mono (by decide)) (pa_cons (pe_op (show OpR _ _ (rCatA K) from op_catA) (pv 0) (pv 1)) (pa_cons pe_int (pa_cons pe_int pa_nil)))))), ?_⟩
    have l1 := hA.len
    have l2 := hB.len
    refine ⟨_, rfl, _, rfl, cat_t hS hT (by omega) fun c H1 s1 hc => ⟨c, xs ++ ys, A1 ++ B1, 2, 2, rfl, .inr hc, (hA.same s1).app (hB.same s1), good_app cA.good cB.good, ?_, by decide, fun t zs R H2 s2 nt ht hR cR lR => ?_⟩⟩
    · rw [List.length_append]
      omega
    · rw [List.length_append] at lR
      exact k t zs R H2 (s1.trans s2) (s1.free nt) ht hR (cR.congr (MS.both_f cA cB)) (by omega)
abbrev s_one_of : Stmt := top 18
abbrev N_one_of : List Str := ["stretches", "others"]
theorem sc_one_of : FnScope N_one_of ["stretches", "others"] (defScope s_one_of) := ⟨rfl, rfl, rfl, by decide +kernel, rfl, by decide +kernel, by decide +kernel⟩

theorem ok_one (F : Fun K "one_of" "one_of" s_one_of f fd) (T : Blt mg) (G_covered : Has P w K mg base 2 "covered" ["stretches", "least", "most"] (spCovered K)) : FnOk P w K mg base CX0 3 f fd ["stretches", "others"] (spOp2 K 100 0 bne) := by
  refine F.ok sc_one_of (fun vs H Q E h => ?_) (fun cdv A outer s H vs Q E hr h => ?_)
  · obtain ⟨a, b, _, _, _, _, _, _, rfl, _⟩ := h
    rfl
  · obtain ⟨a, b, xs, ys, A1, B1, g, h, rfl, hS, hT, hA, hB, cA, cB, lA, lB, k⟩ := h
    refine ⟨_, (pss_one (ps_ret (pe_has G_covered (hr.mono (by decide)) (pa_cons (pe_op (show OpR _ _ (rCatA K) from op_catA) (pv 0) (pv 1)) (pa_cons pe_int (pa_cons pe_int pa_nil)))))), ?_⟩
    have l1 := hA.len
    have l2 := hB.len
    refine ⟨_, rfl, _, rfl, cat_t hS hT (by omega) fun c H1 s1 hc => ⟨c, xs ++ ys, A1 ++ B1, 1, 1, rfl, .inr hc, (hA.same s1).app (hB.same s1), good_app cA.good cB.good, ?_, by decide, fun t zs R H2 s2 nt ht hR cR lR => ?_⟩⟩
    · rw [List.length_append]
      omega
    · rw [List.length_append] at lR
      exact k t zs R H2 (s1.trans s2) (s1.free nt) ht hR (cR.congr (MS.one_f cA cB)) (by omega)
abbrev s_outside : Stmt := top 19
abbrev N_outside : List Str := ["stretches"]
theorem sc_outside : FnScope N_outside ["stretches"] (defScope s_outside) := ⟨rfl, rfl, rfl, by decide +kernel, rfl, by decide +kernel, by decide +kernel⟩

theorem ok_outside (F : Fun K "outside" "outside" s_outside f fd) (T : Blt mg) (G_one_of : Has P w K mg base 3 "one_of" ["stretches", "others"] (spOp2 K 100 0 bne)) : FnOk P w K mg base CX0 4 f fd ["stretches"] (spOutside K) := by
  refine F.ok sc_outside (fun vs H Q E h => ?_) (fun cdv A outer s H vs Q E hr h => ?_)
  · obtain ⟨a, _, _, _, rfl, _⟩ := h
    rfl
  · obtain ⟨a, xs, A1, g, rfl, hS, hA, cA, lA, k⟩ := h
    refine ⟨_, (pss_one (ps_ret (pe_has G_one_of (hr.mono (by decide)) (pa_cons (pv 0) (pa_cons (pe_tup (pa_cons (pe_tup (pa_cons pe_int (pa_cons pe_non pa_nil))) pa_nil)) pa_nil))))), ?_⟩
    refine ⟨_, rfl, (by show 2 ≤ sizeLine; decide), fun t1 h1 => ⟨(by show 1 ≤ sizeLine; decide), fun t2 h2 => ?_⟩⟩
    have s1 := same_new (Same.refl H) (.tup [.int 0, .non]) h1
    have s2 := same_new (Same.refl (upd H t1 (.tup [.int 0, .non]))) (.tup [.ref t1]) h2
    refine ⟨a, t2, xs, [.ref t1], A1, [(0, none)], g, _, rfl, sqT_same s2 (sqT_same s1 hS), SqT.of upd_same, (hA.same s1).same s2, .cons ⟨t1, rfl, sqT_same s2 (SqT.of upd_same)⟩ .nil, cA, MS.can_all, by omega, by decide, fun t zs R H2 s3 nt ht hR cR lR => ?_⟩
    refine k t zs R H2 ((s1.trans s2).trans s3) ((s1.trans s2).free nt) ht hR (cR.congr fun n => ?_) (by simpa using lR)
    by_cases q : 0 ≤ n
    · rw [decide_eq_true q]
      cases g n <;> rfl
    · rw [decide_eq_false q, cA.neg n (by omega)]
      rfl
abbrev s_first_without : Stmt := top 20
abbrev N_first_without : List Str := ["stretches", "others"]
theorem sc_first_without : FnScope N_first_without ["stretches", "others"] (defScope s_first_without) := ⟨rfl, rfl, rfl, by decide +kernel, rfl, by decide +kernel, by decide +kernel⟩

theorem ok_without (F : Fun K "first_without" "first_without" s_first_without f fd) (T : Blt mg) (G_both_of : Has P w K mg base 3 "both_of" ["stretches", "others"] (spOp2 K 100 0 and)) (G_outside : Has P w K mg base 4 "outside" ["stretches"] (spOutside K)) : FnOk P w K mg base CX0 5 f fd ["stretches", "others"] (spOp2 K 98 1 fun a b => a && !b) := by
  refine F.ok sc_first_without (fun vs H Q E h => ?_) (fun cdv A outer s H vs Q E hr h => ?_)
  · obtain ⟨a, b, _, _, _, _, _, _, rfl, _⟩ := h
    rfl
  · obtain ⟨a, b, xs, ys, A1, B1, g, h, rfl, hS, hT, hA, hB, cA, cB, lA, lB, k⟩ := h
    refine ⟨_, (pss_one (ps_ret (pe_has G_both_of (hr.mono (by decide)) (pa_cons (pv 0) (pa_cons (pe_has G_outside (hr.mono (by decide)) (pa_cons (pv 1) pa_nil)) pa_nil))))), ?_⟩
    refine ⟨_, rfl, _, rfl, b, ys, B1, h, rfl, hT, hB, cB, lB, fun t1 z1 R1 H1 s1 n1 h1 hR1 cR1 lR1 => ?_⟩
    refine ⟨a, t1, xs, z1, A1, R1, g, _, rfl, sqT_same s1 hS, SqT.of h1, hA.same s1, hR1, cA, cR1, by omega, by omega, fun t zs R H2 s2 nt ht hR cR lR => ?_⟩
    refine k t zs R H2 (s1.trans s2) (s1.free nt) ht hR (cR.congr fun n => ?_) ?_
    · by_cases q : 0 ≤ n
      · rw [decide_eq_true q, Bool.true_and]
      · rw [cA.neg n (by omega)]
        rfl
    · omega
end
end EN

/-! calls through a class: its staticmethods, the class held by a local name, math.factorial -/
namespace EN
open PySem L2 PyProof.Rows
/-- C.m is a staticmethod: its record at p, its def at g -/
structure SMet (K : PySem.W.Frag) (C : Addr) (mc : Value) (m : Str) (p g : Addr) : Prop where
  at_ : PySem.W.findCls K (.ref C) mc m = some (.get (.builtin "staticmethod.__get__") (.ref p) .none (.ref C))
  rc : ∃ rest, PySem.W.recIn K p "staticmethod" = some (.ref g :: rest)
  kp : PySem.W.keepIn K (.ref g) = true
def tSMeth (C : Addr) (sp : Sp) (dvs : List V) (E : XK) (ta : TE) (t : TA) : TE := fun σ H Q => ta σ H fun x H1 => x = .ref C ∧ t σ H1 fun vs H2 => sp (vs ++ dvs) H2 Q E
section
variable {X : Cx} {CX : CXT} {k : Nat} {C p g f : Addr} {mc : Value} {sp : Sp} {E : XK} {o e : Expr} {es : List Expr} {m x : Str} {pos apos np : Pos} {ta : TE} {t : TA} {pl : Sem Bool} {fd : FuncData} {ps : List Str} {dvs : List V} {ds : List Value}
theorem pe_smeth (he : PE X o ta) (r : ClX.CRead X.K C mc) (c : SMet X.K C mc m p g) (F : FnOk X.prog X.w X.K X.mg X.base CX k g fd ps sp) (hr : Room k X.A) (hb : Binds X.K fd ps ds) (hd : Vals dvs ds) (hx : Passes CX X E) (ha : PA X (e :: es) t)
    (hst : starEach (e :: es) X.env = (false, eval e X.env) :: starEach es X.env := by rfl) (hpl : (backTo pos (starEach es X.env)).any (·.1) = false := by rfl)
    (ht : eval (.Call (.Attribute o m apos) (e :: es) [] pos) X.env = (do
      let ov ← eval o X.env
      standAt apos.atName
      let (f, first) ← holding [ov] (getMethod ov m pl)
      callWith pos f first (backTo pos (starEach (e :: es) X.env)) (backToKw pos (keywordEach [] X.env))) := by rfl) :
    PE X (.Call (.Attribute o m apos) (e :: es) [] pos) (tSMeth C sp dvs E ta t) := by
  refine ⟨fun pins s σ H Q I h => PySem.W.methodCall_KW (pl := pl) (thn (he.run pins s σ H _ I h) fun u s1 ⟨y, H1, I1, ry, ey, q⟩ => ?_) ht⟩
  subst ey
  obtain rfl : u = Value.ref C := ry
  obtain ⟨rest, hp⟩ := c.rc
  refine PySem.W.method_cls I1.kIn r.ga (PySem.W.cls_bind I1.kIn r.rd c.at_ (wpAny_call (PySem.W.sm_get (s := { s1 with toks := s1.toks + 1 }) I1.kIn hp (PySem.W.handed_on rfl ?_))))
  have I2 := I1.tok (s1.toks + 1)
  refine PySem.W.callWith_K (h₀ := X.base) I2.ok.mod.kin c.kp (thn (ha.run pos pins _ σ H1 _ I2 q) fun us s2 ⟨vs, H2, I3, rv, q2⟩ => ⟨I3.kIn, ?_⟩) hst hpl
  exact run_fn F hr hb hd hx I3 rv q2
/-- x(e, ..), the local name x holds the class at C -/
def tMakeL (i : Nat) (C : Addr) (sp : Sp) (dvs : List V) (E : XK) (t : TA) : TE := fun σ H Q => σ[i]? = some (some (.ref C)) ∧ tMake C sp dvs E t σ H Q
theorem pe_makeL {i : Nat} (M : Mk X.K C f) (F : FnOk X.prog X.w X.K X.mg X.base CX k f fd ps sp) (hr : Room (k + 1) X.A) (hN : X.N[i]? = some x) (hv : Vis X.env.scope x) (hb : Binds X.K fd ps ds) (hd : Vals dvs ds) (hx : Passes CX X E) (ha : PA X (e :: es) t)
    (hdb : (x == ("__debug__" : Str)) = false := by decide) (hcd : (x == ("__classdict__" : Str)) = false := by decide)
    (he : starEach (e :: es) X.env = (false, eval e X.env) :: starEach es X.env := by rfl) (hpl : (backTo pos (starEach es X.env)).any (·.1) = false := by rfl) : PE X (.Call (.Name x np) (e :: es) [] pos) (tMakeL i C sp dvs E t) := by
  refine ⟨fun pins s σ H Q I ⟨hs, h⟩ => wpAny_Call_Name_kw (thn ((pe_var (pos := np) hN hv hdb hcd).run pins s σ H (fun v H1 => v = .ref C ∧ H1 = H) I ⟨.ref C, hs, rfl, rfl⟩) fun u s1 ⟨v, H1, I1, r1, q1⟩ => ?_)⟩
  obtain ⟨rfl, rfl⟩ := q1
  cases r1
  refine PySem.W.callWith_K (h₀ := X.base) I.ok.mod.kin M.kp (thn (ha.run pos pins s1 σ _ _ I1 h) fun us s2 ⟨vs, H2, I2, rv, q⟩ => ⟨I2.kIn, ?_⟩) he hpl
  exact run_make M F hr hb hd hx I2 rv q
def rFactorial : List V → Hp → VK → Prop := fun vs H Q => ∃ n : Nat, vs = [.int (n : Int)] ∧ n ≤ 1000 ∧ Q (.int (M.fac n)) H
theorem facN : ∀ n : Nat, ((Builtin.Math.factorialNat n : Nat) : Int) = M.fac n
  | 0 => by decide +kernel
  | n + 1 => by
    rw [PySem.W.mc_fac_succ, Int.natCast_mul, facN n]
    rfl
theorem cr_factorial : CallR X (.builtin "math.factorial") rFactorial := by
  intro pins s σ H vs us Q I r h
  obtain ⟨n, rfl, hn, q⟩ := h
  obtain ⟨u, rfl, ru⟩ := vals1 r
  obtain ⟨tk, rfl⟩ := ru
  refine PySem.W.mc_factorial (by omega) (by omega) fun _ => ⟨.int _, H, I.tok _, ⟨_, rfl⟩, ?_⟩
  rw [show ((n : Int)).toNat = n by omega, facN]
  exact q
end
end EN

/-! operators that an own class defines, for instances with a dict -/
namespace EO
open PySem PySem.Spec PyProof.Rows L2
section
variable {prog : Program} {w : World} {A : Around} {E : Value → Shared → Prop} {s : Shared} {K : PySem.W.Frag} {x C f : Addr} {ox : Obj} {od : Option Obj} {b : Value}
/-- what comes back is a value -/
def Got (Q : Value → Shared → Prop) : Value → Shared → Prop := fun v s' => v ≠ .notImplemented ∧ Q v s'
theorem try_own {name : Str} {Q : Option Value → Shared → Prop} (kin : K.In s.heap) (inst : PySem.W.InstAt s.heap x ox C od) (at_ : PySem.W.findIn K (.ref C) name = some (some (.ref f))) (fn : PySem.W.isFn K (.ref f) = true)
    (run : wpAny (model prog w) A (call (.ref f) [.ref x, b]) (Got fun v s' => Q (some v) s') E s) : wpAny (model prog w) A (tryMethod (.ref x) name b) Q E s := by
  simp only [tryMethod]
  refine wpAny_bind (PySem.W.special_fn kin inst at_ (beq_iff_eq.mp fn) (wpAny_mono run (fun v s1 g => ?_) fun _ _ z => z))
  obtain ⟨ne, q⟩ := g
  cases v
  case notImplemented => exact absurd rfl ne
  all_goals exact wpAny_pure q
theorem cmp_own {name : Str} {Q : Option Value → Shared → Prop} (kin : K.In s.heap) (inst : PySem.W.InstAt s.heap x ox C od) (at_ : PySem.W.findIn K (.ref C) name = some (some (.ref f))) (fn : PySem.W.isFn K (.ref f) = true)
    (run : wpAny (model prog w) A (call (.ref f) [.ref x, b]) (Got fun v s' => Q (some v) s') E s) : wpAny (model prog w) A (tryCompare (.ref x) name b) Q E s := by
  simp only [tryCompare]
  refine wpAny_bind (PySem.W.ifBound_K kin inst at_ fn (wpAny_mono run (fun v s1 g => ?_) fun _ _ z => z))
  obtain ⟨ne, q⟩ := g
  cases v
  case notImplemented => exact absurd rfl ne
  all_goals exact wpAny_pure q
theorem un_own {op : UnaryOp} {name : Str} {Q : Value → Shared → Prop} (hop : op ≠ .Not) (hn : name = (match op with | .Invert => "__invert__" | .UAdd => "__pos__" | .USub => "__neg__" | .Not => ("" : Str)))
    (kin : K.In s.heap) (inst : PySem.W.InstAt s.heap x ox C od) (at_ : PySem.W.findIn K (.ref C) name = some (some (.ref f))) (fn : PySem.W.isFn K (.ref f) = true)
    (run : wpAny (model prog w) A (call (.ref f) [.ref x]) Q E s) : wpAny (model prog w) A (unaryOp op (.ref x)) Q E s := by
  subst hn
  cases op
  case Not => exact absurd rfl hop
  all_goals
    unfold unaryOp
    exact wpAny_holding (wpAny_bind (PySem.W.special_fn kin inst at_ (beq_iff_eq.mp fn) (wpAny_mono run (fun v s1 z => wpAny_pure z) fun _ _ z => z)))
theorem first_own (sf : PySem.W.selfFirst K C = true) : ∃ cd rest, PySem.W.clsIn K C = some cd ∧ cd.mro = .ref C :: rest := PySem.W.ksp_first sf
/-- a op b, both of the class C -/
theorem bin_same {op : Operator} {Q : Value → Shared → Prop} (kin : K.In s.heap) (inst : PySem.W.InstAt s.heap x ox C od) (tb : PySem.W.Looks (model prog w) s.heap (typeOf b) (.ref C)) (sf : PySem.W.selfFirst K C = true)
    (at_ : PySem.W.findIn K (.ref C) (PySem.dunder op.info.2) = some (some (.ref f))) (fn : PySem.W.isFn K (.ref f) = true) (run : wpAny (model prog w) A (call (.ref f) [.ref x, b]) (Got Q) E s) : wpAny (model prog w) A (binaryOp op (.ref x) b) Q E s := by
  obtain ⟨cd, rest, hcd, hm⟩ := first_own sf
  simp only [binaryOp]
  refine wpAny_holding (wpAny_bind ?_)
  simp only [binaryOp1]
  refine wpAny_bind (inst.type.here (wpAny_bind (tb.here (wpAny_bind ((PySem.W.fills_K kin hcd hm at_).here ?_)))))
  simp only [beq_self_eq_true, if_true, pure_bind, Bool.and_false, Bool.false_eq_true, if_false, Bool.false_and]
  refine wpAny_bind (try_own kin inst at_ fn (wpAny_mono run (fun v s1 g => ⟨g.1, ?_⟩) fun _ _ z => z))
  exact wpAny_pure (wpAny_pure g.2)
end
end EO

namespace EO
open PySem PySem.Spec PyProof.Rows L2
section
variable {prog : Program} {w : World} {A : Around} {E : Value → Shared → Prop} {s : Shared} {K : PySem.W.Frag} {x C f : Addr} {ox : Obj} {od : Option Obj} {b : Value} {T : String}
/-- what the top says of an own class beside the built-in type T, for the operator nm -/
structure Mix (K : PySem.W.Frag) (C : Addr) (T nm : String) : Prop where
  fo : ∃ r, PySem.W.findIn K (.type T) (PySem.dunder nm) = some r
  ro : ∃ r, PySem.W.findIn K (.type T) (dunderR nm) = some r
  cr : ∃ r, PySem.W.findIn K (.ref C) (dunderR nm) = some r ∧ (r = none ∨ ∃ g : Addr, r = some (.ref g))
  sub : PySem.W.subIn K (.type T) (.ref C) = some false
  sf : PySem.W.selfFirst K C = true
/-- a op b, a of the class C, b of a built-in type -/
theorem bin_left {op : Operator} {Q : Value → Shared → Prop} (mx : Mix K C T op.info.2) (kin : K.In s.heap) (inst : PySem.W.InstAt s.heap x ox C od) (tb : typeOf b = pure (.type T))
    (at_ : PySem.W.findIn K (.ref C) (PySem.dunder op.info.2) = some (some (.ref f))) (fn : PySem.W.isFn K (.ref f) = true) (run : wpAny (model prog w) A (call (.ref f) [.ref x, b]) (Got Q) E s) : wpAny (model prog w) A (binaryOp op (.ref x) b) Q E s := by
  obtain ⟨⟨fo, h1⟩, ⟨ro, h2⟩, ⟨rc, h3, h4⟩, h5, sf⟩ := mx
  obtain ⟨cd, rest, hcd, hm⟩ := first_own sf
  have k1 : PySem.W.Looks (model prog w) s.heap (typeOf b) (.type T) := PySem.W.Looks.of_pure tb
  have k2 := PySem.W.ksp_fillsT (M := model prog w) kin h1 h2
  have k3 : PySem.W.Looks (model prog w) s.heap (isSubtype (.type T) (.ref C)) false := PySem.W.looks_subIn kin h5
  have k4 : PySem.W.Looks (model prog w) s.heap (numberSlotInPython (.ref C) op.info.2) true := PySem.W.ksp_inPy kin at_ h3 h4
  have k5 : PySem.W.Looks (model prog w) s.heap (typeLookup (.type T) (dunderR op.info.2)) ro := PySem.W.looks_findIn kin h2
  have ne : (Value.ref C == Value.type T) = false := Bool.eq_false_iff.mpr fun q => nomatch beq_iff_eq.mp q
  have ne' : (Value.type T == Value.ref C) = false := Bool.eq_false_iff.mpr fun q => nomatch beq_iff_eq.mp q
  generalize ((fo.isSome && !isSeqSlot fo) || (ro.isSome && !isSeqSlot ro)) = right at k2
  have fin : wpAny (model prog w) A (tryMethod (.ref x) (PySem.dunder op.info.2) b) (fun r s' => ∃ v, r = some v ∧ Q v s') E s := try_own kin inst at_ fn (wpAny_mono run (fun v s1 g => ⟨g.1, v, rfl, g.2⟩) fun _ _ z => z)
  simp only [binaryOp]
  refine wpAny_holding (wpAny_bind ?_)
  simp only [binaryOp1]
  refine wpAny_bind (inst.type.here (wpAny_bind (k1.here (wpAny_bind ((PySem.W.fills_K kin hcd hm at_).here ?_)))))
  simp only [ne, Bool.false_eq_true, if_false]
  refine wpAny_bind (k2.here ?_)
  cases right with
  | false =>
    simp only [Bool.and_false, Bool.false_eq_true, if_false, pure_bind, Bool.false_and, if_true]
    refine wpAny_bind (wpAny_mono fin (fun r s1 g => ?_) fun _ _ z => z)
    obtain ⟨v, rfl, q⟩ := g
    exact wpAny_pure (wpAny_pure q)
  | true =>
    simp only [Bool.and_self, if_true, Bool.not_false, Bool.false_eq_true, if_false]
    refine wpAny_bind (k3.here ?_)
    simp only [Bool.false_eq_true, if_false, pure_bind, if_true, Bool.and_self, Bool.not_false]
    refine wpAny_bind (k4.here ?_)
    simp only [if_true]
    refine wpAny_bind (wpAny_pure ?_)
    simp only [Bool.not_false, if_true]
    refine wpAny_bind (k5.here ?_)
    refine wpAny_bind (wpAny_mono fin (fun r s1 g => ?_) fun _ _ z => z)
    obtain ⟨v, rfl, q⟩ := g
    exact wpAny_pure (wpAny_pure q)
end
end EO

namespace EO
open PySem PySem.Spec PyProof.Rows L2
section
variable {prog : Program} {w : World} {A : Around} {E : Value → Shared → Prop} {s : Shared} {K : PySem.W.Frag} {x C f f0 : Addr} {ox : Obj} {od : Option Obj} {b : Value} {i : Int} {t : Tok}
/-- an int's own method does not take an own instance -/
def IntNo (prog : Program) (w : World) (B : Builtin) : Prop := ∀ (A : Around) (E : Value → Shared → Prop) (s : Shared) (x C : Addr) (ox : Obj) (od : Option Obj) (i : Int) (t : Tok) (Q : Value → Shared → Prop), PySem.W.InstAt s.heap x ox C od → ox.data = .plain → Q .notImplemented s →
  wpAny (model prog w) A (B ⟨[.int i t, .ref x], []⟩) (fun fin s' => ∃ v, fin = .done (.ret v) ∧ Q v s') E s
theorem no_add : IntNo prog w Builtin.«int.__add__» := by
  intro A E s x C ox od i t Q inst pl q
  obtain ⟨h, gs, d, tk, os⟩ := s
  have at_ : h.get? x = some ox := inst.at_
  obtain ⟨cls, dd, data, sl⟩ := ox
  cases pl
  wp_walk using wpAny_loadPart' at_, wpAny_load at_
  exact ⟨_, rfl, q⟩
theorem no_sub : IntNo prog w Builtin.«int.__sub__» := by
  intro A E s x C ox od i t Q inst pl q
  obtain ⟨h, gs, d, tk, os⟩ := s
  have at_ : h.get? x = some ox := inst.at_
  obtain ⟨cls, dd, data, sl⟩ := ox
  cases pl
  wp_walk using wpAny_loadPart' at_, wpAny_load at_
  exact ⟨_, rfl, q⟩
theorem no_mul : IntNo prog w Builtin.«int.__mul__» := by
  intro A E s x C ox od i t Q inst pl q
  obtain ⟨h, gs, d, tk, os⟩ := s
  have at_ : h.get? x = some ox := inst.at_
  obtain ⟨cls, dd, data, sl⟩ := ox
  cases pl
  wp_walk using wpAny_loadPart' at_, wpAny_load at_
  exact ⟨_, rfl, q⟩
theorem no_le : IntNo prog w Builtin.«int.__le__» := by
  intro A E s x C ox od i t Q inst pl q
  obtain ⟨h, gs, d, tk, os⟩ := s
  have at_ : h.get? x = some ox := inst.at_
  obtain ⟨cls, dd, data, sl⟩ := ox
  cases pl
  wp_walk using wpAny_loadPart' at_, wpAny_load at_
  exact ⟨_, rfl, q⟩
theorem no_lt : IntNo prog w Builtin.«int.__lt__» := by
  intro A E s x C ox od i t Q inst pl q
  obtain ⟨h, gs, d, tk, os⟩ := s
  have at_ : h.get? x = some ox := inst.at_
  obtain ⟨cls, dd, data, sl⟩ := ox
  cases pl
  wp_walk using wpAny_loadPart' at_, wpAny_load at_
  exact ⟨_, rfl, q⟩
theorem no_ge : IntNo prog w Builtin.«int.__ge__» := by
  intro A E s x C ox od i t Q inst pl q
  obtain ⟨h, gs, d, tk, os⟩ := s
  have at_ : h.get? x = some ox := inst.at_
  obtain ⟨cls, dd, data, sl⟩ := ox
  cases pl
  wp_walk using wpAny_loadPart' at_, wpAny_load at_
  exact ⟨_, rfl, q⟩
theorem no_gt : IntNo prog w Builtin.«int.__gt__» := by
  intro A E s x C ox od i t Q inst pl q
  obtain ⟨h, gs, d, tk, os⟩ := s
  have at_ : h.get? x = some ox := inst.at_
  obtain ⟨cls, dd, data, sl⟩ := ox
  cases pl
  wp_walk using wpAny_loadPart' at_, wpAny_load at_
  exact ⟨_, rfl, q⟩
/-- .. as the operator's first try, as a comparison's -/
theorem int_tryno {name : Str} {id : String} {B : Builtin} (slot : Slot "int" name id) (ent : entryFor table id = some B) (no : IntNo prog w B) (args : argsOk id ⟨[.int i t, .ref x], []⟩) (inst : PySem.W.InstAt s.heap x ox C od) (pl : ox.data = .plain)
    {Q : Option Value → Shared → Prop} (q : Q none s) : wpAny (model prog w) A (tryMethod (.int i t) name (.ref x)) Q E s :=
  wpAny_tryMethod_declines (typeIs_int s i t) slot (wpAny_call_entry slot (typeIs_int s i t) ent (no _ _ _ x C ox od i t (fun v s' => v = .notImplemented ∧ Q none s') inst pl ⟨rfl, q⟩) args)
theorem int_cmpno {name : Str} {id : String} {B : Builtin} (slot : Slot "int" name id) (ent : entryFor table id = some B) (no : IntNo prog w B) (args : argsOk id ⟨[.int i t, .ref x], []⟩) (inst : PySem.W.InstAt s.heap x ox C od) (pl : ox.data = .plain)
    {Q : Option Value → Shared → Prop} (q : Q none s) : wpAny (model prog w) A (tryCompare (.int i t) name (.ref x)) Q E s :=
  wpAny_tryCompare_declines (typeIs_int s i t) slot (wpAny_call_entry slot (typeIs_int s i t) ent (no _ _ _ x C ox od i t (fun v s' => v = .notImplemented ∧ Q none s') inst pl ⟨rfl, q⟩) args)
/-- a op b, a an int, b of the class C -/
theorem bin_right {op : Operator} {Q : Value → Shared → Prop} (fill : fillsNumberSlot (.type "int") op.info.2 = pure true) (kin : K.In s.heap) (inst : PySem.W.InstAt s.heap x ox C od) (sf : PySem.W.selfFirst K C = true) (sub : PySem.W.subIn K (.ref C) (.type "int") = some false)
    (at0 : PySem.W.findIn K (.ref C) (PySem.dunder op.info.2) = some (some (.ref f0))) (at_ : PySem.W.findIn K (.ref C) (dunderR op.info.2) = some (some (.ref f))) (fn : PySem.W.isFn K (.ref f) = true)
    (no : ∀ Q : Option Value → Shared → Prop, Q none s → wpAny (model prog w) A (tryMethod (.int i t) (PySem.dunder op.info.2) (.ref x)) Q E s)
    (run : wpAny (model prog w) A (call (.ref f) [.ref x, .int i t]) (Got Q) E s) : wpAny (model prog w) A (binaryOp op (.int i t) (.ref x)) Q E s := by
  obtain ⟨cd, rest, hcd, hm⟩ := first_own sf
  have k1 : PySem.W.Looks (model prog w) s.heap (typeOf (.int i t)) (.type "int") := PySem.W.Looks.of_pure rfl
  have k2 : PySem.W.Looks (model prog w) s.heap (fillsNumberSlot (.type "int") op.info.2) true := PySem.W.Looks.of_pure fill
  have k3 : PySem.W.Looks (model prog w) s.heap (isSubtype (.ref C) (.type "int")) false := PySem.W.looks_subIn kin sub
  have ne : (Value.type "int" == Value.ref C) = false := Bool.eq_false_iff.mpr fun q => nomatch beq_iff_eq.mp q
  have nw : numberSlotInPython (.type "int") op.info.2 = pure false := rfl
  have fin : wpAny (model prog w) A (tryMethod (.ref x) (dunderR op.info.2) (.int i t)) (fun r s' => ∃ v, r = some v ∧ Q v s') E s := try_own kin inst at_ fn (wpAny_mono run (fun v s1 g => ⟨g.1, v, rfl, g.2⟩) fun _ _ z => z)
  simp only [binaryOp]
  refine wpAny_holding (wpAny_bind ?_)
  simp only [binaryOp1]
  refine wpAny_bind (k1.here (wpAny_bind (inst.type.here (wpAny_bind (k2.here ?_)))))
  simp only [ne, Bool.false_eq_true, if_false]
  refine wpAny_bind ((PySem.W.fills_K kin hcd hm at0).here ?_)
  simp only [Bool.and_self, if_true]
  refine wpAny_bind (k3.here ?_)
  simp only [Bool.false_eq_true, if_false, pure_bind, Bool.not_false, Bool.and_self, if_true, nw]
  refine wpAny_bind (no _ ?_)
  simp only [Bool.false_eq_true, if_false, pure_bind, Bool.not_false, Bool.and_self, if_true]
  refine wpAny_bind (wpAny_mono fin (fun r s1 g => ?_) fun _ _ z => z)
  obtain ⟨v, rfl, q⟩ := g
  repeat (first | exact wpAny_pure q | refine wpAny_pure ?_ | wp_step)
end
end EO

namespace EO
open PySem PySem.Spec PyProof.Rows L2
section
variable {prog : Program} {w : World} {A : Around} {E : Value → Shared → Prop} {s : Shared} {K : PySem.W.Frag} {x C f f0 : Addr} {ox : Obj} {od : Option Obj} {b tb : Value} {i : Int} {t : Tok}
/-- a op b, a of the class C with a method of its own for op -/
theorem rc_left {op : CmpOp} {Q : Value → Shared → Prop} (hu : A.units < cLine) (kin : K.In s.heap) (inst : PySem.W.InstAt s.heap x ox C od) (ty : PySem.W.Looks (model prog w) s.heap (typeOf b) tb) (nf : PySem.W.notFirst K C tb = true)
    (fin : wpAny (model prog w) A (tryCompare (.ref x) (cmpInfo op).2.1 b) (fun r s' => ∃ v, r = some v ∧ Q v s') E s) : wpAny (model prog w) A (richCompare op (.ref x) b) Q E s := by
  simp only [richCompare, oneThing_ref]
  refine wpAny_holding (wpAny_bind (wpAny_cRoomFor hu ?_))
  refine wpAny_bind (inst.type.here (wpAny_bind (ty.here ?_)))
  have last : wpAny (model prog w) A (tryCompare (.ref x) (cmpInfo op).2.1 b) (fun r s' => ∃ v, r = some v ∧ Q v s') E s := fin
  by_cases same : (Value.ref C != tb) = true
  · have sub : PySem.W.subIn K tb (.ref C) = some false := by
      rcases Bool.or_eq_true_iff.mp nf with e | e
      · rw [beq_iff_eq.mp e] at same
        simp at same
      · exact beq_iff_eq.mp e
    rw [if_pos same]
    refine wpAny_bind ((PySem.W.looks_subIn kin sub).here ?_)
    simp only [Bool.false_eq_true, if_false]
    refine wpAny_bind (wpAny_mono last (fun r s1 g => ?_) fun _ _ z => z)
    obtain ⟨v, rfl, q⟩ := g
    exact wpAny_pure q
  · rw [if_neg same]
    refine wpAny_bind (wpAny_pure ?_)
    simp only [Bool.false_eq_true, if_false]
    refine wpAny_bind (wpAny_mono last (fun r s1 g => ?_) fun _ _ z => z)
    obtain ⟨v, rfl, q⟩ := g
    exact wpAny_pure q
/-- .. b of the class C, an int ahead -/
theorem rc_right {op : CmpOp} {Q : Value → Shared → Prop} (hu : A.units < cLine) (kin : K.In s.heap) (inst : PySem.W.InstAt s.heap x ox C od) (sub : PySem.W.subIn K (.ref C) (.type "int") = some false)
    (no : ∀ Q : Option Value → Shared → Prop, Q none s → wpAny (model prog w) A (tryCompare (.int i t) (cmpInfo op).2.1 (.ref x)) Q E s)
    (fin : wpAny (model prog w) A (tryCompare (.ref x) (cmpInfo op).2.2 (.int i t)) (fun r s' => ∃ v, r = some v ∧ Q v s') E s) : wpAny (model prog w) A (richCompare op (.int i t) (.ref x)) Q E s := by
  have one : oneThing? op (.int i t) (.ref x) = none := by cases op <;> rfl
  simp only [richCompare, one]
  refine wpAny_holding (wpAny_bind (wpAny_cRoomFor hu ?_))
  have k1 : PySem.W.Looks (model prog w) s.heap (typeOf (.int i t)) (.type "int") := PySem.W.Looks.of_pure rfl
  refine wpAny_bind (k1.here (wpAny_bind (inst.type.here ?_)))
  have ne : (Value.type "int" != Value.ref C) = true := by simp
  rw [if_pos ne]
  refine wpAny_bind ((PySem.W.looks_subIn kin sub).here ?_)
  simp only [Bool.false_eq_true, if_false]
  refine wpAny_bind (no _ ?_)
  simp only [Bool.not_false, if_true]
  refine wpAny_bind (wpAny_mono fin (fun r s1 g => ?_) fun _ _ z => z)
  obtain ⟨v, rfl, q⟩ := g
  exact wpAny_pure q
/-- a != b by an own __eq__ -/
theorem ne_try {Q : Option Value → Shared → Prop} (hu : A.units + 1 < cLine) (kin : K.In s.heap) (inst : PySem.W.InstAt s.heap x ox C od) (at0 : PySem.W.findIn K (.ref C) "__ne__" = some (some (.builtin "object.__ne__"))) (sub : PySem.W.subIn K (.ref C) (.type "object") = some true)
    (at_ : PySem.W.findIn K (.ref C) "__eq__" = some (some (.ref f))) (fn : PySem.W.isFn K (.ref f) = true)
    (run : wpAny (model prog w) A.in1 (call (.ref f) [.ref x, b]) (fun v s' => ∃ c, v = .bool c ∧ Q (some (.bool (!c))) s') E s) : wpAny (model prog w) A (tryCompare (.ref x) "__ne__" b) Q E s := by
  have inner : wpAny (model prog w) A.in1 (Builtin.«object.__ne__» ⟨[.ref x, b], []⟩) (fun fin s' => ∃ v, fin = .done (.ret v) ∧ v ≠ .notImplemented ∧ Q (some v) s') E s := by
    unfold Builtin.«object.__ne__»
    have eqs : wpAny (model prog w) A.in1 (callSpecialIfBound? (.ref x) "__eq__" [b]) (fun r s' => ∃ c, r = some (.bool c) ∧ Q (some (.bool (!c))) s') E s :=
      PySem.W.ifBound_K kin inst at_ fn (wpAny_mono run (fun v s1 ⟨c, e, q⟩ => ⟨c, by rw [e], q⟩) fun _ _ z => z)
    repeat (first
      | with_reducible refine wpAny_cRoomFor (show A.in1.units < cLine from hu) ?_
      | (refine wpAny_bind (m := callSpecialIfBound? (.ref x) (Str.ofString "__eq__") [b]) (wpAny_mono eqs (fun r s1 g => by
          obtain ⟨c, rfl, q⟩ := g
          refine wpAny_bind (m := truthy (.bool c)) (wpAny_truthy_bool ?_)
          exact wpAny_pure ⟨_, rfl, (fun z => nomatch z), q⟩) fun _ _ z => z))
      | wp_step)
  simp only [tryCompare]
  refine wpAny_bind ?_
  simp only [callSpecialIfBound?, bindSpecialIfBound?]
  have called : wpAny (model prog w) A (call (.builtin "object.__ne__") [.ref x, b]) (fun v s' => v ≠ .notImplemented ∧ Q (some v) s') E s := by
    refine wpAny_call (codeAny_call_builtin PySem.F.cmp_object.ne.plain PySem.F.cmpEntry_ne (PySem.W.check_slot PySem.F.cmpKind_ne PySem.F.cmpSplit_ne (inst.type.andThen (PySem.W.looks_subIn kin sub)) (PySem.F.cmpArgs_ne _ _) (wpAny_mono inner (fun fin s1 g => ?_) fun _ _ z => z)))
    obtain ⟨v, rfl, g⟩ := g
    exact g
  refine wpAny_holding (wpAny_bind (wpAny_bind (wpAny_bind (inst.type.here ((PySem.W.looks_findIn kin at0).here ?_)))))
  have fin : wpAny (model prog w) A (call (.builtin "object.__ne__") ([.ref x] ++ [b]) >>= fun v => pure (some v)) (fun r s' => wpAny (model prog w) A (match r with | some .notImplemented | none => pure none | some v => pure (some v)) Q E s') E s := by
    refine wpAny_bind (wpAny_mono called (fun v s1 g => wpAny_pure ?_) fun _ _ z => z)
    obtain ⟨ne, q⟩ := g
    cases v
    case notImplemented => exact absurd rfl ne
    all_goals exact wpAny_pure q
  refine wpAny_bind (wpAny_askSetting (wpAny_ite ?_))
  have bd : bindSpecial (.builtin "object.__ne__") (.ref x) = pure (.builtin "object.__ne__", [.ref x]) := PySem.F.cmp_object.ne.bind _
  split
  · rw [bd]
    exact wpAny_bind (wpAny_pure (wpAny_pure (by exact fin)))
  · rw [bd]
    exact wpAny_tryCatch (wpAny_bind (wpAny_pure (wpAny_pure (by exact fin))))
end
end EO

namespace EO
open PySem PySem.Spec PyProof.Rows L2
/-- the class at C has the method m, a def that keeps sp by level k -/
structure OpH (P : Program) (w : World) (K : PySem.W.Frag) (mg : Str → Option Value) (base : Heap) (k : Nat) (C : Addr) (m : Str) (sp : Sp) : Prop where
  ex : ∃ g : Addr, PySem.W.findIn K (.ref C) m = some (some (.ref g)) ∧ PySem.W.isFn K (.ref g) = true ∧ FnR P w K mg base CX0 k g sp
/-- C has no != of its own -/
structure NeObj (K : PySem.W.Frag) (C : Addr) : Prop where
  at_ : PySem.W.findIn K (.ref C) "__ne__" = some (some (.builtin "object.__ne__"))
  sub : PySem.W.subIn K (.ref C) (.type "object") = some true
/-- the values that come back from a def -/
theorem got_of {X : Cx} {pins : List (Addr × Obj)} {σ : L2.St} {Q : VK} : ∀ v s', EP X pins σ Q v s' → Got (EP X pins σ Q) v s' := fun v s' h => by
  refine ⟨fun e => ?_, h⟩
  obtain ⟨z, H', _, r, _⟩ := h
  subst e
  cases z
  all_goals first | exact nomatch r | (obtain ⟨_, r⟩ := r; exact nomatch r)
section
variable {X : Cx} {k : Nat} {C : Addr} {sp : Sp} {m : Str}
theorem run_met {pins : List (Addr × Obj)} {σ : L2.St} {H : Hp} {s : Shared} {Q : VK} {g a : Addr} {us : List Value} {vs : List V} (F : FnR X.prog X.w X.K X.mg X.base CX0 k g sp) (hr : Room k X.A) (I : Inv X pins σ H s) (r : Vals vs us) (h : sp (.ref a :: vs) H Q E0) :
    wpAny (model X.prog X.w) X.A (call (.ref g) (.ref a :: us)) (EP X pins σ Q) X.xe s := wpAny_call (run_fnR (us := .ref a :: us) (vs := .ref a :: vs) F hr pass0 I (.cons rfl r) h)
/-- .. a step further in, a truth value comes back -/
theorem run_met1 {pins : List (Addr × Obj)} {σ : L2.St} {H : Hp} {s : Shared} {Q : VK} {g a : Addr} {us : List Value} {vs : List V} {E' : Value → Shared → Prop} (F : FnR X.prog X.w X.K X.mg X.base CX0 k g sp) (hr : Room (k + 1) X.A) (I : Inv X pins σ H s) (r : Vals vs us)
    (h : sp (.ref a :: vs) H Q E0) : wpAny (model X.prog X.w) X.A.in1 (call (.ref g) (.ref a :: us)) (EP X pins σ Q) E' s := by
  refine wpAny_call (codeAny_mono (F X.A.in1 X.stack s H (.ref a :: us) (.ref a :: vs) Q E0 hr.in1 I.env0.in1 (.cons rfl r) h) fun r s' hq => ?_)
  cases r with
  | error er => exact False.elim (pass0 (X := X.nox) pins σ H s er s' (I.wish _) hq)
  | ok fl =>
    cases fl with
    | ret u => exact I.after hq
    | next => exact False.elim hq
    | brk => exact False.elim hq
    | cont => exact False.elim hq
/-- both of the class -/
def rOO (C : Addr) (sp : Sp) : R2 := fun x y H Q => ∃ a dx fs b dy gs, x = .ref a ∧ y = .ref b ∧ H a = some (.ins C dx fs) ∧ H b = some (.ins C dy gs) ∧ sp [.ref a, .ref b] H Q E0
/-- the left one of the class, an int -/
def rOI (C : Addr) (sp : Sp) : R2 := fun x y H Q => ∃ a dx fs i, x = .ref a ∧ y = .int i ∧ H a = some (.ins C dx fs) ∧ sp [.ref a, .int i] H Q E0
/-- an int, the right one of the class -/
def rIO (C : Addr) (sp : Sp) : R2 := fun x y H Q => ∃ i b dy gs, x = .int i ∧ y = .ref b ∧ H b = some (.ins C dy gs) ∧ sp [.ref b, .int i] H Q E0
/-- a != b by == -/
def rNO (C : Addr) (sp : Sp) : R2 := fun x y H Q => ∃ a dx fs b dy gs, x = .ref a ∧ y = .ref b ∧ H a = some (.ins C dx fs) ∧ H b = some (.ins C dy gs) ∧ sp [.ref a, .ref b] H (fun v H' => ∃ c, v = .bl c ∧ Q (.bl (!c)) H') E0
def rU1 (C : Addr) (sp : Sp) : V → Hp → VK → Prop := fun x H Q => ∃ a dx fs, x = .ref a ∧ H a = some (.ins C dx fs) ∧ sp [.ref a] H Q E0
theorem op_oo {op : Operator} (O : OpH X.prog X.w X.K X.mg X.base k C (PySem.dunder op.info.2) sp) (sf : PySem.W.selfFirst X.K C = true) (hr : Room k X.A) : OpR X (binaryOp op) (rOO C sp) := by
  intro pins s σ H x y v u Q I rx ry h
  obtain ⟨a, dx, fs, b, dy, gs, rfl, rfl, ha, hb, q⟩ := h
  obtain rfl : v = Value.ref a := rx
  obtain rfl : u = Value.ref b := ry
  obtain ⟨g, at_, fn, F⟩ := O.ex
  obtain ⟨ox, od, J, _⟩ := StX.insC_at I (.inr ⟨dx, fs, ha⟩)
  obtain ⟨oy, oe, L, _⟩ := StX.insC_at I (.inr ⟨dy, gs, hb⟩)
  exact bin_same I.kIn J L.type sf at_ fn (wpAny_mono (run_met (vs := [.ref b]) F hr I (.cons rfl .nil) q) got_of fun _ _ z => z)
theorem op_oi {op : Operator} (O : OpH X.prog X.w X.K X.mg X.base k C (PySem.dunder op.info.2) sp) (mx : Mix X.K C "int" op.info.2) (hr : Room k X.A) : OpR X (binaryOp op) (rOI C sp) := by
  intro pins s σ H x y v u Q I rx ry h
  obtain ⟨a, dx, fs, i, rfl, rfl, ha, q⟩ := h
  obtain rfl : v = Value.ref a := rx
  obtain ⟨t, rfl⟩ := ry
  obtain ⟨g, at_, fn, F⟩ := O.ex
  obtain ⟨ox, od, J, _⟩ := StX.insC_at I (.inr ⟨dx, fs, ha⟩)
  exact bin_left mx I.kIn J rfl at_ fn (wpAny_mono (run_met (vs := [.int i]) F hr I (.cons ⟨t, rfl⟩ .nil) q) got_of fun _ _ z => z)
/-- what an int's own method says, for the operator -/
structure IntDecl (prog : Program) (w : World) (op : Operator) : Prop where
  fill : fillsNumberSlot (.type "int") op.info.2 = pure true
  ex : ∃ (id : String) (B : Builtin), Slot "int" (PySem.dunder op.info.2) id ∧ entryFor table id = some B ∧ IntNo prog w B ∧ ∀ (i : Int) (t : Tok) (x : Addr), argsOk id ⟨[.int i t, .ref x], []⟩
theorem dec_add {prog : Program} {w : World} : IntDecl prog w .Add := ⟨PySem.F.fills_int_add, _, _, PySem.F.slot_int_add, PySem.F.entry_int_add, no_add, fun _ _ _ => PySem.F.args_int_add_2 _ _⟩
theorem dec_sub {prog : Program} {w : World} : IntDecl prog w .Sub := ⟨PySem.F.fills_int_sub, _, _, PySem.F.slot_int_sub, PySem.F.entry_int_sub, no_sub, fun _ _ _ => PySem.F.args_int_sub_2 _ _⟩
theorem dec_mul {prog : Program} {w : World} : IntDecl prog w .Mult := ⟨PySem.F.fills_int_mul, _, _, PySem.F.slot_int_mul, PySem.F.entry_int_mul, no_mul, fun _ _ _ => PySem.F.args_int_mul_2 _ _⟩
theorem op_io {op : Operator} {g0 : Addr} (O : OpH X.prog X.w X.K X.mg X.base k C (dunderR op.info.2) sp) (D : IntDecl X.prog X.w op) (at0 : PySem.W.findIn X.K (.ref C) (PySem.dunder op.info.2) = some (some (.ref g0))) (sf : PySem.W.selfFirst X.K C = true)
    (sub : PySem.W.subIn X.K (.ref C) (.type "int") = some false) (hr : Room k X.A) : OpR X (binaryOp op) (rIO C sp) := by
  intro pins s σ H x y v u Q I rx ry h
  obtain ⟨i, b, dy, gs, rfl, rfl, hb, q⟩ := h
  obtain ⟨t, rfl⟩ := rx
  obtain rfl : u = Value.ref b := ry
  obtain ⟨g, at_, fn, F⟩ := O.ex
  obtain ⟨fill, id, B, slot, ent, no, args⟩ := D
  obtain ⟨oy, oe, L, pl⟩ := StX.insC_at I (.inr ⟨dy, gs, hb⟩)
  exact bin_right fill I.kIn L sf sub at0 at_ fn (fun R r => int_tryno slot ent no (args _ _ _) L pl r) (wpAny_mono (run_met (vs := [.int i]) F hr I (.cons ⟨t, rfl⟩ .nil) q) got_of fun _ _ z => z)
theorem un_oo {op : UnaryOp} (hop : op ≠ .Not) (hn : m = (match op with | .Invert => "__invert__" | .UAdd => "__pos__" | .USub => "__neg__" | .Not => ("" : Str))) (O : OpH X.prog X.w X.K X.mg X.base k C m sp) (hr : Room k X.A) : UnR X (unaryOp op) (rU1 C sp) := by
  intro pins s σ H x v Q I rx h
  obtain ⟨a, dx, fs, rfl, ha, q⟩ := h
  obtain rfl : v = Value.ref a := rx
  obtain ⟨g, at_, fn, F⟩ := O.ex
  obtain ⟨ox, od, J, _⟩ := StX.insC_at I (.inr ⟨dx, fs, ha⟩)
  exact un_own hop hn I.kIn J at_ fn (run_met F hr I .nil q)
/-- a comparison by an own method, between two of the class, of one with an int -/
theorem cmp_of {op : CmpOp} (hop : (cmpInfo op).1 ≠ "") {a b : Value} {M : Model} {A : Around} {E : Value → Shared → Prop} {s : Shared} {Q : Value → Shared → Prop} (h : wpAny M A (richCompare op a b) Q E s) : wpAny M A (compareOp op a b) Q E s := by
  cases op
  all_goals first | exact h | exact absurd rfl hop
theorem op_coo {op : CmpOp} (hop : (cmpInfo op).1 ≠ "") (O : OpH X.prog X.w X.K X.mg X.base k C (cmpInfo op).2.1 sp) (hr : Room k X.A) : OpR X (compareOp op) (rOO C sp) := by
  intro pins s σ H x y v u Q I rx ry h
  obtain ⟨a, dx, fs, b, dy, gs, rfl, rfl, ha, hb, q⟩ := h
  obtain rfl : v = Value.ref a := rx
  obtain rfl : u = Value.ref b := ry
  obtain ⟨g, at_, fn, F⟩ := O.ex
  obtain ⟨ox, od, J, _⟩ := StX.insC_at I (.inr ⟨dx, fs, ha⟩)
  obtain ⟨oy, oe, L, _⟩ := StX.insC_at I (.inr ⟨dy, gs, hb⟩)
  exact cmp_of hop (rc_left hr.units0 I.kIn J L.type (by unfold PySem.W.notFirst; simp) (cmp_own I.kIn J at_ fn (wpAny_mono (run_met (vs := [.ref b]) F hr I (.cons rfl .nil) q) (fun z s1 e => ⟨(got_of _ _ e).1, z, rfl, e⟩) fun _ _ z => z)))
theorem op_coi {op : CmpOp} (hop : (cmpInfo op).1 ≠ "") (O : OpH X.prog X.w X.K X.mg X.base k C (cmpInfo op).2.1 sp) (sub : PySem.W.subIn X.K (.type "int") (.ref C) = some false) (hr : Room k X.A) : OpR X (compareOp op) (rOI C sp) := by
  intro pins s σ H x y v u Q I rx ry h
  obtain ⟨a, dx, fs, i, rfl, rfl, ha, q⟩ := h
  obtain rfl : v = Value.ref a := rx
  obtain ⟨t, rfl⟩ := ry
  obtain ⟨g, at_, fn, F⟩ := O.ex
  obtain ⟨ox, od, J, _⟩ := StX.insC_at I (.inr ⟨dx, fs, ha⟩)
  exact cmp_of hop (rc_left hr.units0 I.kIn J (tb := .type "int") (PySem.W.Looks.of_pure rfl) (by unfold PySem.W.notFirst; rw [sub]; simp) (cmp_own I.kIn J at_ fn (wpAny_mono (run_met (vs := [.int i]) F hr I (.cons ⟨t, rfl⟩ .nil) q) (fun z s1 e => ⟨(got_of _ _ e).1, z, rfl, e⟩) fun _ _ z => z)))
theorem op_nee (O : OpH X.prog X.w X.K X.mg X.base k C "__eq__" sp) (N : NeObj X.K C) (hr : Room (k + 1) X.A) : OpR X (compareOp .NotEq) (rNO C sp) := by
  intro pins s σ H x y v u Q I rx ry h
  obtain ⟨a, dx, fs, b, dy, gs, rfl, rfl, ha, hb, q⟩ := h
  obtain rfl : v = Value.ref a := rx
  obtain rfl : u = Value.ref b := ry
  obtain ⟨g, at_, fn, F⟩ := O.ex
  obtain ⟨ox, od, J, _⟩ := StX.insC_at I (.inr ⟨dx, fs, ha⟩)
  obtain ⟨oy, oe, L, _⟩ := StX.insC_at I (.inr ⟨dy, gs, hb⟩)
  refine cmp_of (op := .NotEq) (by decide) (rc_left hr.units0 I.kIn J L.type (by unfold PySem.W.notFirst; simp) (ne_try (show X.A.units + 1 < cLine from by have := hr.units; omega) I.kIn J N.at_ N.sub at_ fn (wpAny_mono (run_met1 (vs := [.ref b]) F hr I (.cons rfl .nil) q) (fun z s1 e => ?_) fun _ _ z => z)))
  obtain ⟨v, H', I1, r, c, rfl, q1⟩ := e
  cases (show z = Value.bool c from r)
  exact ⟨c, rfl, _, rfl, .bl _, H', I1, rfl, q1⟩
end
end EO

namespace EO
open PySem PySem.Spec PyProof.Rows L2
section
variable {prog : Program} {w : World} {A : Around} {E : Value → Shared → Prop} {s : Shared} {K : PySem.W.Frag} {x C f : Addr} {ox : Obj} {od : Option Obj} {b : Value}
/-- a op= b, a of a class with a method of its own for it -/
theorem in_own {op : Operator} {Q : Value → Shared → Prop} (kin : K.In s.heap) (inst : PySem.W.InstAt s.heap x ox C od) (sf : PySem.W.selfFirst K C = true) (at_ : PySem.W.findIn K (.ref C) (dunderI op.info.2) = some (some (.ref f)))
    (fn : PySem.W.isFn K (.ref f) = true) (run : wpAny (model prog w) A (call (.ref f) [.ref x, b]) (Got Q) E s) : wpAny (model prog w) A (inplaceOp op (.ref x) b) Q E s := by
  obtain ⟨cd, rest, hcd, hm⟩ := first_own sf
  have fills : PySem.W.Looks (model prog w) s.heap (fillsInplaceSlot (.ref C) op.info.2 (op == .Add)) true := PySem.W.ksp_fillsI kin hcd hm at_
  unfold inplaceOp
  refine wpAny_holding (wpAny_bind (inst.type.here (wpAny_bind (fills.here ?_))))
  rw [if_pos rfl]
  refine wpAny_bind (try_own kin inst at_ fn (wpAny_mono run (fun v s1 g => ⟨g.1, ?_⟩) fun _ _ z => z))
  dsimp only
  first
    | exact wpAny_pure (M := model prog w) (A := A) (E := E) g.2
    | exact wpAny_bind (wpAny_pure (M := model prog w) (A := A) (E := E) (wpAny_pure g.2))
    | (repeat (first | exact g.2 | wp_step))
end
section
variable {X : Cx} {k : Nat} {C : Addr} {sp : Sp} {m : Str}
theorem op_in {op : Operator} (O : OpH X.prog X.w X.K X.mg X.base k C (dunderI op.info.2) sp) (sf : PySem.W.selfFirst X.K C = true) (hr : Room k X.A) : OpR X (inplaceOp op) (rOO C sp) := by
  intro pins s σ H x y v u Q I rx ry h
  obtain ⟨a, dx, fs, b, dy, gs, rfl, rfl, ha, hb, q⟩ := h
  obtain rfl : v = Value.ref a := rx
  obtain rfl : u = Value.ref b := ry
  obtain ⟨g, at_, fn, F⟩ := O.ex
  obtain ⟨ox, od, J, _⟩ := StX.insC_at I (.inr ⟨dx, fs, ha⟩)
  exact in_own I.kIn J sf at_ fn (wpAny_mono (run_met (vs := [.ref b]) F hr I (.cons rfl .nil) q) got_of fun _ _ z => z)
end
end EO

namespace EN
open PySem L2 PyProof.Rows
section
variable {P : Program} {w : World} {K : PySem.W.Frag} {mg : Str → Option Value} {base : Heap} {f : Addr} {fd : FuncData}
structure MkH (P : Program) (w : World) (K : PySem.W.Frag) (mg : Str → Option Value) (base : Heap) (k : Nat) (C : Addr) (dvs : List V) (sp : Sp) : Prop where
  ex : ∃ (f : Addr) (fd : FuncData) (ps : List Str) (ds : List Value), Mk K C f ∧ FnOk P w K mg base CX0 k f fd ps sp ∧ Binds K fd ps ds ∧ Vals dvs ds
section
variable {X : Cx} {k : Nat} {C : Addr} {dvs : List V} {sp : Sp} {x m : Str} {p pos apos : Pos} {o e : Expr} {es : List Expr} {t : TA} {ta : TE} {pl : Sem Bool}
theorem pe_mkH (O : MkH X.prog X.w X.K X.mg X.base k C dvs sp) (hr : Room (k + 1) X.A) (hg : Gl X x) (hm : X.mg x = some (.ref C)) (ha : PA X (e :: es) t) (hdb : (x == ("__debug__" : Str)) = false := by decide)
    (he : starEach (e :: es) X.env = (false, eval e X.env) :: starEach es X.env := by rfl) (hpl : (backTo pos (starEach es X.env)).any (·.1) = false := by rfl) : PE X (.Call (.Name x p) (e :: es) [] pos) (tMake C sp dvs E0 t) := by
  obtain ⟨f, fd, ps, ds, M, F, hb, hd⟩ := O.ex
  exact pe_make M F hr hg hm hb hd pass0 ha hdb he hpl
end
theorem okD {x qual : Str} {params : Arguments} {body : List Stmt} {scope : Scope} {dvs : List V} {kws : List (Str × V)} {N ps : List Str} {k : Nat} {sp : Sp} (F : FunD K x qual params body scope dvs kws f fd) (S : FnScope N ps scope) (len : ∀ vs H Q E, sp vs H Q E → vs.length = ps.length)
    (hbody : ∀ (cdv : Value) (A : Around) (outer : List Env) (s : Shared) (H : Hp) (vs : List V) (Q : VK) (E : XK), Room k (A.deeper (envOfC qual scope s.heap.objs.size f cdv)) → sp vs H Q E →
      ∃ t, PSs (cxOf CX0 P w K mg base N qual scope f cdv A outer s H E).nox body t ∧ t { nx := fun _ H' => Q .non H', rt := Q } (start N vs) H) : FnOk P w K mg base CX0 (k + 1) f fd ps sp :=
  F.ok S len fun cdv A outer s H vs Q E hr hs => by
    obtain ⟨t, h, q⟩ := hbody cdv A outer s H vs Q E hr hs
    exact ⟨t, h.nox, q⟩

/-- what isinstance asks of an own class -/
structure OwnC (K : PySem.W.Frag) (C : Addr) : Prop where
  cl : Cls K C
  ha : PySem.W.findIn K (.ref C) "__class__" = some (some (.builtin "object.__class__"))
  hn : PySem.W.specialIn K (.builtin "object.__class__") "__get__" = some (some (.builtin "getset_descriptor.__get__"))
  htk : PySem.W.takesIn K (.builtin "object.__class__") = some true
  hm : PySem.W.mroIn K C (.type "object") = some true
  me : PySem.W.kitOne K (.ref C) (.ref C) = some true
theorem OwnC.ty {C : Addr} {H : Hp} {a dx : Addr} {fs : List (Str × V)} (o : OwnC K C) (e : H a = some (.ins C dx fs)) : TyX K H (.ref a) (.ref C) := .base (.ins e o.cl o.ha o.hn o.htk o.hm)
/-- ints and tuples are no spans -/
structure NoC (K : PySem.W.Frag) (C : Addr) : Prop where
  int_ : PySem.W.kitOne K (.type "int") (.ref C) = some false
  tup : PySem.W.kitOne K (.type "tuple") (.ref C) = some false
end
end EN

namespace EN
open PySem L2 PyProof.Rows
section
variable {P : Program} {w : World} {K : PySem.W.Frag} {mg : Str → Option Value} {base : Heap} {f : Addr} {fd : FuncData}
/-! ### spans -/
/-- a Span at s: its stretches are R -/
def SpanAt (K : PySem.W.Frag) (C : Addr) (H : Hp) (s : Addr) (R : List MS.Str2) : Prop := ∃ (dx t : Addr) (xs : List V), H s = some (.ins C dx [("stretches", .ref t)]) ∧ SqT K H t xs ∧ StrA K H xs R
theorem SpanAt.same {C : Addr} {H H' : Hp} {s : Addr} {R : List MS.Str2} (h : SpanAt K C H s R) (e : Same H H') : SpanAt K C H' s R := by
  obtain ⟨dx, t, xs, h1, h2, h3⟩ := h
  exact ⟨dx, t, xs, e _ _ h1, sqT_same e h2, h3.same e⟩
/-- .. another object is changed -/
theorem StrA.ins {H : Hp} {x C dx : Addr} {fs : List (Str × V)} {o : HO} (hx : H x = some (.ins C dx fs)) : ∀ {xs : List V} {S : List MS.Str2}, StrA K H xs S → StrA K (L2.upd H x o) xs S
  | _, _, .nil => .nil
  | _, _, .cons ⟨t, e, h⟩ r => .cons ⟨t, e, sqT_upd h hx⟩ (StrA.ins hx r)
def spPInit (K : PySem.W.Frag) (C : Addr) : Sp := fun vs H Q _ => ∃ (x dx a : Addr) (xs : List V) (S : List MS.Str2), vs = [.ref x, .ref a] ∧ H x = some (.ins C dx []) ∧ (SqL K H a xs ∨ SqT K H a xs) ∧ StrA K H xs S ∧ (∀ p ∈ S, Good p) ∧ S.length ≤ 200 ∧
  ∀ (R : List MS.Str2) (H' : Hp), (∀ b o, H b = some o → b ≠ x → H' b = some o) → SpanAt K C H' x R → MS.Can (MS.inL S) R → R.length ≤ S.length → Q .non H'
abbrev s_pinit : Stmt := inClass (top 23) 0
abbrev N_pinit : List Str := ["self", "stretches", "pair"]
theorem sc_pinit : FnScope N_pinit ["self", "stretches"] (defScope s_pinit) := ⟨rfl, rfl, rfl, by decide +kernel, rfl, by decide +kernel, by decide +kernel⟩

theorem ok_pinit {C : Addr} {dvs : List V} {kws : List (Str × V)} (F : FunD K "__init__" "Span.__init__" (defArgs s_pinit) (defBody s_pinit) (defScope s_pinit) dvs kws f fd) (T : Blt mg) (cl : Cls K C) (nR : NoAttr K C "stretches") (G_is_stretch : Has P w K mg base 2 "is_stretch" ["pair"] (spIsStretch K))
    (G_covered : Has P w K mg base 2 "covered" ["stretches", "least", "most"] (spCovered K)) : FnOk P w K mg base CX0 3 f fd ["self", "stretches"] (spPInit K C) := by
  refine okD F sc_pinit (fun vs H Q E h => ?_) (fun cdv A outer s H vs Q E hr h => ?_)
  · obtain ⟨x, dx, a, _, _, rfl, _⟩ := h
    rfl
  · obtain ⟨x, dx, a, xs, S, rfl, hx, hS | hS, hA, hG, hl, k⟩ := h
    · refine ⟨_, (pss_cons (ps_if (pt_not (pt_val (pe_callB (show CallR _ _ (rIsiT K) from call_isiT) (by rfl) T.isinstance_ (by decide +kernel) (pa_cons (pv 1) (pa_cons (pe_tup (pa_cons (pe_bltn (v := .ty "list") (u := .type "list") (by rfl) T.list_ (by decide +kernel) rfl) (pa_cons (pe_bltn (v := .ty "tuple") (u := .type "tuple") (by rfl) T.tuple_ (by decide +kernel) rfl) pa_nil))) pa_nil)))))
      (pss_one ps_never)
      pss_nil)
    (pss_cons (ps_for PassesOwn.never rfl (pi_list (pv 1)) (pg_name (i := 2) sc_pinit.nd rfl (Or.inl rfl))
      (pss_one (ps_if (pt_not (pt_val (pe_has G_is_stretch (hr.mono (by decide)) (pa_cons (pv 2) pa_nil))))
        (pss_one ps_never)
        pss_nil)))
    (pss_one (ps_fld (pv 0) (pe_has G_covered (hr.mono (by decide)) (pa_cons (pv 1) (pa_cons pe_int (pa_cons (pe_callB (show CallR _ _ (rLenQ K) from c_len) (by rfl) T.len_ (by decide +kernel) (pa_cons (pv 1) pa_nil)) pa_nil)))) rfl)))), ?_⟩
      refine ⟨_, rfl, (by show 2 ≤ sizeLine; decide), fun tp htp => ?_⟩
      have s1 := same_new (Same.refl H) (.tup [.ty "list", .ty "tuple"]) htp
      refine ⟨.ref a, tp, _, .type "list", [.type "list", .type "tuple"], true, rfl, upd_same, .cons (.ty _) (.cons (.ty _) .nil), tyx_lst (s1.seq hS), kitAny_cons (b := true) (kit_ty (by decide +kernel)) (fun z => nomatch z) (fun _ => rfl), true, rfl, iteF ?_⟩
      generalize L2.upd H tp (.tup [.ty "list", .ty "tuple"]) = H1 at s1 ⊢
      refine ⟨_, rfl, a, rfl, ⟨_, s1.seq hS⟩, ?_⟩
      refine for_list (K := K) (a := a) (xs := xs) (fun i σ H' => ∃ v2 : Option V, H' = H1 ∧ σ = [some (.ref x), some (.ref a), v2]) ⟨none, rfl, rfl⟩ (fun i σ H' _ h => by obtain ⟨_, rfl, _⟩ := h; exact s1.seq hS) ?_ ?_
      · rintro i y σ H' hy ⟨v2, rfl, rfl⟩
        obtain ⟨p, hp, t, rfl, hT⟩ := (hA.same s1).get hy
        exact ⟨_, rfl, t, p, rfl, hT, hG p (List.mem_of_getElem? hp), true, rfl, iteF ⟨_, rfl, rfl⟩⟩
      · rintro σ H' ⟨v2, rfl, rfl⟩
        refine ⟨_, rfl, _, rfl, a, _, rfl, .inl (s1.seq hS), a, xs, S, 1, (xs.length : Int), rfl, .inl (s1.seq hS), hA.same s1, hG, hl, Int.le_refl _, fun t ys R H2 s2 nt ht hR cR lR => ?_⟩
        have hx2 := s2 _ _ (s1 _ _ hx)
        refine ⟨_, rfl, x, C, dx, [], rfl, hx2, cl, nR, (by show 0 < 1000; decide), ?_⟩
        refine k R _ (fun b o e n => by rw [upd_ne n]; exact s2 _ _ (s1 _ _ e)) ⟨dx, t, ys, upd_same, sqT_upd (SqT.of ht) hx2, StrA.ins hx2 hR⟩ (cR.congr fun n => ?_) lR
        rw [hA.len]
        exact MS.union_f S n
    · refine ⟨_, (pss_cons (ps_if (pt_not (pt_val (pe_callB (show CallR _ _ (rIsiT K) from call_isiT) (by rfl) T.isinstance_ (by decide +kernel) (pa_cons (pv 1) (pa_cons (pe_tup (pa_cons (pe_bltn (v := .ty "list") (u := .type "list") (by rfl) T.list_ (by decide +kernel) rfl) (pa_cons (pe_bltn (v := .ty "tuple") (u := .type "tuple") (by rfl) T.tuple_ (by decide +kernel) rfl) pa_nil))) pa_nil)))))
      (pss_one ps_never)
      pss_nil)
    (pss_cons (ps_for PassesOwn.never rfl (pi_tup (pv 1)) (pg_name (i := 2) sc_pinit.nd rfl (Or.inl rfl))
      (pss_one (ps_if (pt_not (pt_val (pe_has G_is_stretch (hr.mono (by decide)) (pa_cons (pv 2) pa_nil))))
        (pss_one ps_never)
        pss_nil)))
    (pss_one (ps_fld (pv 0) (pe_has G_covered (hr.mono (by decide)) (pa_cons (pv 1) (pa_cons pe_int (pa_cons (pe_callB (show CallR _ _ (rLenQ K) from c_len) (by rfl) T.len_ (by decide +kernel) (pa_cons (pv 1) pa_nil)) pa_nil)))) rfl)))), ?_⟩
      refine ⟨_, rfl, (by show 2 ≤ sizeLine; decide), fun tp htp => ?_⟩
      have s1 := same_new (Same.refl H) (.tup [.ty "list", .ty "tuple"]) htp
      refine ⟨.ref a, tp, _, .type "tuple", [.type "list", .type "tuple"], true, rfl, upd_same, .cons (.ty _) (.cons (.ty _) .nil), tyx_tup (sqT_same s1 hS), kitAny_cons (b := false) (kit_ty (by decide +kernel)) (fun _ => kitAny_cons (b := true) (kit_ty (by decide +kernel)) (fun z => nomatch z) (fun _ => rfl)) (fun z => nomatch z), true, rfl, iteF ?_⟩
      generalize L2.upd H tp (.tup [.ty "list", .ty "tuple"]) = H1 at s1 ⊢
      refine ⟨_, rfl, a, rfl, ⟨_, sqT_same s1 hS⟩, ?_⟩
      refine for_tup (K := K) (a := a) (xs := xs) (fun i σ H' => ∃ v2 : Option V, H' = H1 ∧ σ = [some (.ref x), some (.ref a), v2]) ⟨none, rfl, rfl⟩ (fun i σ H' _ h => by obtain ⟨_, rfl, _⟩ := h; exact sqT_same s1 hS) ?_ ?_
      · rintro i y σ H' hy ⟨v2, rfl, rfl⟩
        obtain ⟨p, hp, t, rfl, hT⟩ := (hA.same s1).get hy
        exact ⟨_, rfl, t, p, rfl, hT, hG p (List.mem_of_getElem? hp), true, rfl, iteF ⟨_, rfl, rfl⟩⟩
      · rintro σ H' ⟨v2, rfl, rfl⟩
        refine ⟨_, rfl, _, rfl, a, _, rfl, .inr (sqT_same s1 hS), a, xs, S, 1, (xs.length : Int), rfl, .inr (sqT_same s1 hS), hA.same s1, hG, hl, Int.le_refl _, fun t ys R H2 s2 nt ht hR cR lR => ?_⟩
        have hx2 := s2 _ _ (s1 _ _ hx)
        refine ⟨_, rfl, x, C, dx, [], rfl, hx2, cl, nR, (by show 0 < 1000; decide), ?_⟩
        refine k R _ (fun b o e n => by rw [upd_ne n]; exact s2 _ _ (s1 _ _ e)) ⟨dx, t, ys, upd_same, sqT_upd (SqT.of ht) hx2, StrA.ins hx2 hR⟩ (cR.congr fun n => ?_) lR
        rw [hA.len]
        exact MS.union_f S n
/-- a new Span is made of a tuple in the one form -/
theorem mkSpan {C : Addr} {H1 : Hp} {a x dx : Addr} {xs : List V} {S : List MS.Str2} {g : Int → Bool} (hS : SqT K H1 a xs) (hA : StrA K H1 xs S) (c : MS.Can g S) (hl : S.length ≤ 200) (nx : H1 x = none) (nd : H1 dx = none) (ne : dx ≠ x) {Q2 : VK}
    (k : ∀ (R : List MS.Str2) (H' : Hp), Same H1 H' → SpanAt K C H' x R → MS.Can g R → R.length ≤ S.length → Q2 .non H') : spPInit K C [.ref x, .ref a] (L2.upd (L2.upd H1 dx (.own x)) x (.ins C dx [])) Q2 E0 := by
  have s1 : Same H1 (L2.upd (L2.upd H1 dx (.own x)) x (.ins C dx [])) := fun b o e => by
    rw [upd_ne (ne_of_none e nx), upd_ne (ne_of_none e nd)]
    exact e
  exact ⟨x, dx, a, xs, S, rfl, upd_same, .inr (sqT_same s1 hS), hA.same s1, c.good, hl, fun R H2 keep hz cR lR => k R H2 (fun b o e => keep b o (s1 b o e) (ne_of_none e nx)) hz (cR.congr fun n => c.mem n) lR⟩
def spBin (K : PySem.W.Frag) (C : Addr) (op : Bool → Bool → Bool) : Sp := fun vs H Q _ => ∃ (s u : Addr) (A B : List MS.Str2) (g h : Int → Bool), vs = [.ref s, .ref u] ∧ SpanAt K C H s A ∧ SpanAt K C H u B ∧ MS.Can g A ∧ MS.Can h B ∧ A.length ≤ 90 ∧ B.length ≤ 90 ∧
  ∀ (z : Addr) (R : List MS.Str2) (H' : Hp), Same H H' → H z = none → SpanAt K C H' z R → MS.Can (fun n => op (g n) (h n)) R → R.length ≤ A.length + B.length → Q (.ref z) H'
def spIn (K : PySem.W.Frag) (C : Addr) (op : Bool → Bool → Bool) : Sp := fun vs H Q _ => ∃ (s u : Addr) (A B : List MS.Str2) (g h : Int → Bool), vs = [.ref s, .ref u] ∧ SpanAt K C H s A ∧ SpanAt K C H u B ∧ MS.Can g A ∧ MS.Can h B ∧ A.length ≤ 90 ∧ B.length ≤ 90 ∧
  ∀ (R : List MS.Str2) (H' : Hp), (∀ b o, H b = some o → b ≠ s → H' b = some o) → SpanAt K C H' s R → MS.Can (fun n => op (g n) (h n)) R → R.length ≤ A.length + B.length + 1 → Q (.ref s) H'
def spInv (K : PySem.W.Frag) (C : Addr) : Sp := fun vs H Q _ => ∃ (s : Addr) (A : List MS.Str2) (g : Int → Bool), vs = [.ref s] ∧ SpanAt K C H s A ∧ MS.Can g A ∧ A.length ≤ 90 ∧
  ∀ (z : Addr) (R : List MS.Str2) (H' : Hp), Same H H' → H z = none → SpanAt K C H' z R → MS.Can (fun n => decide (0 ≤ n) && !g n) R → R.length ≤ A.length + 1 → Q (.ref z) H'
abbrev s_por : Stmt := inClass (top 23) 4
abbrev N_por : List Str := ["self", "other"]
theorem sc_por : FnScope N_por ["self", "other"] (defScope s_por) := ⟨rfl, rfl, rfl, by decide +kernel, rfl, by decide +kernel, by decide +kernel⟩

theorem ok_por {C_Span : Addr} (F : Fun K "__or__" "Span.__or__" s_por f fd) (T : Blt mg) (o : OwnC K C_Span) (nR : NoAttr K C_Span "stretches") (g_Span : mg "Span" = some (.ref C_Span)) (G_either_of : Has P w K mg base 3 "either_of" ["stretches", "others"] (spOp2 K 100 0 or))
    (G_Span : MkH P w K mg base 3 C_Span [] (spPInit K C_Span)) : FnOk P w K mg base CX0 5 f fd ["self", "other"] (spBin K C_Span or) := by
  refine F.ok sc_por (fun vs H Q E h => ?_) (fun cdv A outer s H vs Q E hr h => ?_)
  · obtain ⟨_, _, _, _, _, _, rfl, _⟩ := h
    rfl
  · obtain ⟨s1, u, A1, B1, g, h, rfl, ⟨dx, t, xs, e1, e2, e3⟩, ⟨dy, r, ys, d1, d2, d3⟩, cA, cB, lA, lB, k⟩ := h
    refine ⟨_, (pss_cons (ps_if (pt_not (pt_val (pe_callB (show CallR _ _ (rIsi K) from call_isi) (by rfl) T.isinstance_ (by decide +kernel) (pa_cons (pv 1) (pa_cons (pe_glob (v := .ref C_Span) (by rfl) g_Span rfl) pa_nil)))))
      (pss_one ps_never)
      pss_nil)
    (pss_one (ps_ret (pe_mkH G_Span (hr.mono (by decide)) (by rfl) g_Span (pa_cons (pe_has G_either_of (hr.mono (by decide)) (pa_cons (pe_fld (pv 0) rfl) (pa_cons (pe_fld (pv 1) rfl) pa_nil))) pa_nil))))), ?_⟩
    refine ⟨_, rfl, .ref u, .ref C_Span, .ref C_Span, .ref C_Span, true, rfl, .own _, o.ty d1, o.me, true, rfl, iteF ?_⟩
    refine ⟨_, rfl, s1, C_Span, dx, _, _, rfl, e1, o.cl, nR, look1, _, rfl, u, C_Span, dy, _, _, rfl, d1, o.cl, nR, look1, ?_⟩
    refine ⟨t, r, xs, ys, A1, B1, g, h, rfl, e2, d2, e3, d3, cA, cB, by omega, by omega, fun q zs R H1 s2 nq hq hR cR lR => ?_⟩
    refine fun z dz nz ndz nez => mkSpan (SqT.of hq) hR cR (by omega) nz ndz nez fun R2 H2 s3 hz c2 l2 => ⟨rfl, k z R2 H2 (s2.trans s3) (s2.free nz) hz c2 (by omega)⟩
abbrev s_pxor : Stmt := inClass (top 23) 7
abbrev N_pxor : List Str := ["self", "other"]
theorem sc_pxor : FnScope N_pxor ["self", "other"] (defScope s_pxor) := ⟨rfl, rfl, rfl, by decide +kernel, rfl, by decide +kernel, by decide +kernel⟩

theorem ok_pxor {C_Span : Addr} (F : Fun K "__xor__" "Span.__xor__" s_pxor f fd) (T : Blt mg) (o : OwnC K C_Span) (nR : NoAttr K C_Span "stretches") (g_Span : mg "Span" = some (.ref C_Span)) (G_one_of : Has P w K mg base 3 "one_of" ["stretches", "others"] (spOp2 K 100 0 bne))
    (G_Span : MkH P w K mg base 3 C_Span [] (spPInit K C_Span)) : FnOk P w K mg base CX0 5 f fd ["self", "other"] (spBin K C_Span bne) := by
  refine F.ok sc_pxor (fun vs H Q E h => ?_) (fun cdv A outer s H vs Q E hr h => ?_)
  · obtain ⟨_, _, _, _, _, _, rfl, _⟩ := h
    rfl
  · obtain ⟨s1, u, A1, B1, g, h, rfl, ⟨dx, t, xs, e1, e2, e3⟩, ⟨dy, r, ys, d1, d2, d3⟩, cA, cB, lA, lB, k⟩ := h
    refine ⟨_, (pss_cons (ps_if (pt_not (pt_val (pe_callB (show CallR _ _ (rIsi K) from call_isi) (by rfl) T.isinstance_ (by decide +kernel) (pa_cons (pv 1) (pa_cons (pe_glob (v := .ref C_Span) (by rfl) g_Span rfl) pa_nil)))))
      (pss_one ps_never)
      pss_nil)
    (pss_one (ps_ret (pe_mkH G_Span (hr.mono (by decide)) (by rfl) g_Span (pa_cons (pe_has G_one_of (hr.mono (by decide)) (pa_cons (pe_fld (pv 0) rfl) (pa_cons (pe_fld (pv 1) rfl) pa_nil))) pa_nil))))), ?_⟩
    refine ⟨_, rfl, .ref u, .ref C_Span, .ref C_Span, .ref C_Span, true, rfl, .own _, o.ty d1, o.me, true, rfl, iteF ?_⟩
    refine ⟨_, rfl, s1, C_Span, dx, _, _, rfl, e1, o.cl, nR, look1, _, rfl, u, C_Span, dy, _, _, rfl, d1, o.cl, nR, look1, ?_⟩
    refine ⟨t, r, xs, ys, A1, B1, g, h, rfl, e2, d2, e3, d3, cA, cB, by omega, by omega, fun q zs R H1 s2 nq hq hR cR lR => ?_⟩
    refine fun z dz nz ndz nez => mkSpan (SqT.of hq) hR cR (by omega) nz ndz nez fun R2 H2 s3 hz c2 l2 => ⟨rfl, k z R2 H2 (s2.trans s3) (s2.free nz) hz c2 (by omega)⟩
abbrev s_pior : Stmt := inClass (top 23) 8
abbrev N_pior : List Str := ["self", "other"]
theorem sc_pior : FnScope N_pior ["self", "other"] (defScope s_pior) := ⟨rfl, rfl, rfl, by decide +kernel, rfl, by decide +kernel, by decide +kernel⟩

theorem ok_pior {C_Span : Addr} (F : Fun K "__ior__" "Span.__ior__" s_pior f fd) (T : Blt mg) (o : OwnC K C_Span) (nR : NoAttr K C_Span "stretches") (g_Span : mg "Span" = some (.ref C_Span)) (G_either_of : Has P w K mg base 3 "either_of" ["stretches", "others"] (spOp2 K 100 0 or)) :
    FnOk P w K mg base CX0 4 f fd ["self", "other"] (spIn K C_Span or) := by
  refine F.ok sc_pior (fun vs H Q E h => ?_) (fun cdv A outer s H vs Q E hr h => ?_)
  · obtain ⟨_, _, _, _, _, _, rfl, _⟩ := h
    rfl
  · obtain ⟨s1, u, A1, B1, g, h, rfl, ⟨dx, t, xs, e1, e2, e3⟩, ⟨dy, r, ys, d1, d2, d3⟩, cA, cB, lA, lB, k⟩ := h
    refine ⟨_, (pss_cons (ps_if (pt_not (pt_val (pe_callB (show CallR _ _ (rIsi K) from call_isi) (by rfl) T.isinstance_ (by decide +kernel) (pa_cons (pv 1) (pa_cons (pe_glob (v := .ref C_Span) (by rfl) g_Span rfl) pa_nil)))))
      (pss_one ps_never)
      pss_nil)
    (pss_cons (ps_fld (pv 0) (pe_has G_either_of (hr.mono (by decide)) (pa_cons (pe_fld (pv 0) rfl) (pa_cons (pe_fld (pv 1) rfl) pa_nil))) rfl)
    (pss_one (ps_ret (pv 0))))), ?_⟩
    refine ⟨_, rfl, .ref u, .ref C_Span, .ref C_Span, .ref C_Span, true, rfl, .own _, o.ty d1, o.me, true, rfl, iteF ?_⟩
    refine ⟨_, rfl, s1, C_Span, dx, _, _, rfl, e1, o.cl, nR, look1, _, rfl, u, C_Span, dy, _, _, rfl, d1, o.cl, nR, look1, ?_⟩
    refine ⟨t, r, xs, ys, A1, B1, g, h, rfl, e2, d2, e3, d3, cA, cB, by omega, by omega, fun q zs R H1 s2 nq hq hR cR lR => ?_⟩
    have h1 := s2 _ _ e1
    refine ⟨_, rfl, s1, C_Span, dx, _, rfl, h1, o.cl, nR, (by show 1 < 1000; decide), _, rfl, ?_⟩
    refine k R _ (fun b oo e n => by rw [upd_ne n]; exact s2 _ _ e) ⟨dx, q, zs, ?_, sqT_upd (SqT.of hq) h1, StrA.ins h1 hR⟩ cR (by omega)
    rw [upd_same]
    rfl
abbrev s_piand : Stmt := inClass (top 23) 9
abbrev N_piand : List Str := ["self", "other"]
theorem sc_piand : FnScope N_piand ["self", "other"] (defScope s_piand) := ⟨rfl, rfl, rfl, by decide +kernel, rfl, by decide +kernel, by decide +kernel⟩

theorem ok_piand {C_Span : Addr} (F : Fun K "__iand__" "Span.__iand__" s_piand f fd) (T : Blt mg) (o : OwnC K C_Span) (nR : NoAttr K C_Span "stretches") (g_Span : mg "Span" = some (.ref C_Span)) (G_both_of : Has P w K mg base 3 "both_of" ["stretches", "others"] (spOp2 K 100 0 and)) :
    FnOk P w K mg base CX0 4 f fd ["self", "other"] (spIn K C_Span and) := by
  refine F.ok sc_piand (fun vs H Q E h => ?_) (fun cdv A outer s H vs Q E hr h => ?_)
  · obtain ⟨_, _, _, _, _, _, rfl, _⟩ := h
    rfl
  · obtain ⟨s1, u, A1, B1, g, h, rfl, ⟨dx, t, xs, e1, e2, e3⟩, ⟨dy, r, ys, d1, d2, d3⟩, cA, cB, lA, lB, k⟩ := h
    refine ⟨_, (pss_cons (ps_if (pt_not (pt_val (pe_callB (show CallR _ _ (rIsi K) from call_isi) (by rfl) T.isinstance_ (by decide +kernel) (pa_cons (pv 1) (pa_cons (pe_glob (v := .ref C_Span) (by rfl) g_Span rfl) pa_nil)))))
      (pss_one ps_never)
      pss_nil)
    (pss_cons (ps_fld (pv 0) (pe_has G_both_of (hr.mono (by decide)) (pa_cons (pe_fld (pv 0) rfl) (pa_cons (pe_fld (pv 1) rfl) pa_nil))) rfl)
    (pss_one (ps_ret (pv 0))))), ?_⟩
    refine ⟨_, rfl, .ref u, .ref C_Span, .ref C_Span, .ref C_Span, true, rfl, .own _, o.ty d1, o.me, true, rfl, iteF ?_⟩
    refine ⟨_, rfl, s1, C_Span, dx, _, _, rfl, e1, o.cl, nR, look1, _, rfl, u, C_Span, dy, _, _, rfl, d1, o.cl, nR, look1, ?_⟩
    refine ⟨t, r, xs, ys, A1, B1, g, h, rfl, e2, d2, e3, d3, cA, cB, by omega, by omega, fun q zs R H1 s2 nq hq hR cR lR => ?_⟩
    have h1 := s2 _ _ e1
    refine ⟨_, rfl, s1, C_Span, dx, _, rfl, h1, o.cl, nR, (by show 1 < 1000; decide), _, rfl, ?_⟩
    refine k R _ (fun b oo e n => by rw [upd_ne n]; exact s2 _ _ e) ⟨dx, q, zs, ?_, sqT_upd (SqT.of hq) h1, StrA.ins h1 hR⟩ cR (by omega)
    rw [upd_same]
    rfl
abbrev s_pisub : Stmt := inClass (top 23) 10
abbrev N_pisub : List Str := ["self", "other"]
theorem sc_pisub : FnScope N_pisub ["self", "other"] (defScope s_pisub) := ⟨rfl, rfl, rfl, by decide +kernel, rfl, by decide +kernel, by decide +kernel⟩

theorem ok_pisub {C_Span : Addr} (F : Fun K "__isub__" "Span.__isub__" s_pisub f fd) (T : Blt mg) (o : OwnC K C_Span) (nR : NoAttr K C_Span "stretches") (g_Span : mg "Span" = some (.ref C_Span)) (G_first_without : Has P w K mg base 5 "first_without" ["stretches", "others"] (spOp2 K 98 1 (fun a b => a && !b))) :
    FnOk P w K mg base CX0 6 f fd ["self", "other"] (spIn K C_Span (fun a b => a && !b)) := by
  refine F.ok sc_pisub (fun vs H Q E h => ?_) (fun cdv A outer s H vs Q E hr h => ?_)
  · obtain ⟨_, _, _, _, _, _, rfl, _⟩ := h
    rfl
  · obtain ⟨s1, u, A1, B1, g, h, rfl, ⟨dx, t, xs, e1, e2, e3⟩, ⟨dy, r, ys, d1, d2, d3⟩, cA, cB, lA, lB, k⟩ := h
    refine ⟨_, (pss_cons (ps_if (pt_not (pt_val (pe_callB (show CallR _ _ (rIsi K) from call_isi) (by rfl) T.isinstance_ (by decide +kernel) (pa_cons (pv 1) (pa_cons (pe_glob (v := .ref C_Span) (by rfl) g_Span rfl) pa_nil)))))
      (pss_one ps_never)
      pss_nil)
    (pss_cons (ps_fld (pv 0) (pe_has G_first_without (hr.mono (by decide)) (pa_cons (pe_fld (pv 0) rfl) (pa_cons (pe_fld (pv 1) rfl) pa_nil))) rfl)
    (pss_one (ps_ret (pv 0))))), ?_⟩
    refine ⟨_, rfl, .ref u, .ref C_Span, .ref C_Span, .ref C_Span, true, rfl, .own _, o.ty d1, o.me, true, rfl, iteF ?_⟩
    refine ⟨_, rfl, s1, C_Span, dx, _, _, rfl, e1, o.cl, nR, look1, _, rfl, u, C_Span, dy, _, _, rfl, d1, o.cl, nR, look1, ?_⟩
    refine ⟨t, r, xs, ys, A1, B1, g, h, rfl, e2, d2, e3, d3, cA, cB, by omega, by omega, fun q zs R H1 s2 nq hq hR cR lR => ?_⟩
    have h1 := s2 _ _ e1
    refine ⟨_, rfl, s1, C_Span, dx, _, rfl, h1, o.cl, nR, (by show 1 < 1000; decide), _, rfl, ?_⟩
    refine k R _ (fun b oo e n => by rw [upd_ne n]; exact s2 _ _ e) ⟨dx, q, zs, ?_, sqT_upd (SqT.of hq) h1, StrA.ins h1 hR⟩ cR (by omega)
    rw [upd_same]
    rfl
abbrev s_pinvert : Stmt := inClass (top 23) 11
abbrev N_pinvert : List Str := ["self"]
theorem sc_pinvert : FnScope N_pinvert ["self"] (defScope s_pinvert) := ⟨rfl, rfl, rfl, by decide +kernel, rfl, by decide +kernel, by decide +kernel⟩

theorem ok_pinvert {C_Span : Addr} (F : Fun K "__invert__" "Span.__invert__" s_pinvert f fd) (T : Blt mg) (o : OwnC K C_Span) (nR : NoAttr K C_Span "stretches") (g_Span : mg "Span" = some (.ref C_Span)) (G_outside : Has P w K mg base 4 "outside" ["stretches"] (spOutside K))
    (G_Span : MkH P w K mg base 3 C_Span [] (spPInit K C_Span)) : FnOk P w K mg base CX0 5 f fd ["self"] (spInv K C_Span) := by
  refine F.ok sc_pinvert (fun vs H Q E h => ?_) (fun cdv A outer s H vs Q E hr h => ?_)
  · obtain ⟨_, _, _, rfl, _⟩ := h
    rfl
  · obtain ⟨s1, A1, g, rfl, ⟨dx, t, xs, e1, e2, e3⟩, cA, lA, k⟩ := h
    refine ⟨_, (pss_one (ps_ret (pe_mkH G_Span (hr.mono (by decide)) (by rfl) g_Span (pa_cons (pe_has G_outside (hr.mono (by decide)) (pa_cons (pe_fld (pv 0) rfl) pa_nil)) pa_nil)))), ?_⟩
    refine ⟨_, rfl, s1, C_Span, dx, _, _, rfl, e1, o.cl, nR, look1, ?_⟩
    refine ⟨t, xs, A1, g, rfl, e2, e3, cA, by omega, fun q zs R H1 s2 nq hq hR cR lR => ?_⟩
    refine fun z dz nz ndz nez => mkSpan (SqT.of hq) hR cR (by omega) nz ndz nez fun R2 H2 s3 hz c2 l2 => ⟨rfl, k z R2 H2 (s2.trans s3) (s2.free nz) hz c2 (by omega)⟩
end
end EN

/-! zip of three; comprehensions with a test -/
namespace ZK
open PySem PySem.Spec PyProof.Rows L2
def Itz3 (K : PySem.W.Frag) (k1 k2 k3 : Kd) (a b c : Addr) : It :=
  ⟨fun i H => ∃ (xs ys zs : List V) (x y z : V), SqK K H a xs k1 ∧ SqK K H b ys k2 ∧ SqK K H c zs k3 ∧ xs[i]? = some x ∧ ys[i]? = some y ∧ zs[i]? = some z,
    fun i H v H' => ∃ T x y z, v = .ref T ∧ H T = none ∧ H' = upd H T (.tup [x, y, z]) ∧ (∀ xs, SqK K H a xs k1 → xs[i]? = some x) ∧ (∀ ys, SqK K H b ys k2 → ys[i]? = some y) ∧ ∀ zs, SqK K H c zs k3 → zs[i]? = some z,
    fun i H => ∃ xs ys zs : List V, SqK K H a xs k1 ∧ SqK K H b ys k2 ∧ SqK K H c zs k3 ∧ i ≤ xs.length ∧ i ≤ ys.length ∧ i ≤ zs.length ∧ (i = xs.length ∨ i = ys.length ∨ i = zs.length)⟩
theorem turn_z3 {P : Program} {w : World} {K : PySem.W.Frag} {elts : List Expr} {kk : Nat} {tpos : Pos} {k1 k2 k3 : Kd} {a b c z TI TO i1 i2 i3 : Addr} (S : ZipSep3 z TI TO i1 i2 i3 [i1, a] [i2, b] [i3, c]) (n1 : a ≠ i1) (n2 : b ≠ i2) (n3 : c ≠ i3) :
    Turn P w K (.Tuple elts kk tpos) (Itz3 K k1 k2 k3 a b c) [z, TI, TO, i1, i2, i3] z
      (fun i h => IsZip h z TI TO .none ∧ IsTupOf3 h TI (.ref i1) (.ref i2) (.ref i3) ∧ (∃ x y u, IsTupOf3 h TO x y u) ∧ IterK h i1 a i k1 ∧ IterK h i2 b i k2 ∧ IterK h i3 c i k3) where
  mem := by simp
  obj := fun i h st q hq => by
    obtain ⟨hz, hTI, ⟨x, y, u, hTO⟩, h1, h2, h3⟩ := st
    simp only [List.mem_cons, List.mem_nil_iff, or_false] at hq
    rcases hq with rfl | rfl | rfl | rfl | rfl | rfl
    · exact ⟨_, hz, fun v q => nomatch q⟩
    · exact ⟨_, hTI, fun v q => nomatch q⟩
    · exact ⟨_, hTO, fun v q => nomatch q⟩
    · exact iterK_obj h1
    · exact iterK_obj h2
    · exact iterK_obj h3
  keep := fun i h h' st k => by
    obtain ⟨hz, hTI, ⟨x, y, u, hTO⟩, h1, h2, h3⟩ := st
    exact ⟨k z (by simp) _ hz, k TI (by simp) _ hTI, ⟨x, y, u, k TO (by simp) _ hTO⟩, iterK_at h1 fun o q => k i1 (by simp) o q, iterK_at h2 fun o q => k i2 (by simp) o q, iterK_at h3 fun o q => k i3 (by simp) o q⟩
  item := by
    intro X hP hw hK hc i pins s σ H E I hf st hg
    subst hP hw hK
    obtain ⟨hz, hTI, ⟨x0, y0, u0, hTO⟩, h1, h2, h3⟩ := st
    obtain ⟨xs, ys, zs, x, y, t, qx, qy, qz, hx, hy, ht⟩ := hg
    obtain ⟨its1, rv1, p1, _, _⟩ := invK I qx
    obtain ⟨its2, rv2, p2, _, _⟩ := invK I qy
    obtain ⟨its3, rv3, p3, _, _⟩ := invK I qz
    obtain ⟨u1, hu1, ru1⟩ := rv1.get hx
    obtain ⟨u2, hu2, ru2⟩ := rv2.get hy
    obtain ⟨u3, hu3, ru3⟩ := rv3.get ht
    have hh : X.A.in1.handled = none := I.ok.hd hc
    have l1 : i < its1.toArray.size := by simpa using (List.getElem?_eq_some_iff.mp hu1).1
    have l2 : i < its2.toArray.size := by simpa using (List.getElem?_eq_some_iff.mp hu2).1
    have l3 : i < its3.toArray.size := by simpa using (List.getElem?_eq_some_iff.mp hu3).1
    have zlt : z < s.heap.objs.size := Heap.lt_size hz
    refine wpAny_pyNext_zipD3_item S (drawsK hh i1 a n1 its1.toArray k1) (drawsK hh i2 b n2 its2.toArray k2) (drawsK hh i3 c n3 its3.toArray k3) hz hTI hTO ⟨h1, p1⟩ ⟨h2, p2⟩ ⟨h3, p3⟩ l1 l2 l3 fun v1 v2 v3 h' tk pv1 pv2 pv3 z' TO' s1 s2 s3 hT hsz hk => ?_
    have e1 : v1 = u1 := by simpa [hu1] using pv1.symm
    have e2 : v2 = u2 := by simpa [hu2] using pv2.symm
    have e3 : v3 = u3 := by simpa [hu3] using pv3.symm
    subst e1 e2 e3
    refine ⟨_, rfl, wpAny_letOwnedTupleGo_zip (s := { s with heap := h', toks := tk }) z' fun h'' z'' sb => ?_⟩
    have hT2 := (sb.2 _ (Nat.ne_of_gt zlt)).trans hT
    have new : ObjOk X.prog X.w (upd H s.heap.objs.size (.tup [x, y, t])) h'' s.heap.objs.size (.tup [x, y, t]) :=
      ⟨by show 3 ≤ sizeLine; decide, [v1, v2, v3], .cons ru1 (.cons ru2 (.cons ru3 .nil)), ⟨_, hT2, rfl, _, rfl⟩⟩
    have stay : ∀ q o, q ∉ [z, TI, TO, i1, i2, i3] → s.heap.get? q = some o → h''.get? q = some o := fun q o hq e => by
      simp only [List.mem_cons, List.mem_nil_iff, or_false, not_or] at hq
      exact (sb.2 q hq.1).trans (hk q o hq.1 hq.2.2.1 hq.2.2.2.1 hq.2.2.2.2.1 hq.2.2.2.2.2 e)
    have I1 := I.turnedNew (t' := tk) (ch := [z, TI, TO, i1, i2, i3]) stay hf (Nat.le_refl _) new
    refine ⟨.ref s.heap.objs.size, _, I1, rfl, ⟨_, x, y, t, rfl, I.hok.fresh (Nat.le_refl _), rfl, fun l hl => by rw [injK I hl qx]; exact hx, fun l hl => by rw [injK I hl qy]; exact hy, fun l hl => by rw [injK I hl qz]; exact ht⟩, ⟨z'', ?_, ⟨v1, v2, v3, ?_⟩, ?_, ?_, ?_⟩, fun q hqm => ?_⟩
    · exact (sb.2 _ S.TIz).trans (hk _ _ S.TIz S.TITO S.TIi1 S.TIi2 S.TIi3 hTI)
    · exact (sb.2 _ S.TOz).trans TO'
    · exact iterK_at s1.1 fun o q => (sb.2 _ S.zi1.symm).trans q
    · exact iterK_at s2.1 fun o q => (sb.2 _ S.zi2.symm).trans q
    · exact iterK_at s3.1 fun o q => (sb.2 _ S.zi3.symm).trans q
    · have hlt : q < s.heap.objs.size := by
        simp only [List.mem_cons, List.mem_nil_iff, or_false] at hqm
        rcases hqm with rfl | rfl | rfl | rfl | rfl | rfl
        · exact zlt
        · exact Heap.lt_size hTI
        · exact Heap.lt_size hTO
        · obtain ⟨_, e, _⟩ := iterK_obj h1; exact Heap.lt_size e
        · obtain ⟨_, e, _⟩ := iterK_obj h2; exact Heap.lt_size e
        · obtain ⟨_, e, _⟩ := iterK_obj h3; exact Heap.lt_size e
      rw [upd_ne (Nat.ne_of_lt hlt)]
      exact (hf q hqm).1
  done := by
    intro X hP hw hK hc i pins s σ H E I hf st hg
    subst hP hw hK
    obtain ⟨hz, hTI, ⟨x0, y0, u0, hTO⟩, h1, h2, h3⟩ := st
    obtain ⟨xs, ys, zs, qx, qy, qz, le1, le2, le3, hend⟩ := hg
    obtain ⟨its1, rv1, p1, _, _⟩ := invK I qx
    obtain ⟨its2, rv2, p2, _, _⟩ := invK I qy
    obtain ⟨its3, rv3, p3, _, _⟩ := invK I qz
    have hh : X.A.in1.handled = none := I.ok.hd hc
    have e1 := rv1.length
    have e2 := rv2.length
    have e3 := rv3.length
    refine wpAny_pyNext_zipD3_end S (drawsK hh i1 a n1 its1.toArray k1) (drawsK hh i2 b n2 its2.toArray k2) (drawsK hh i3 c n3 its3.toArray k3) hz hTI hTO ⟨h1, p1⟩ ⟨h2, p2⟩ ⟨h3, p3⟩ (by simp; omega) (by simp; omega) (by simp; omega) (by simp; omega) fun h' tk hk => ⟨rfl, ?_⟩
    refine I.turnedL (t' := tk) (ch := [z, TI, TO, i1, i2, i3]) (fun q o hq e => ?_) hf
    simp only [List.mem_cons, List.mem_nil_iff, or_false, not_or] at hq
    exact hk q o hq.1 hq.2.2.1 hq.2.2.2.1 hq.2.2.2.2.1 hq.2.2.2.2.2 e
  self := fun A i s Q E st h => wpAny_pyIter_zip st.1 h
def iZip3 (K : PySem.W.Frag) (k1 k2 k3 : Kd) (ta : TA) : TI := fun σ H R => ta σ H fun vs H1 => ∃ a b c xs ys zs, vs = [.ref a, .ref b, .ref c] ∧ SqK K H1 a xs k1 ∧ SqK K H1 b ys k2 ∧ SqK K H1 c zs k3 ∧ R (Itz3 K k1 k2 k3 a b c) H1
theorem vals3 {x y z : V} {us : List Value} (r : Vals [x, y, z] us) : ∃ u v w, us = [u, v, w] ∧ RelV x u ∧ RelV y v ∧ RelV z w := by
  cases r with
  | cons a r =>
    obtain ⟨u, v, rfl, b, c⟩ := vals2 r
    exact ⟨_, u, v, rfl, a, b, c⟩
theorem pi_zip3 {X : Cx} {e e2 e3 : Expr} {ta : TA} {p pos tpos : Pos} {elts : List Expr} {kk : Nat} (k1 k2 k3 : Kd) (hg : Gl X "zip") (hm : X.mg "zip" = none) (ha : PA X [e, e2, e3] ta)
    (hs : starEach [e, e2, e3] X.env = (false, eval e X.env) :: starEach [e2, e3] X.env := by rfl) (hpl : (backTo pos (starEach [e2, e3] X.env)).any (·.1) = false := by rfl) :
    PI X (.Tuple elts kk tpos) (.Call (.Name "zip" p) [e, e2, e3] [] pos) (iZip3 X.K k1 k2 k3 ta) := by
  refine ⟨fun pins s σ H R I h => ?_⟩
  refine Call_ (ld_blt I hg hm PyProof.Rows.boot_zip (PyProof.Rows.callWith_type1 (thn (ha.run pos pins s σ H _ I h) fun us s1 ⟨vs, H1, I1, r1, q1⟩ => ?_) hs hpl))
  obtain ⟨a, b, c, xs, ys, zs, ex, qx, qy, qz, q⟩ := q1
  subst ex
  obtain ⟨u1, u2, u3, rfl, ra, rb, rc⟩ := vals3 r1
  cases (show u1 = Value.ref a from ra)
  cases (show u2 = Value.ref b from rb)
  cases (show u3 = Value.ref c from rc)
  obtain ⟨its1, rv1, p1, _, la⟩ := invK I1 qx
  obtain ⟨its2, rv2, p2, _, lb⟩ := invK I1 qy
  obtain ⟨its3, rv3, p3, _, lc⟩ := invK I1 qz
  generalize hN : s1.heap.objs.size = N at la lb lc
  have fresh : ∀ q, q ∈ [N + 5, N + 3, N + 4, N, N + 1, N + 2] → FpOk X pins H1 q := fun q hq => by
    have hle : s1.heap.objs.size ≤ q := by
      simp only [List.mem_cons, List.mem_nil_iff, or_false] at hq
      omega
    exact I1.fpOk hle (I1.hok.fresh hle)
  refine zip_begins3 (beginsK a its1.toArray k1) (beginsK b its2.toArray k2) (beginsK c its3.toArray k3) p1 p2 p3 fun h' hz hTI hTO g1 g2 g3 hsz hk => wpAny_pyIter_zip hz ?_
  rw [hN] at hz hTI hTO g1 g2 g3 ⊢
  have I2 : Inv X pins σ H1 { s1 with heap := h' } := I1.kept (t' := s1.toks) hk
  exact ⟨N + 5, [N + 5, N + 3, N + 4, N, N + 1, N + 2], _, _, H1, rfl, I2, turn_z3 (zip_sep3 (fp1 := [a]) (fp2 := [b]) (fp3 := [c]) (by simpa using la) (by simpa using lb) (by simpa using lc)) (Nat.ne_of_lt la) (Nat.ne_of_lt (Nat.lt_succ_of_lt lb))
    (Nat.ne_of_lt (Nat.lt_succ_of_lt (Nat.lt_succ_of_lt lc))), ⟨hz, hTI, ⟨_, _, _, hTO⟩, iterK_first g1, iterK_first g2, iterK_first g3⟩, fresh, q⟩
/-- a comprehension with a test: what is known of the list so far after i turns -/
theorem lc_growF {J : It} {g : TG} {tt : TT} {te : TE} {vs : List Nat} {σ : L2.St} {H1 : Hp} {D : Addr} {Qd : Hp → Prop} (n : Nat) (hn : n < sizeLine) (I : Nat → List V → Hp → Prop) (h0 : I 0 [] (upd H1 D (.lst [])))
    (hgo : ∀ i acc H, i < n → I i acc H → J.go i H) (hstop : ∀ acc H, I n acc H → J.stop n H)
    (hs : ∀ i H x H' acc, i < n → I i acc H → H D = some (.lst acc) → acc.length ≤ i → J.yld i H x H' → ∀ N : Hp → Prop, (∀ H4 acc', I (i + 1) acc' H4 → H4 D = some (.lst acc') → acc'.length ≤ i + 1 → N H4) →
      g x (wipe σ vs) H' fun σ2 H2 => wipe σ2 vs = wipe σ vs ∧ tt σ2 H2 fun b H3 => if b = true then te σ2 H3 fun y H4 => ∃ acc, H4 D = some (.lst acc) ∧ acc.length < sizeLine ∧ N (upd H4 D (.lst (acc ++ [y]))) else N H3)
    (hd : ∀ H acc, I n acc H → H D = some (.lst acc) → acc.length ≤ n → Qd H) :
    ∃ W : Nat → Nat → Hp → Prop, (∃ m, W 0 m (upd H1 D (.lst []))) ∧ ∀ i m H, W i m H →
      (J.stop i H ∧ Qd H) ∨ (J.go i H ∧ ∃ Nx : Hp → Prop, (∀ H', Nx H' → ∃ m', m' < m ∧ W (i + 1) m' H') ∧ ∀ x H', J.yld i H x H' → g x (wipe σ vs) H' fun σ2 H2 => wipe σ2 vs = wipe σ vs ∧ tt σ2 H2 fun b H3 =>
        if b = true then te σ2 H3 fun y H4 => ∃ acc, H4 D = some (.lst acc) ∧ acc.length < sizeLine ∧ Nx (upd H4 D (.lst (acc ++ [y]))) else Nx H3) := by
  refine lc_any n (fun i H => ∃ acc, I i acc H ∧ H D = some (.lst acc) ∧ acc.length ≤ i) ⟨[], h0, upd_same, Nat.le_refl _⟩ (fun i H hi ⟨acc, p, _⟩ => hgo i acc H hi p) (fun H ⟨acc, p, _⟩ => hstop acc H p) (fun i H x H' hi ⟨acc, pI, hD, hl⟩ y => ?_) (fun H ⟨acc, p, hD, hl⟩ => hd H acc p hD hl)
  exact hs i H x H' acc hi pI hD hl y _ fun H4 acc' h4 e4 l4 => ⟨acc', h4, e4, l4⟩
end ZK

namespace EN
open PySem L2 PyProof.Rows
section
variable {P : Program} {w : World} {K : PySem.W.Frag} {mg : Str → Option Value} {base : Heap} {f : Addr} {fd : FuncData}
/-! ### the law's own way -/
def spWithin (K : PySem.W.Frag) : Sp := fun vs H Q _ => ∃ (a : Addr) (xs : List V) (S : List MS.Str2) (n : Int), vs = [.ref a, .int n] ∧ (SqL K H a xs ∨ SqT K H a xs) ∧ StrA K H xs S ∧ S.length ≤ 900 ∧ ∀ H' : Hp, Same H H' → Q (.bl (MS.inL S n)) H'
theorem range_getD {α β : Type} (S : List α) (g : α → β) {d : α} : ((List.range S.length).map fun i => g (S.getD i d)) = S.map g := by
  refine List.ext_getElem? fun i => ?_
  by_cases h : i < S.length
  · rw [List.getElem?_map, List.getElem?_range h, List.getElem?_map, List.getElem?_eq_getElem h]
    simp [List.getD_eq_getElem?_getD, h]
  · rw [List.getElem?_eq_none (by simpa using h), List.getElem?_eq_none (by simpa using h)]
theorem any_range {α : Type} [Inhabited α] (S : List α) (g : α → Bool) {d : α} : ((List.range S.length).map fun i => g (S.getD i d)).any id = S.any g := by
  have e := range_getD S g (d := d)
  rw [e, List.any_map]
  rfl
abbrev s_within : Stmt := top 32
abbrev N_within : List Str := ["_law_stretches_here", "_law_n", "_law_low", "_law_high"]
theorem sc_within : FnScope N_within ["_law_stretches_here", "_law_n"] (defScope s_within) := ⟨rfl, rfl, rfl, by decide +kernel, rfl, by decide +kernel, by decide +kernel⟩

theorem ok_within (F : Fun K "_law_within" "_law_within" s_within f fd) (T : Blt mg) : FnOk P w K mg base CX0 1 f fd ["_law_stretches_here", "_law_n"] (spWithin K) := by
  refine F.ok sc_within (fun vs H Q E h => ?_) (fun cdv A outer s H vs Q E hr h => ?_)
  · obtain ⟨_, _, _, _, rfl, _⟩ := h
    rfl
  · obtain ⟨a, xs, S, n, rfl, hS | hS, hA, hl, k⟩ := h
    · refine ⟨_, (pss_one (ps_ret (pe_callB (show CallR _ _ (rAny K) from cr_any rfl) (by rfl) T.any_ (by decide +kernel) (pa_cons (pe_lc (own := [("_law_low", 2), ("_law_high", 3)]) (g := gTup K 2 (gCons (gName 2) (gCons (gName 3) gNil))) (tt := tYes) (by rfl) sc_within.nd (pi_list (pv 0)) (blkOk_by (own := [("_law_low", 2), ("_law_high", 3)]) (N := N_within) (sc := defScope s_within) (by decide +kernel)) (fun _ _ _ _ _ => (pg_tup rfl (pgs_cons (pg_name (i := 2) sc_within.nd rfl (by first | exact Or.inl rfl | exact Or.inr rfl)) (pgs_cons (pg_name (i := 3) sc_within.nd rfl (by first | exact Or.inl rfl | exact Or.inr rfl)) pgs_nil)))) (fun _ _ _ _ _ => pts_nil) (fun _ _ _ _ _ => (pe_and (pe_cmpR op_le (pv 2) (pv 1) (nomark _)) (pe_one (pe_or (pe_cmpR op_isN (pv 3) pe_non (nomark _)) (pe_one (pe_cmpR op_le (pv 1) (pv 3) (nomark _)))))))) pa_nil)))), ?_⟩
      refine ⟨_, rfl, a, rfl, ⟨_, hS⟩, fun D hD => ?_⟩
      have xl := hA.len
      refine ZK.lc_growL (K := K) (a := a) (xs := xs) (small1000 (by omega)) (fun _ H' => Same H H') (fun i y => y = .bl (MS.inS (S.getD i (0, none)) n)) (same_new (Same.refl _) _ hD) (fun i H' s' => s'.seq hS) ?_ ?_
      · intro i x H1 acc hx s1 hacc hal hR Qn hq
        obtain ⟨⟨lo, hi⟩, hp, t, rfl, hT⟩ := (hA.same s1).get hx
        have ep : S.getD i (0, none) = (lo, hi) := by rw [List.getD_eq_getElem?_getD, hp]; rfl
        have fin : ∀ b : Bool, b = MS.inS (lo, hi) n → Qn (.bl b) H1 := fun b e => hq _ _ (by rw [ep, e]) hacc (same_but_new s1 hD)
        refine ⟨t, _, rfl, hT, rfl, _, _, rfl, _, _, rfl, rfl, rfl, ?_⟩
        refine ⟨_, rfl, _, rfl, _, _, rfl, rfl, ?_⟩
        by_cases q : lo ≤ n
        · refine ⟨true, congrArg V.bl (decide_eq_true q), iteT ?_⟩
          cases hi with
          | none => exact ⟨_, rfl, rfl, true, rfl, iteT (fin _ (by simp [MS.inS, q]))⟩
          | some h => exact ⟨_, rfl, rfl, false, rfl, iteF ⟨_, rfl, _, rfl, _, _, rfl, rfl, fin _ (by simp [MS.inS, q])⟩⟩
        · exact ⟨false, congrArg V.bl (decide_eq_false q), iteF (fin _ (by simp [MS.inS, q]))⟩
      · intro H1 acc s1 hacc hal hR
        have e := ZK.eq_map hal hR
        refine ⟨D, (List.range xs.length).map fun i => MS.inS (S.getD i (0, none)) n, rfl, SqL.of ?_, ?_⟩
        · rw [hacc, e, List.map_map]
          rfl
        · rw [xl, any_range S (fun p => MS.inS p n)]
          exact k _ s1
    · refine ⟨_, (pss_one (ps_ret (pe_callB (show CallR _ _ (rAny K) from cr_any rfl) (by rfl) T.any_ (by decide +kernel) (pa_cons (pe_lc (own := [("_law_low", 2), ("_law_high", 3)]) (g := gTup K 2 (gCons (gName 2) (gCons (gName 3) gNil))) (tt := tYes) (by rfl) sc_within.nd (pi_tup (pv 0)) (blkOk_by (own := [("_law_low", 2), ("_law_high", 3)]) (N := N_within) (sc := defScope s_within) (by decide +kernel)) (fun _ _ _ _ _ => (pg_tup rfl (pgs_cons (pg_name (i := 2) sc_within.nd rfl (by first | exact Or.inl rfl | exact Or.inr rfl)) (pgs_cons (pg_name (i := 3) sc_within.nd rfl (by first | exact Or.inl rfl | exact Or.inr rfl)) pgs_nil)))) (fun _ _ _ _ _ => pts_nil) (fun _ _ _ _ _ => (pe_and (pe_cmpR op_le (pv 2) (pv 1) (nomark _)) (pe_one (pe_or (pe_cmpR op_isN (pv 3) pe_non (nomark _)) (pe_one (pe_cmpR op_le (pv 1) (pv 3) (nomark _)))))))) pa_nil)))), ?_⟩
      refine ⟨_, rfl, a, rfl, ⟨_, hS⟩, fun D hD => ?_⟩
      have xl := hA.len
      refine ZK.lc_growT (K := K) (a := a) (xs := xs) (small1000 (by omega)) (fun _ H' => Same H H') (fun i y => y = .bl (MS.inS (S.getD i (0, none)) n)) (same_new (Same.refl _) _ hD) (fun i H' s' => sqT_same s' hS) ?_ ?_
      · intro i x H1 acc hx s1 hacc hal hR Qn hq
        obtain ⟨⟨lo, hi⟩, hp, t, rfl, hT⟩ := (hA.same s1).get hx
        have ep : S.getD i (0, none) = (lo, hi) := by rw [List.getD_eq_getElem?_getD, hp]; rfl
        have fin : ∀ b : Bool, b = MS.inS (lo, hi) n → Qn (.bl b) H1 := fun b e => hq _ _ (by rw [ep, e]) hacc (same_but_new s1 hD)
        refine ⟨t, _, rfl, hT, rfl, _, _, rfl, _, _, rfl, rfl, rfl, ?_⟩
        refine ⟨_, rfl, _, rfl, _, _, rfl, rfl, ?_⟩
        by_cases q : lo ≤ n
        · refine ⟨true, congrArg V.bl (decide_eq_true q), iteT ?_⟩
          cases hi with
          | none => exact ⟨_, rfl, rfl, true, rfl, iteT (fin _ (by simp [MS.inS, q]))⟩
          | some h => exact ⟨_, rfl, rfl, false, rfl, iteF ⟨_, rfl, _, rfl, _, _, rfl, rfl, fin _ (by simp [MS.inS, q])⟩⟩
        · exact ⟨false, congrArg V.bl (decide_eq_false q), iteF (fin _ (by simp [MS.inS, q]))⟩
      · intro H1 acc s1 hacc hal hR
        have e := ZK.eq_map hal hR
        refine ⟨D, (List.range xs.length).map fun i => MS.inS (S.getD i (0, none)) n, rfl, SqL.of ?_, ?_⟩
        · rw [hacc, e, List.map_map]
          rfl
        · rw [xl, any_range S (fun p => MS.inS p n)]
          exact k _ s1
theorem cut1 {r : List Int} (h : 0 < r.length) : cutV (r.map V.int) (some 1) none = (r.drop 1).map V.int := by
  unfold cutV
  rw [show HT.sIx (r.map V.int).length (r.map V.int).length none = (r.map V.int).length from rfl, show (some (1 : Int)) = some ((1 : Nat) : Int) from rfl, HT.sIx_nat, List.length_map, Nat.min_eq_left h, ← List.map_drop, List.take_of_length_le (by rw [List.length_map, List.length_drop]; exact Nat.le_refl _)]
def spHighs (K : PySem.W.Frag) : Sp := fun vs H Q _ => ∃ (a : Addr) (ps : List Int), vs = [.ref a] ∧ SqL K H a (ps.map V.int) ∧ 0 < ps.length ∧ ps.length ≤ 900 ∧
  ∀ (l : Addr) (H' : Hp), Same H H' → H l = none → H' l = some (.lst ((ps.drop 1).map (fun p => V.int (p - 1)) ++ [.non])) → Q (.ref l) H'
abbrev s_highs : Stmt := top 31
abbrev N_highs : List Str := ["_law_lows", "_law_low"]
theorem sc_highs : FnScope N_highs ["_law_lows"] (defScope s_highs) := ⟨rfl, rfl, rfl, by decide +kernel, rfl, by decide +kernel, by decide +kernel⟩

theorem ok_highs (F : Fun K "_law_highs" "_law_highs" s_highs f fd) (T : Blt mg) : FnOk P w K mg base CX0 1 f fd ["_law_lows"] (spHighs K) := by
  refine F.ok sc_highs (fun vs H Q E h => ?_) (fun cdv A outer s H vs Q E hr h => ?_)
  · obtain ⟨_, _, rfl, _⟩ := h
    rfl
  · obtain ⟨a, ps, rfl, hS, h0, hl, k⟩ := h
    refine ⟨_, (pss_one (ps_ret (pe_op op_cat (pe_lc (own := [("_law_low", 1)]) (g := gName 1) (tt := tYes) (by rfl) sc_highs.nd (pi_list (pe_slice (show SlR _ (rSlL K) from sl_list) (pv 0) (po_some pe_int) po_none)) (blkOk_by (own := [("_law_low", 1)]) (N := N_highs) (sc := defScope s_highs) (by decide +kernel)) (fun _ _ _ _ _ => (pg_name (i := 1) sc_highs.nd rfl (by first | exact Or.inl rfl | exact Or.inr rfl))) (fun _ _ _ _ _ => pts_nil) (fun _ _ _ _ _ => (pe_op op_sub (pv 1) pe_int))) (pe_lst (pa_cons pe_non pa_nil))))), ?_⟩
    refine ⟨_, rfl, _, rfl, a, _, rfl, hS, fun l1 hl1 => ?_⟩
    rw [cut1 h0]
    have s1 := same_new (Same.refl H) (.lst ((ps.drop 1).map V.int)) hl1
    have e1 : (L2.upd H l1 (.lst ((ps.drop 1).map V.int))) l1 = some (.lst ((ps.drop 1).map V.int)) := upd_same
    generalize L2.upd H l1 (.lst ((ps.drop 1).map V.int)) = H1 at s1 e1 ⊢
    refine ⟨l1, rfl, ⟨_, SqL.of e1⟩, fun D hD => ?_⟩
    have dl : (ps.drop 1).length ≤ 900 := by rw [List.length_drop]; omega
    refine ZK.lc_growL (K := K) (a := l1) (xs := (ps.drop 1).map V.int) (small1000 (by rw [List.length_map]; omega)) (fun _ H' => Same H1 H') (fun i y => y = .int ((ps.drop 1).getD i 0 - 1)) (same_new (Same.refl _) _ hD) (fun i H' s' => s'.seq (SqL.of e1)) ?_ ?_
    · intro i x H2 acc hx s2 hacc hal hR Qn hq
      obtain ⟨_, rfl⟩ := int_at hx
      exact ⟨rfl, _, rfl, _, _, rfl, rfl, hq _ _ rfl hacc (same_but_new s2 hD)⟩
    · intro H2 acc s2 hacc hal hR
      have e := ZK.eq_map hal hR
      have eacc : acc = (ps.drop 1).map fun p => V.int (p - 1) := by
        rw [e, List.length_map]
        exact range_getD (ps.drop 1) fun p => V.int (p - 1)
      refine ⟨(by show 1 ≤ sizeLine; decide), fun n1 hn1 => ?_⟩
      have s3 := same_new (Same.refl H2) (.lst [.non]) hn1
      refine ⟨D, n1, _, _, rfl, rfl, s3 _ _ hacc, upd_same, ?_, fun p hp => ?_⟩
      · rw [hal, List.length_map]
        exact Nat.le_of_lt (small1000 (by show (ps.drop 1).length + 1 ≤ 1000; omega))
      · refine k p _ (((s1.trans s2).trans s3).trans (same_new (Same.refl _) _ hp)) (((s1.trans s2).trans s3).free hp) ?_
        rw [upd_same, eacc]
end
end EN

namespace EN
open PySem L2 PyProof.Rows
section
variable {P : Program} {w : World} {K : PySem.W.Frag} {mg : Str → Option Value} {base : Heap} {f : Addr} {fd : FuncData}
/-! ### joined -/
abbrev Prt := Int × Option Int × Bool
/-- a part: its low, its high, its mark -/
def PartT (K : PySem.W.Frag) (H : Hp) (v : V) (q : Prt) : Prop := ∃ t, v = .ref t ∧ SqT K H t [.int q.1, optV q.2.1, .bl q.2.2]
abbrev PartA (K : PySem.W.Frag) (H : Hp) : List V → List Prt → Prop := Paired (PartT K H)
theorem PartA.same {H H' : Hp} (s : Same H H') : ∀ {xs : List V} {S : List Prt}, PartA K H xs S → PartA K H' xs S
  | _, _, .nil => .nil
  | _, _, .cons ⟨t, e, h⟩ r => .cons ⟨t, e, sqT_same s h⟩ (PartA.same s r)
theorem PartA.len {H : Hp} : ∀ {xs : List V} {S : List Prt}, PartA K H xs S → xs.length = S.length
  | _, _, .nil => rfl
  | _, _, .cons _ r => by rw [List.length_cons, List.length_cons, PartA.len r]
theorem PartA.get {H : Hp} : ∀ {xs : List V} {S : List Prt} {i : Nat} {x : V}, PartA K H xs S → xs[i]? = some x → ∃ p, S[i]? = some p ∧ PartT K H x p
  | _, _, 0, _, .cons h _, e => ⟨_, rfl, by simpa using (Option.some.inj (by simpa using e)) ▸ h⟩
  | _, _, i + 1, _, .cons _ r, e => by
    obtain ⟨p, e1, e2⟩ := PartA.get (i := i) r (by simpa using e)
    exact ⟨p, by simpa using e1, e2⟩
theorem PartA.app {H : Hp} : ∀ {xs ys : List V} {S T : List Prt}, PartA K H xs S → PartA K H ys T → PartA K H (xs ++ ys) (S ++ T)
  | _, _, _, _, .nil, h => h
  | _, _, _, _, .cons a r, h => .cons a (PartA.app r h)
theorem PartA.snoc {H : Hp} {xs : List V} {S : List Prt} {x : V} {p : Prt} (h : PartA K H xs S) (q : PartT K H x p) : PartA K H (xs ++ [x]) (S ++ [p]) := h.app (.cons q .nil)
theorem PartA.split {H : Hp} {S : List Prt} : ∀ {xs : List V} {p : Prt}, PartA K H xs (S ++ [p]) → ∃ ys y, xs = ys ++ [y] ∧ PartA K H ys S ∧ PartT K H y p := by
  induction S with
  | nil =>
    intro xs p h
    cases xs with
    | nil => exact nomatch h
    | cons y ys =>
      have hl : (y :: ys).length = 1 := PartA.len h
      obtain rfl : ys = [] := by
        cases ys with
        | nil => rfl
        | cons _ _ => simp at hl
      cases h with
      | cons h _ => exact ⟨[], y, rfl, .nil, h⟩
  | cons q S ih =>
    intro xs p h
    rw [List.cons_append] at h
    cases h with
    | cons h r =>
      obtain ⟨ys, y, rfl, a, b⟩ := ih r
      exact ⟨_ :: ys, y, rfl, .cons h a, b⟩
theorem PartA.upd {H : Hp} {d : Addr} {ys : List V} {o : HO} (hd : H d = some (.lst ys)) : ∀ {xs : List V} {S : List Prt}, PartA K H xs S → PartA K (L2.upd H d o) xs S
  | _, _, .nil => .nil
  | _, _, .cons ⟨t, e, h⟩ r => .cons ⟨t, e, sqT_but (p := d) (fun b u e n => by rw [upd_ne n]; exact e) (fun u e => by rw [hd] at e; cases e; exact ⟨(by intro q; cases q), (by intro u q; cases q)⟩) h⟩ (PartA.upd hd r)
/-- the parts as data -/
def optD : Option Int → PyData
  | none => .none
  | some h => .int h
def partD (q : Prt) : PyData := .tuple [.int q.1, optD q.2.1, .bool q.2.2]
theorem PartT.dp {H : Hp} {v : V} {q : Prt} (h : PartT K H v q) : Dp K H v (partD q) := by
  obtain ⟨t, rfl, h⟩ := h
  refine .tup h (.cons (.int _) (.cons ?_ (.cons (.bl _) .nil)))
  obtain ⟨lo, hi, m⟩ := q
  cases hi
  · exact .non
  · exact .int _
theorem PartA.dps {H : Hp} : ∀ {xs : List V} {S : List Prt}, PartA K H xs S → DpAll K H xs (S.map partD)
  | _, _, .nil => .nil
  | _, _, .cons h r => .cons h.dp (PartA.dps r)
theorem lay_part (q : Prt) : PyData.canLay0 (partD q) = true ∧ PyData.depth (partD q) = 1 := by
  obtain ⟨lo, hi, m⟩ := q
  cases hi
  · exact ⟨by simp [partD, optD, PyData.canLay0, PyData.canLayAll0], by simp [partD, optD, PyData.depth, PyData.depthAll]⟩
  · exact ⟨by simp [partD, optD, PyData.canLay0, PyData.canLayAll0], by simp [partD, optD, PyData.depth, PyData.depthAll]⟩
theorem lay_parts : ∀ S : List Prt, PyData.canLayAll0 (S.map partD) = true ∧ PyData.depthAll (S.map partD) ≤ 1
  | [] => ⟨by simp [PyData.canLayAll0], by simp [PyData.depthAll]⟩
  | q :: S => by
    obtain ⟨h1, h2⟩ := lay_parts S
    obtain ⟨g1, g2⟩ := lay_part q
    refine ⟨?_, ?_⟩
    · rw [List.map_cons, PyData.canLayAll0, g1, h1]
      rfl
    · rw [List.map_cons, PyData.depthAll, g2]
      omega
theorem shaped_parts (S : List Prt) : SeqAt.shaped (.list (S.map partD)) = true := by
  obtain ⟨h1, h2⟩ := lay_parts S
  unfold SeqAt.shaped
  rw [PyData.canLay0, h1, PyData.depth, decide_eq_true (by omega)]
  rfl
/-! the loop -/
def jstep (acc : List Prt) (q : Prt) : List Prt := match acc.getLast? with
  | some l => if l.2.2 = q.2.2 then acc.dropLast ++ [(l.1, q.2.1, q.2.2)] else acc ++ [q]
  | none => acc ++ [q]
theorem jstep_snoc (acc : List Prt) (l q : Prt) : jstep (acc ++ [l]) q = if l.2.2 = q.2.2 then acc ++ [(l.1, q.2.1, q.2.2)] else acc ++ [l] ++ [q] := by
  unfold jstep
  simp
def highOf : List Int → Option Int
  | [] => none
  | q :: _ => some (q - 1)
def partsOf (g : Int → Bool) : List Int → List Prt
  | [] => []
  | p :: r => (p, highOf r, g p) :: partsOf g r
theorem fold_runs (g : Int → Bool) : ∀ (r : List Int) (acc : List Prt) (s : Int) (m : Bool), (partsOf g r).foldl jstep (acc ++ [(s, highOf r, m)]) = acc ++ MS.runs g s m r
  | [], acc, s, m => rfl
  | p :: r, acc, s, m => by
    show (partsOf g r).foldl jstep (jstep (acc ++ [(s, some (p - 1), m)]) (p, highOf r, g p)) = _
    rw [jstep_snoc]
    by_cases e : m = g p
    · rw [if_pos e]
      show (partsOf g r).foldl jstep (acc ++ [(s, highOf r, g p)]) = _
      rw [← e, fold_runs g r acc s m]
      simp only [MS.runs]
      rw [if_pos e.symm]
    · rw [if_neg e, fold_runs g r (acc ++ [(s, some (p - 1), m)]) p (g p)]
      simp only [MS.runs]
      rw [if_neg (fun z => e z.symm), List.append_assoc]
      rfl
theorem fold_all (g : Int → Bool) (p : Int) (r : List Int) : (partsOf g (p :: r)).foldl jstep [] = MS.runs g p (g p) r := by
  have := fold_runs g r [] p (g p)
  exact this
theorem ixN_last (n : Nat) : ixN (n + 1) (-1) = some n := by
  unfold ixN
  rw [if_neg (by decide)]
  have h : ¬ (((n + 1 : Nat) : Int) + -1 < 0) := by omega
  first
    | (rw [if_pos (by omega)]; congr 1; omega)
    | (simp; omega)
theorem at_last {zs : List V} {y : V} : atI (zs ++ [y]) (-1) = some y := by
  unfold atI
  rw [List.length_append, show zs.length + [y].length = zs.length + 1 from rfl, ixN_last]
  simp
theorem eqv_none (S : List Prt) : PyData.eqv (.list (S.map partD)) (.list []) = decide (S = []) := by
  cases S with
  | nil => simp [PyData.eqv, PyData.eqvAll]
  | cons q S => simp [PyData.eqv, PyData.eqvAll]
def spJoined (K : PySem.W.Frag) : Sp := fun vs H Q _ => ∃ (a : Addr) (xs : List V) (L : List Prt), vs = [.ref a] ∧ SqL K H a xs ∧ PartA K H xs L ∧ L.length ≤ 900 ∧
  ∀ (l : Addr) (ys : List V) (H' : Hp), Same H H' → H l = none → H' l = some (.lst ys) → PartA K H' ys (L.foldl jstep []) → Q (.ref l) H'
abbrev s_joined : Stmt := top 30
abbrev N_joined : List Str := ["_law_parts", "_law_found", "_law_low", "_law_high", "_law_mark"]
theorem sc_joined : FnScope N_joined ["_law_parts"] (defScope s_joined) := ⟨rfl, rfl, rfl, by decide +kernel, rfl, by decide +kernel, by decide +kernel⟩

theorem ok_joined (F : Fun K "_law_joined" "_law_joined" s_joined f fd) (T : Blt mg) : FnOk P w K mg base CX0 1 f fd ["_law_parts"] (spJoined K) := by
  refine F.ok sc_joined (fun vs H Q E h => ?_) (fun cdv A outer s H vs Q E hr h => ?_)
  · obtain ⟨_, _, _, rfl, _⟩ := h
    rfl
  · obtain ⟨a, xs, L, rfl, hS, hA, hl, k⟩ := h
    refine ⟨_, (pss_cons (ps_set (i := 1) sc_joined.nd rfl (Or.inl rfl) (pe_lst pa_nil))
    (pss_cons (ps_for PassesOwn.never rfl (pi_list (pv 0)) (pg_tup rfl (pgs_cons (pg_name (i := 2) sc_joined.nd rfl (Or.inl rfl)) (pgs_cons (pg_name (i := 3) sc_joined.nd rfl (Or.inl rfl)) (pgs_cons (pg_name (i := 4) sc_joined.nd rfl (Or.inl rfl)) pgs_nil))))
      (pss_one (ps_if (PW.pt (pw_and (pt_cmpR (show OpR _ _ (rNeD K) from op_neD hr.units) (pv 1) (pe_lst pa_nil) (nomark _)) (pw_and1 (pt_cmpR op_eq (pe_ix (show IxR _ (rIxT K) from ix_tup) (pe_ix (show IxR _ (rIxL K) from ix_list) (pv 1) (pe_un un_neg pe_int) (fun _ _ => rfl)) pe_int (fun _ _ => rfl)) (pv 4) (nomark _)))))
        (pss_one (ps_asg (pe_tup (pa_cons (pe_ix (show IxR _ (rIxT K) from ix_tup) (pe_ix (show IxR _ (rIxL K) from ix_list) (pv 1) (pe_un un_neg pe_int) (fun _ _ => rfl)) pe_int (fun _ _ => rfl)) (pa_cons (pv 3) (pa_cons (pv 4) pa_nil)))) (pg_sub (pv 1) (pe_un un_neg pe_int) set_list)))
        (pss_one (ps_expr (pe_bm PySem.F.plainAttrs_list PySem.F.slot_list_append PySem.F.type_list_append mt_append (pv 1) (pa_cons (pe_tup (pa_cons (pv 2) (pa_cons (pv 3) (pa_cons (pv 4) pa_nil)))) pa_nil)))))))
    (pss_one (ps_ret (pv 1))))), ?_⟩
    refine ⟨(by show 0 ≤ sizeLine; decide), fun d hd => ?_⟩
    have s0 := same_new (Same.refl H) (.lst []) hd
    refine ⟨_, rfl, a, rfl, ⟨_, s0.seq hS⟩, ?_⟩
    refine for_list (K := K) (a := a) (xs := xs) (fun i σ H' => ∃ (ys : List V) (v2 v3 v4 : Option V), σ = [some (.ref a), some (.ref d), v2, v3, v4] ∧ Same H H' ∧ H' d = some (.lst ys) ∧ PartA K H' ys ((L.take i).foldl jstep []) ∧ ys.length ≤ i) ⟨[], none, none, none, rfl, s0, upd_same, .nil, Nat.zero_le _⟩ (fun i σ H' _ h => by obtain ⟨_, _, _, _, _, s1, _⟩ := h; exact s1.seq hS) ?_ ?_
    · rintro i x σ H1 hx ⟨ys, v2, v3, v4, rfl, s1, hd1, hP, hyl⟩
      obtain ⟨⟨lo, hi, m⟩, hp, t, rfl, hT⟩ := (hA.same s1).get hx
      have il := (List.getElem?_eq_some_iff.mp hp).1
      have tk : (L.take (i + 1)).foldl jstep [] = jstep ((L.take i).foldl jstep []) (lo, hi, m) := by rw [take_snoc hp, List.foldl_append]; rfl
      refine ⟨t, _, rfl, hT, rfl, _, _, rfl, _, _, rfl, _, _, rfl, rfl, ?_⟩
      refine ⟨_, rfl, (by show 0 ≤ sizeLine; decide), fun e he => ?_⟩
      have se := same_new (Same.refl H1) (.lst []) he
      have hd2 := se _ _ hd1
      have hP2 := hP.same se
      have he2 : (L2.upd H1 e (.lst [])) e = some (.lst []) := upd_same
      have s2 := s1.trans se
      generalize L2.upd H1 e (.lst []) = H2 at se hd2 hP2 he2 s2 ⊢
      clear hP hd1 s1 se
      generalize (L.take i).foldl jstep [] = acc at hP2 tk
      have app : jstep acc (lo, hi, m) = acc ++ [(lo, hi, m)] → ∀ t2, H2 t2 = none → ∃ ys2 : List V, ys2 = ys ++ [V.ref t2] ∧ PartA K (L2.upd (L2.upd H2 t2 (.tup [.int lo, optV hi, .bl m])) d (.lst (ys ++ [V.ref t2]))) ys2 ((L.take (i + 1)).foldl jstep []) := fun ej t2 h2 => by
        have st := same_new (Same.refl H2) (.tup [.int lo, optV hi, .bl m]) h2
        refine ⟨_, rfl, ?_⟩
        rw [tk, ej]
        exact PartA.upd (st _ _ hd2) ((hP2.same st).snoc ⟨t2, rfl, SqT.of upd_same⟩)
      rcases List.eq_nil_or_concat acc with rfl | ⟨acc', l, rfl⟩
      · refine ⟨_, _, .lst (SqL.of hd2) hP2.dps, .lst (SqL.of he2) .nil, shaped_parts _, shaped_parts [], false, by rw [eqv_none]; rfl, iteF ?_⟩
        refine iteF ?_
        refine ⟨_, rfl, .inl ⟨rfl, _, .inl (.inl hd2)⟩, _, rfl, _, rfl, _, rfl, (by show 3 ≤ sizeLine; decide), fun t2 h2 => ?_⟩
        have st := same_new (Same.refl H2) (.tup [.int lo, optV hi, .bl m]) h2
        refine ⟨d, _, _, rfl, rfl, st _ _ hd2, small1000 (by omega), ?_⟩
        obtain ⟨ys2, ey, g⟩ := app rfl t2 h2
        subst ey
        exact ⟨_, _, _, _, rfl, same_but_new (s2.trans st) hd, upd_same, g, by rw [List.length_append]; exact Nat.succ_le_succ hyl⟩
      · rw [List.concat_eq_append] at hP2 tk app
        obtain ⟨zs, y, rfl, hZ, tl, rfl, hTl⟩ := hP2.split
        refine ⟨_, _, .lst (SqL.of hd2) hP2.dps, .lst (SqL.of he2) .nil, shaped_parts _, shaped_parts [], true, ?_, iteT ?_⟩
        · rw [eqv_none, decide_eq_false (by simp)]
          rfl
        refine ⟨_, rfl, 1, rfl, d, _, _, _, rfl, rfl, SqL.of hd2, at_last, tl, _, 2, _, rfl, rfl, hTl, at_of (j := 2) rfl rfl, _, rfl, rfl, ?_⟩
        by_cases em : l.2.2 = m
        · refine ⟨true, by rw [em]; exact congrArg V.bl (decide_eq_true rfl), iteT ?_⟩
          refine ⟨_, rfl, 1, rfl, d, _, _, _, rfl, rfl, SqL.of hd2, at_last, tl, _, 0, _, rfl, rfl, hTl, at_of (j := 0) rfl rfl, _, rfl, _, rfl, (by show 3 ≤ sizeLine; decide), fun t2 h2 => ?_⟩
          have st := same_new (Same.refl H2) (.tup [.int l.1, optV hi, .bl m]) h2
          have hd3 := st _ _ hd2
          have ez : (zs ++ [V.ref tl]).set zs.length (.ref t2) = zs ++ [V.ref t2] := by simp
          refine ⟨_, rfl, 1, rfl, d, _, _, zs.length, rfl, rfl, hd3, by rw [List.length_append]; exact ixN_last zs.length, ?_⟩
          rw [ez]
          refine ⟨_, _, _, _, rfl, same_but_new (s2.trans st) hd, upd_same, ?_, by rw [List.length_append] at hyl ⊢; simp only [List.length_cons, List.length_nil] at hyl ⊢; omega⟩
          rw [tk, jstep_snoc, if_pos em]
          exact PartA.upd hd3 ((hZ.same st).snoc ⟨t2, rfl, SqT.of upd_same⟩)
        · refine ⟨false, congrArg V.bl (decide_eq_false fun z => em (V.bl.inj z)), iteF ?_⟩
          refine ⟨_, rfl, .inl ⟨rfl, _, .inl (.inl hd2)⟩, _, rfl, _, rfl, _, rfl, (by show 3 ≤ sizeLine; decide), fun t2 h2 => ?_⟩
          have st := same_new (Same.refl H2) (.tup [.int lo, optV hi, .bl m]) h2
          refine ⟨d, _, _, rfl, rfl, st _ _ hd2, small1000 (by omega), ?_⟩
          obtain ⟨ys2, ey, g⟩ := app (by rw [jstep_snoc, if_neg em]) t2 h2
          subst ey
          exact ⟨_, _, _, _, rfl, same_but_new (s2.trans st) hd, upd_same, g, by rw [List.length_append (bs := [V.ref t2])]; exact Nat.succ_le_succ hyl⟩
    · rintro σ H1 ⟨ys, v2, v3, v4, rfl, s1, hd1, hP, hyl⟩
      rw [hA.len, List.take_length] at hP
      exact ⟨_, rfl, k d ys H1 s1 hd hd1 hP⟩
end
end EN

namespace EN
open PySem L2 PyProof.Rows
section
variable {P : Program} {w : World} {K : PySem.W.Frag} {mg : Str → Option Value} {base : Heap} {f : Addr} {fd : FuncData}
/-! ### spread -/
theorem yesT {σ : L2.St} {H : Hp} {Q : Bool → Hp → Prop} (h : Q true H) : tYes σ H Q := h
theorem parts_len (g : Int → Bool) : ∀ ps : List Int, (partsOf g ps).length = ps.length
  | [] => rfl
  | p :: r => by
    show (partsOf g r).length + 1 = r.length + 1
    rw [parts_len g r]
theorem parts_get (g : Int → Bool) : ∀ (ps : List Int) (i : Nat) (p : Int), ps[i]? = some p → (partsOf g ps)[i]? = some (p, (ps[i + 1]?).map (fun q => q - 1), g p)
  | [], i, p, h => by simp at h
  | q :: r, 0, p, h => by
    obtain rfl : q = p := by simpa using h
    cases r <;> rfl
  | q :: r, i + 1, p, h => by
    have h2 : r[i]? = some p := by simpa using h
    have ih := parts_get g r i p h2
    show (partsOf g r)[i]? = _
    rw [ih]
    rfl
theorem highs_get {ps : List Int} {i : Nat} {y : V} (hi : i < ps.length) (h : ((ps.drop 1).map (fun p => V.int (p - 1)) ++ [V.non])[i]? = some y) : y = optV ((ps[i + 1]?).map fun q => q - 1) := by
  by_cases q : i + 1 < ps.length
  · have e : ps[i + 1]? = some ps[i + 1] := List.getElem?_eq_getElem q
    rw [List.getElem?_append_left (by rw [List.length_map, List.length_drop]; omega), List.getElem?_map, List.getElem?_drop, Nat.add_comm, e] at h
    rw [e]
    exact (Option.some.inj h).symm
  · have e : ps[i + 1]? = none := List.getElem?_eq_none (by omega)
    rw [List.getElem?_append_right (by rw [List.length_map, List.length_drop]; omega), List.length_map, List.length_drop, show i - (ps.length - 1) = 0 by omega] at h
    rw [e]
    exact (Option.some.inj h).symm
theorem held_snoc (A : List Prt) (q : Prt) : MS.held (A ++ [q]) = MS.held A ++ (if q.2.2 = true then [(q.1, q.2.1)] else []) := by
  unfold MS.held
  rw [List.filter_append, List.map_append]
  cases h : q.2.2 <;> simp [h]
theorem held_len (A : List Prt) : (MS.held A).length ≤ A.length := by
  unfold MS.held
  rw [List.length_map]
  exact List.length_filter_le _ _
theorem runs_len (g : Int → Bool) : ∀ (r : List Int) (s : Int) (m : Bool), (MS.runs g s m r).length ≤ r.length + 1
  | [], _, _ => Nat.le_refl _
  | p :: r, s, m => by
    unfold MS.runs
    split
    · exact Nat.le_trans (runs_len g r s m) (by simp)
    · have := runs_len g r p (g p)
      simp only [List.length_cons]
      omega
def spSpread (K : PySem.W.Frag) : Sp := fun vs H Q _ => ∃ (a b : Addr) (ps : List Int) (g : Int → Bool), vs = [.ref a, .ref b] ∧ SqL K H a (ps.map V.int) ∧ SqL K H b (ps.map fun p => V.bl (g p)) ∧ 0 < ps.length ∧ ps.length ≤ 900 ∧
  ∀ (t : Addr) (ys : List V) (H' : Hp), Same H H' → H t = none → H' t = some (.tup ys) → StrA K H' ys (MS.paired (MS.scan g false ps)) → Q (.ref t) H'
abbrev s_spread : Stmt := top 34
abbrev N_spread : List Str := ["_law_points_here", "_law_inside", "_law_parts", "_law_low", "_law_high", "_law_truth"]
theorem sc_spread : FnScope N_spread ["_law_points_here", "_law_inside"] (defScope s_spread) := ⟨rfl, rfl, rfl, by decide +kernel, rfl, by decide +kernel, by decide +kernel⟩

theorem ok_spread (F : Fun K "_law_spread" "_law_spread" s_spread f fd) (T : Blt mg) (G_highs : Has P w K mg base 1 "_law_highs" ["_law_lows"] (spHighs K)) (G_joined : Has P w K mg base 1 "_law_joined" ["_law_parts"] (spJoined K)) : FnOk P w K mg base CX0 2 f fd ["_law_points_here", "_law_inside"] (spSpread K) := by
  refine F.ok sc_spread (fun vs H Q E h => ?_) (fun cdv A outer s H vs Q E hr h => ?_)
  · obtain ⟨_, _, _, _, rfl, _⟩ := h
    rfl
  · obtain ⟨a, b, ps, g, rfl, hS, hB, h0, hl, k⟩ := h
    refine ⟨_, (pss_cons (ps_set (i := 2) sc_spread.nd rfl (Or.inl rfl) (pe_has G_joined (hr.mono (by decide)) (pa_cons (pe_lc (own := [("_law_low", 3), ("_law_high", 4), ("_law_truth", 5)]) (g := gTup K 3 (gCons (gName 3) (gCons (gName 4) (gCons (gName 5) gNil)))) (tt := tYes) (by rfl) sc_spread.nd (ZK.pi_zip3 .l .l .l (by rfl) T.zip_ (pa_cons (pv 0) (pa_cons (pe_has G_highs (hr.mono (by decide)) (pa_cons (pv 0) pa_nil)) (pa_cons (pv 1) pa_nil)))) (blkOk_by (own := [("_law_low", 3), ("_law_high", 4), ("_law_truth", 5)]) (N := N_spread) (sc := defScope s_spread) (by decide +kernel)) (fun _ _ _ _ _ => (pg_tup rfl (pgs_cons (pg_name (i := 3) sc_spread.nd rfl (by first | exact Or.inl rfl | exact Or.inr rfl)) (pgs_cons (pg_name (i := 4) sc_spread.nd rfl (by first | exact Or.inl rfl | exact Or.inr rfl)) (pgs_cons (pg_name (i := 5) sc_spread.nd rfl (by first | exact Or.inl rfl | exact Or.inr rfl)) pgs_nil))))) (fun _ _ _ _ _ => pts_nil) (fun _ _ _ _ _ => (pe_tup (pa_cons (pv 3) (pa_cons (pv 4) (pa_cons (pv 5) pa_nil)))))) pa_nil)))
    (pss_one (ps_ret (pe_callTy (show CallR _ _ (rTupQ K) from c_tuple) (by rfl) T.tuple_ (by decide +kernel) (pa_cons (pe_lc (own := [("_law_low", 3), ("_law_high", 4), ("_law_truth", 5)]) (g := gTup K 3 (gCons (gName 3) (gCons (gName 4) (gCons (gName 5) gNil)))) (by rfl) sc_spread.nd (pi_list (pv 2)) (blkOk_by (own := [("_law_low", 3), ("_law_high", 4), ("_law_truth", 5)]) (N := N_spread) (sc := defScope s_spread) (by decide +kernel)) (fun _ _ _ _ _ => (pg_tup rfl (pgs_cons (pg_name (i := 3) sc_spread.nd rfl (by first | exact Or.inl rfl | exact Or.inr rfl)) (pgs_cons (pg_name (i := 4) sc_spread.nd rfl (by first | exact Or.inl rfl | exact Or.inr rfl)) (pgs_cons (pg_name (i := 5) sc_spread.nd rfl (by first | exact Or.inl rfl | exact Or.inr rfl)) pgs_nil))))) (fun _ _ _ _ _ => (pts_one (pt_val (pv 5)))) (fun _ _ _ _ _ => (pe_tup (pa_cons (pv 3) (pa_cons (pv 4) pa_nil))))) pa_nil))))), ?_⟩
    refine ⟨_, rfl, _, rfl, a, ps, rfl, hS, h0, hl, fun hg H1 s1 nh hh => ?_⟩
    refine ⟨_, rfl, a, hg, b, _, _, _, rfl, s1.seq hS, SqL.of hh, s1.seq hB, fun D hD => ?_⟩
    have hgl : ((ps.drop 1).map (fun p => V.int (p - 1)) ++ [V.non]).length = ps.length := by
      rw [List.length_append, List.length_map, List.length_drop]
      show ps.length - 1 + 1 = ps.length
      omega
    refine ZK.lc_growF ps.length (small1000 (by omega)) (fun i acc H' => Same H1 H' ∧ PartA K H' acc ((partsOf g ps).take i)) ⟨same_new (Same.refl _) _ hD, .nil⟩ ?_ ?_ ?_ ?_
    · intro i acc H' hi hI
      have e1 : (ps.map V.int)[i]? = some (.int ps[i]) := by rw [List.getElem?_map, List.getElem?_eq_getElem hi]; rfl
      have e3 : (ps.map fun p => V.bl (g p))[i]? = some (.bl (g ps[i])) := by rw [List.getElem?_map, List.getElem?_eq_getElem hi]; rfl
      exact ⟨_, _, _, _, _, _, hI.1.seq (s1.seq hS), hI.1.seq (SqL.of hh), hI.1.seq (s1.seq hB), e1, List.getElem?_eq_getElem (by rw [hgl]; exact hi), e3⟩
    · intro acc H' hI
      exact ⟨_, _, _, hI.1.seq (s1.seq hS), hI.1.seq (SqL.of hh), hI.1.seq (s1.seq hB), by rw [List.length_map]; exact Nat.le_refl _, by rw [hgl]; exact Nat.le_refl _, by rw [List.length_map]; exact Nat.le_refl _, .inl (by rw [List.length_map])⟩
    · rintro i H2 x H' acc hi ⟨s2, hP⟩ hacc hal ⟨T, x1, y1, z1, rfl, nT, rfl, e1, e2, e3⟩ N hN
      have gi : ps[i]? = some ps[i] := List.getElem?_eq_getElem hi
      have q1 := e1 _ (s2.seq (s1.seq hS))
      rw [List.getElem?_map, gi] at q1
      obtain rfl : V.int ps[i] = x1 := Option.some.inj q1
      have q3 := e3 _ (s2.seq (s1.seq hB))
      rw [List.getElem?_map, gi] at q3
      obtain rfl : V.bl (g ps[i]) = z1 := Option.some.inj q3
      have q2 := e2 _ (s2.seq (SqL.of hh))
      obtain rfl := highs_get hi q2
      refine ⟨T, _, rfl, SqT.of upd_same, rfl, _, _, rfl, _, _, rfl, _, _, rfl, rfl, rfl, ?_⟩
      refine yesT ?_
      refine iteT ?_
      refine ⟨_, rfl, _, rfl, _, rfl, (by show 3 ≤ sizeLine; decide), fun t2 h2 => ?_⟩
      have st := same_new (Same.refl H2) (.tup [V.int ps[i], optV ((ps[i + 1]?).map fun q => q - 1), V.bl (g ps[i])]) nT
      have su := same_new (Same.refl (L2.upd H2 T (.tup [V.int ps[i], optV ((ps[i + 1]?).map fun q => q - 1), V.bl (g ps[i])]))) (.tup [V.int ps[i], optV ((ps[i + 1]?).map fun q => q - 1), V.bl (g ps[i])]) h2
      have hacc2 := su _ _ (st _ _ hacc)
      refine ⟨acc, hacc2, small1000 (by omega), hN _ (acc ++ [.ref t2]) ⟨same_but_new ((s2.trans st).trans su) hD, ?_⟩ upd_same (by rw [List.length_append]; exact Nat.succ_le_succ hal)⟩
      rw [take_snoc (parts_get g ps i _ gi)]
      exact PartA.upd hacc2 (((hP.same st).same su).snoc ⟨t2, rfl, SqT.of upd_same⟩)
    · rintro H2 acc ⟨s2, hP⟩ hacc hal
      rw [List.take_of_length_le (by rw [parts_len]; exact Nat.le_refl _)] at hP
      refine ⟨D, acc, _, rfl, SqL.of hacc, hP, by rw [parts_len]; exact hl, fun l ys H3 s3 nl hl3 hJ => ?_⟩
      obtain ⟨p0, r0, rfl⟩ : ∃ p r, ps = p :: r := by
        cases ps with
        | nil => simp at h0
        | cons p r => exact ⟨p, r, rfl⟩
      rw [fold_all] at hJ
      have ml := runs_len g r0 p0 (g p0)
      have hm := MS.held_all g p0 r0
      generalize MS.runs g p0 (g p0) r0 = M at hJ ml hm
      have ml2 : M.length ≤ 900 := by simp only [List.length_cons] at hl; omega
      refine ⟨_, rfl, l, rfl, ⟨_, SqL.of hl3⟩, fun D2 hD2 => ?_⟩
      have yl := hJ.len
      refine ZK.lc_growF ys.length (small1000 (by omega)) (fun i acc H' => Same H3 H' ∧ StrA K H' acc (MS.held (M.take i))) ⟨same_new (Same.refl _) _ hD2, .nil⟩ (fun i acc H' hi hI => ⟨_, ys[i], hI.1.seq (SqL.of hl3), List.getElem?_eq_getElem hi⟩) (fun acc H' hI => ⟨_, hI.1.seq (SqL.of hl3), Nat.le_refl _⟩) ?_ ?_
      · rintro i H4 x H' acc2 hi ⟨s4, hA4⟩ hacc4 hal4 ⟨rfl, hx⟩ N hN
        obtain ⟨⟨lo, hi2, m⟩, hp, t, rfl, hT⟩ := (hJ.same s4).get (hx _ (s4.seq (SqL.of hl3)))
        refine ⟨t, _, rfl, hT, rfl, _, _, rfl, _, _, rfl, _, _, rfl, rfl, rfl, ?_⟩
        refine ⟨_, rfl, m, rfl, ?_⟩
        cases m
        · refine iteF ?_
          refine hN _ acc2 ⟨s4, ?_⟩ hacc4 (Nat.le_succ_of_le hal4)
          rw [take_snoc hp, held_snoc]
          simpa using hA4
        · refine iteT ?_
          refine ⟨_, rfl, _, rfl, (by show 2 ≤ sizeLine; decide), fun t2 h2 => ?_⟩
          have st := same_new (Same.refl H') (.tup [.int lo, optV hi2]) h2
          refine ⟨acc2, st _ _ hacc4, small1000 (by omega), hN _ (acc2 ++ [.ref t2]) ⟨same_but_new (s4.trans st) hD2, ?_⟩ upd_same (by rw [List.length_append]; exact Nat.succ_le_succ hal4)⟩
          rw [take_snoc hp, held_snoc]
          exact StrA.upd (st _ _ hacc4) ((hA4.same st).snoc ⟨t2, rfl, SqT.of upd_same⟩)
      · rintro H4 acc2 ⟨s4, hA4⟩ hacc4 hal4
        rw [yl, List.take_length, hm] at hA4
        refine ⟨D2, _, rfl, .inl ⟨SqL.of hacc4, fun t ht => ?_⟩⟩
        exact k t acc2 _ ((((s1.trans s2).trans s3).trans s4).trans (same_new (Same.refl _) _ ht)) ((((s1.trans s2).trans s3).trans s4).free ht) upd_same (hA4.same (same_new (Same.refl _) _ ht))
end
end EN

namespace EN
open PySem L2 PyProof.Rows
section
variable {P : Program} {w : World} {K : PySem.W.Frag} {mg : Str → Option Value} {base : Heap} {f : Addr} {fd : FuncData}
/-! ### what the law draws -/
theorem lit (m : Int) (h0 : 0 < m) (h1 : m < 5000) : m.natAbs < 2 ^ 8000 := Nat.lt_of_lt_of_le (by omega : m.natAbs < 2 ^ 13) (Nat.pow_le_pow_right (by decide) (by decide))
def spBase : Sp := fun vs H Q _ => ∃ (p c : Addr) (ns : List Int) (B : Nat), vs = [.ref p] ∧ Pen H p c ns B ∧ B + 30 ≤ 1000000000 ∧ ∀ (d : Int) (H' : Hp), 0 ≤ d → Pen H' p c ns (B + 30) → But p H H' → Q (.int d) H'
abbrev s_lbase : Stmt := top 29
abbrev N_lbase : List Str := ["_law_pen_here"]
theorem sc_lbase : FnScope N_lbase ["_law_pen_here"] (defScope s_lbase) := ⟨rfl, rfl, rfl, by decide +kernel, rfl, by decide +kernel, by decide +kernel⟩

theorem ok_lbase (F : Fun K "_law_base" "_law_base" s_lbase f fd) (T : Blt mg) (G_draw : Has P w K mg base 1 "_law_draw" ["_law_pen_here", "_law_many"] spDraw) (G_great : Has P w K mg base 2 "_law_great" ["_law_pen_here", "_law_many"] spGreat) : FnOk P w K mg base CX0 3 f fd ["_law_pen_here"] spBase := by
  refine F.ok sc_lbase (fun vs H Q E h => ?_) (fun cdv A outer s H vs Q E hr h => ?_)
  · obtain ⟨_, _, _, _, rfl, _⟩ := h
    rfl
  · obtain ⟨p, c, ns, B, rfl, hP, hB, k⟩ := h
    refine ⟨_, (pss_one (ps_ret (pe_ifExp (pt_cmpR op_eq (pe_has G_draw (hr.mono (by decide)) (pa_cons (pv 0) (pa_cons pe_int pa_nil))) pe_int (nomark _)) (pe_has G_great (hr.mono (by decide)) (pa_cons (pv 0) (pa_cons (pe_op op_pow pe_int pe_int) pa_nil))) (pe_has G_draw (hr.mono (by decide)) (pa_cons (pv 0) (pa_cons pe_int pa_nil)))))), ?_⟩
    refine ⟨_, rfl, p, c, ns, B, 4, rfl, hP, by omega, by decide, lit _ (by decide) (by decide), fun way H1 w0 w1 P1 b1 => ?_⟩
    refine ⟨rfl, _, rfl, ?_⟩
    have s60 : Sz 200 ((10 : Int) ^ (60 : Int).toNat) := by unfold Sz; decide +kernel
    have p60 : 0 < (10 : Int) ^ (60 : Int).toNat := by decide +kernel
    refine ite2 (fun h1 => ?_) (fun h1 => ?_)
    · refine ⟨_, rfl, 10, 60, rfl, rfl, ⟨by decide, by decide, by decide⟩, p, c, ns, B + 1, _, rfl, P1, by omega, p60, s60.mono (by decide), fun y H2 y0 y1 P2 b2 => ?_⟩
      exact k y _ y0 (P2.more (by omega) (by omega)) (b1.trans b2)
    · refine ⟨_, rfl, p, c, ns, B + 1, 3, rfl, P1, by omega, by decide, lit _ (by decide) (by decide), fun y H2 y0 y1 P2 b2 => ?_⟩
      exact k y _ y0 (P2.more (by omega) (by omega)) (b1.trans b2)
def spStretch : Sp := fun vs H Q _ => ∃ (p c : Addr) (ns : List Int) (B : Nat) (b : Int), vs = [.ref p, .int b] ∧ Pen H p c ns B ∧ B + 3 ≤ 1000000000 ∧ 0 ≤ b ∧
  ∀ (t : Addr) (q : MS.Str2) (H' : Hp), Good q → Pen H' p c ns (B + 3) → But p H H' → H t = none → H' t = some (.tup [.int q.1, optV q.2]) → Q (.ref t) H'
abbrev s_stretch : Stmt := top 37
abbrev N_stretch : List Str := ["_law_pen_here", "_law_base_here", "_law_low"]
theorem sc_stretch : FnScope N_stretch ["_law_pen_here", "_law_base_here"] (defScope s_stretch) := ⟨rfl, rfl, rfl, by decide +kernel, rfl, by decide +kernel, by decide +kernel⟩

theorem ok_stretch (F : Fun K "_law_stretch" "_law_stretch" s_stretch f fd) (T : Blt mg) (G_draw : Has P w K mg base 1 "_law_draw" ["_law_pen_here", "_law_many"] spDraw) : FnOk P w K mg base CX0 2 f fd ["_law_pen_here", "_law_base_here"] spStretch := by
  refine F.ok sc_stretch (fun vs H Q E h => ?_) (fun cdv A outer s H vs Q E hr h => ?_)
  · obtain ⟨_, _, _, _, _, rfl, _⟩ := h
    rfl
  · obtain ⟨p, c, ns, B, b, rfl, hP, hB, hb, k⟩ := h
    refine ⟨_, (pss_cons (ps_set (i := 2) sc_stretch.nd rfl (Or.inl rfl) (pe_op op_add (pv 1) (pe_has G_draw (hr.mono (by decide)) (pa_cons (pv 0) (pa_cons pe_int pa_nil)))))
    (pss_one (ps_ret (pe_tup (pa_cons (pv 2) (pa_cons (pe_ifExp (pt_cmpR op_eq (pe_has G_draw (hr.mono (by decide)) (pa_cons (pv 0) (pa_cons pe_int pa_nil))) pe_int (nomark _)) pe_non (pe_op op_add (pv 2) (pe_has G_draw (hr.mono (by decide)) (pa_cons (pv 0) (pa_cons pe_int pa_nil))))) pa_nil)))))), ?_⟩
    have gone : ∀ {H' : Hp} {t : Addr} {B' : Nat}, Pen H p c ns B → But p H H' → Pen H' p c ns B' → H' t = none → H t = none := fun {H' t B'} P0 b0 P1 ht => by
      cases e : H t with
      | none => rfl
      | some o =>
        exfalso
        by_cases z : t = p
        · exact P1.nep ht z
        · rw [b0 _ _ e z] at ht
          cases ht
    refine ⟨_, rfl, _, rfl, p, c, ns, B, 40, rfl, hP, by omega, by decide, lit _ (by decide) (by decide), fun d1 H1 d10 d11 P1 b1 => ?_⟩
    refine ⟨_, _, rfl, rfl, ?_⟩
    refine ⟨_, rfl, _, rfl, p, c, ns, B + 1, 12, rfl, P1, by omega, by decide, lit _ (by decide) (by decide), fun d2 H2 d20 d21 P2 b2 => ?_⟩
    refine ⟨rfl, _, rfl, ?_⟩
    refine ite2 (fun h1 => ?_) (fun h1 => ?_)
    · refine ⟨(by show 2 ≤ sizeLine; decide), fun t ht => ?_⟩
      exact k t (b + d1, none) _ ⟨by show 0 ≤ b + d1; omega, fun h e => nomatch e⟩ ((P2.new ht).more (by omega) (by omega)) ((b1.trans b2).new _ ht) (gone hP (b1.trans b2) P2 ht) upd_same
    · refine ⟨_, rfl, _, rfl, p, c, ns, B + 2, 7, rfl, P2, by omega, by decide, lit _ (by decide) (by decide), fun d3 H3 d30 d31 P3 b3 => ?_⟩
      refine ⟨_, _, rfl, rfl, (by show 2 ≤ sizeLine; decide), fun t ht => ?_⟩
      exact k t (b + d1, some (b + d1 + d3)) _ ⟨by show 0 ≤ b + d1; omega, fun h e => by obtain rfl : b + d1 + d3 = h := Option.some.inj e; show b + d1 ≤ b + d1 + d3; omega⟩ ((P3.new ht).more (by omega) (by omega)) (((b1.trans b2).trans b3).new _ ht) (gone hP ((b1.trans b2).trans b3) P3 ht) upd_same
end
end EN

namespace EN
open PySem L2 PyProof.Rows
section
variable {P : Program} {w : World} {K : PySem.W.Frag} {mg : Str → Option Value} {base : Heap} {f : Addr} {fd : FuncData}
theorem StrA.but {p c : Addr} {ns : List Int} {B : Nat} {H H' : Hp} (P0 : Pen H p c ns B) (b : But p H H') : ∀ {xs : List V} {S : List MS.Str2}, StrA K H xs S → StrA K H' xs S
  | _, _, .nil => .nil
  | _, _, .cons ⟨t, e, h⟩ r => .cons ⟨t, e, P0.sqT b h⟩ (StrA.but P0 b r)
theorem But.gone {p v : Addr} {H H' : Hp} (b : But p H H') (hv : H' v = none) (ne : v ≠ p) : H v = none := by
  cases e : H v with
  | none => rfl
  | some o =>
    rw [b v o e ne] at hv
    cases hv
def spStretches (K : PySem.W.Frag) : Sp := fun vs H Q _ => ∃ (p c : Addr) (ns : List Int) (B : Nat) (b : Int), vs = [.ref p, .int b] ∧ Pen H p c ns B ∧ B + 50 ≤ 1000000000 ∧ 0 ≤ b ∧
  ∀ (l : Addr) (xs : List V) (S : List MS.Str2) (H' : Hp), StrA K H' xs S → (∀ q ∈ S, Good q) → S.length ≤ 8 → Pen H' p c ns (B + 50) → But p H H' → H l = none → H' l = some (.lst xs) → Q (.ref l) H'
abbrev s_stretches : Stmt := top 38
abbrev N_stretches : List Str := ["_law_pen_here", "_law_base_here", "_law_found", "_law_k"]
theorem sc_stretches : FnScope N_stretches ["_law_pen_here", "_law_base_here"] (defScope s_stretches) := ⟨rfl, rfl, rfl, by decide +kernel, rfl, by decide +kernel, by decide +kernel⟩

theorem ok_stretches (F : Fun K "_law_stretches" "_law_stretches" s_stretches f fd) (T : Blt mg) (G_draw : Has P w K mg base 1 "_law_draw" ["_law_pen_here", "_law_many"] spDraw) (G_stretch : Has P w K mg base 2 "_law_stretch" ["_law_pen_here", "_law_base_here"] spStretch) : FnOk P w K mg base CX0 3 f fd ["_law_pen_here", "_law_base_here"] (spStretches K) := by
  refine F.ok sc_stretches (fun vs H Q E h => ?_) (fun cdv A outer s H vs Q E hr h => ?_)
  · obtain ⟨_, _, _, _, _, rfl, _⟩ := h
    rfl
  · obtain ⟨p, c, ns, B, b, rfl, hP, hB, hb, k⟩ := h
    refine ⟨_, (pss_cons (ps_setLc (i := 2) (own := [("_law_k", 3)]) (g := gName 3) (tt := tYes) (by rfl) sc_stretches.nd rfl rfl (sw_true rfl rfl rfl (by decide +kernel)) (pi_range1 (by rfl) T.range_ (pa_cons (pe_has G_draw (hr.mono (by decide)) (pa_cons (pv 0) (pa_cons pe_int pa_nil))) pa_nil)) (blkOk_by (own := [("_law_k", 3)]) (N := N_stretches) (sc := defScope s_stretches) (by decide +kernel)) (fun _ _ _ _ _ => (pg_name (i := 3) sc_stretches.nd rfl (by first | exact Or.inl rfl | exact Or.inr rfl))) (fun _ _ _ _ _ => pts_nil) (fun _ _ _ _ _ => (pe_has G_stretch (hr.mono (by decide)) (pa_cons (pv 0) (pa_cons (pv 1) pa_nil)))))
    (pss_one (ps_ret (pe_op op_cat (pv 2) (pe_op op_rep (pe_lst (pa_cons (pe_tup (pa_cons pe_int (pa_cons (pe_has G_draw (hr.mono (by decide)) (pa_cons (pv 0) (pa_cons pe_int pa_nil))) pa_nil))) pa_nil)) (pe_has G_draw (hr.mono (by decide)) (pa_cons (pv 0) (pa_cons pe_int pa_nil)))))))), ?_⟩
    refine ⟨_, rfl, p, c, ns, B, 8, rfl, hP, by omega, by decide, lit _ (by decide) (by decide), fun d H1 d0 d1 P1 b1 => ⟨d, rfl, by omega, by omega, fun D hD => ?_⟩⟩
    obtain ⟨n, rfl⟩ := Int.eq_ofNat_of_zero_le d0
    rw [show (n : Int).toNat = n by omega]
    have nDp := P1.nep hD
    have nDc := P1.nec hD
    refine ZK.lc_growF n (small1000 (by omega)) (fun i acc H' => Pen H' p c ns (B + 1 + 3 * i) ∧ But p H1 H' ∧ ∃ S, StrA K H' acc S ∧ (∀ q ∈ S, Good q) ∧ S.length ≤ i) ⟨P1.new hD, (But.refl _ _).new _ hD, [], .nil, (fun q h => by cases h), Nat.zero_le _⟩ (fun i acc H' hi hI => hi) (fun acc H' hI => Nat.le_refl _) ?_ ?_
    · rintro i H2 x H' acc hi ⟨P2, b2, S, hA, hG, hSl⟩ hacc hal ⟨rfl, rfl⟩ N hN
      refine ⟨rfl, yesT (iteT ?_)⟩
      refine ⟨_, rfl, _, rfl, p, c, ns, B + 1 + 3 * i, b, rfl, P2, by omega, hb, fun t q H3 gq P3 b3 nt ht => ?_⟩
      have hacc3 := b3 _ _ hacc nDp
      refine ⟨acc, hacc3, small1000 (by omega), hN _ (acc ++ [.ref t]) ⟨(P3.stay (upd_ne nDp.symm) (upd_ne nDc.symm)).more (by omega) (by omega), but_new (b2.trans b3) hD, S ++ [q], StrA.upd hacc3 ((StrA.but P2 b3 hA).snoc ⟨t, rfl, SqT.of ht⟩), good_app hG (fun r hr => by rw [List.mem_singleton.mp hr]; exact gq), by rw [List.length_append]; exact Nat.succ_le_succ hSl⟩ upd_same (by rw [List.length_append]; exact Nat.succ_le_succ hal)⟩
    · rintro H2 acc ⟨P2, b2, S, hA, hG, hSl⟩ hacc hal
      refine ⟨_, rfl, _, rfl, p, c, ns, B + 1 + 3 * n, 9, rfl, P2, by omega, by decide, lit _ (by decide) (by decide), fun d2 H3 e0 e1 P3 b3 => ?_⟩
      refine ⟨(by show 2 ≤ sizeLine; decide), fun t ht => ⟨(by show 1 ≤ sizeLine; decide), fun l1 hl1 => ?_⟩⟩
      have P5 := (P3.new (u := .tup [.int 0, .int d2]) ht).new (u := .lst [.ref t]) hl1
      have sT := (same_new (Same.refl H3) (.tup [.int 0, .int d2]) ht)
      have sL := (same_new (Same.refl (L2.upd H3 t (.tup [.int 0, .int d2]))) (.lst [.ref t]) hl1)
      have tT : StrT K (L2.upd (L2.upd H3 t (.tup [.int 0, .int d2])) l1 (.lst [.ref t])) (.ref t) (0, some d2) := ⟨t, rfl, sqT_same sL (SqT.of upd_same)⟩
      have hl5 : (L2.upd (L2.upd H3 t (.tup [.int 0, .int d2])) l1 (.lst [.ref t])) l1 = some (.lst [.ref t]) := upd_same
      have hD5 := sL _ _ (sT _ _ (b3 _ _ hacc nDp))
      have hA5 := ((StrA.but P2 b3 hA).same sT).same sL
      have b5 := (((b1.trans b2).trans b3).trans (same_but sT)).trans (same_but sL)
      generalize L2.upd (L2.upd H3 t (.tup [.int 0, .int d2])) l1 (.lst [.ref t]) = H5 at P5 tT hl5 hD5 hA5 b5 ⊢
      have nlp : l1 ≠ p := by
        obtain ⟨_, _, z, _⟩ := P5.at_
        exact ne_of hl5 z (by intro q; cases q)
      refine ⟨_, rfl, p, c, ns, _, 2, rfl, P5, by omega, by decide, lit _ (by decide) (by decide), fun m H6 m0 m1 P6 b6 => ?_⟩
      have hD6 := b6 _ _ hD5 nDp
      have hA6 := StrA.but P5 b6 hA5
      have tT6 : StrT K H6 (.ref t) (0, some d2) := by
        obtain ⟨q, e, h⟩ := tT
        exact ⟨q, e, P5.sqT b6 h⟩
      refine ⟨l1, _, _, rfl, rfl, b6 _ _ hl5 nlp, by omega, by omega, ?_, fun u hu => ?_⟩
      · have : m.toNat ≤ 1 := by omega
        show 1 * m.toNat ≤ sizeLine
        exact Nat.le_trans (by omega) (show 1 ≤ sizeLine by decide)
      have sU := same_new (Same.refl H6) (.lst (List.replicate m.toNat [V.ref t]).flatten) hu
      refine ⟨D, u, _, _, rfl, rfl, sU _ _ hD6, upd_same, ?_, fun v hv => ?_⟩
      · have e2 : m.toNat = 0 ∨ m.toNat = 1 := by omega
        refine Nat.le_of_lt (small1000 ?_)
        rcases e2 with q | q <;> rw [q] <;> simp <;> omega
      have sV := same_new (Same.refl (L2.upd H6 u (.lst (List.replicate m.toNat [V.ref t]).flatten))) (.lst (acc ++ (List.replicate m.toNat [V.ref t]).flatten)) hv
      have e2 : m.toNat = 0 ∨ m.toNat = 1 := by omega
      have b7 := ((b5.trans b6).trans (same_but sU)).trans (same_but sV)
      have P7 := ((P6.new (u := .lst (List.replicate m.toNat [V.ref t]).flatten) hu).new (u := .lst (acc ++ (List.replicate m.toNat [V.ref t]).flatten)) hv).more (show _ ≤ B + 50 by omega) (by omega)
      have hA7 := (hA6.same sU).same sV
      have Pv := P6.new (u := .lst (List.replicate m.toNat [V.ref t]).flatten) hu
      have nv : H v = none := But.gone ((b5.trans b6).trans (same_but sU)) hv (Pv.nep hv)
      have n8 : n ≤ 7 := by omega
      rcases e2 with q | q
      · refine k v _ S _ ?_ hG (by omega) P7 b7 nv upd_same
        rw [q] at hA7 ⊢
        simpa using hA7
      · refine k v _ (S ++ [(0, some d2)]) _ ?_ (good_app hG fun r hr => by rw [List.mem_singleton.mp hr]; exact ⟨Int.le_refl _, fun h e => by obtain rfl : d2 = h := Option.some.inj e; exact e0⟩) (by rw [List.length_append]; show S.length + 1 ≤ 8; omega) P7 b7 nv upd_same
        have tT7 : StrT K _ (.ref t) (0, some d2) := ⟨_, rfl, sqT_same sV (sqT_same sU (by obtain ⟨q, e, h⟩ := tT6; cases e; exact h))⟩
        rw [q] at hA7 tT7 ⊢
        simpa using hA7.snoc tT7
end
end EN

namespace EN
open PySem L2 PyProof.Rows
section
variable {P : Program} {w : World} {K : PySem.W.Frag} {mg : Str → Option Value} {base : Heap} {f : Addr} {fd : FuncData}
def strD (q : MS.Str2) : PyData := .tuple [.int q.1, optD q.2]
theorem StrT.dp {H : Hp} {v : V} {q : MS.Str2} (h : StrT K H v q) : Dp K H v (strD q) := by
  obtain ⟨t, rfl, h⟩ := h
  refine .tup h (.cons (.int _) (.cons ?_ .nil))
  obtain ⟨lo, hi⟩ := q
  cases hi
  · exact .non
  · exact .int _
theorem StrA.dps {H : Hp} : ∀ {xs : List V} {S : List MS.Str2}, StrA K H xs S → DpAll K H xs (S.map strD)
  | _, _, .nil => .nil
  | _, _, .cons h r => .cons h.dp (StrA.dps r)
theorem lay_str (q : MS.Str2) : PyData.canLay0 (strD q) = true ∧ PyData.depth (strD q) = 1 ∧ PyData.eqv (strD q) (strD q) = true := by
  obtain ⟨lo, hi⟩ := q
  cases hi
  · exact ⟨by simp [strD, optD, PyData.canLay0, PyData.canLayAll0], by simp [strD, optD, PyData.depth, PyData.depthAll], by simp [strD, optD, PyData.eqv, PyData.eqvAll]⟩
  · exact ⟨by simp [strD, optD, PyData.canLay0, PyData.canLayAll0], by simp [strD, optD, PyData.depth, PyData.depthAll], by simp [strD, optD, PyData.eqv, PyData.eqvAll]⟩
theorem lay_strs : ∀ S : List MS.Str2, PyData.canLayAll0 (S.map strD) = true ∧ PyData.depthAll (S.map strD) ≤ 1 ∧ PyData.eqvAll (S.map strD) (S.map strD) = true
  | [] => ⟨by simp [PyData.canLayAll0], by simp [PyData.depthAll], by simp [PyData.eqvAll]⟩
  | q :: S => by
    obtain ⟨h1, h2, h3⟩ := lay_strs S
    obtain ⟨g1, g2, g3⟩ := lay_str q
    refine ⟨?_, ?_, ?_⟩
    · rw [List.map_cons, PyData.canLayAll0, g1, h1]
      rfl
    · rw [List.map_cons, PyData.depthAll, g2]
      omega
    · rw [List.map_cons, PyData.eqvAll, g3, h3]
      rfl
theorem shaped_strs (S : List MS.Str2) : SeqAt.shaped (.tuple (S.map strD)) = true := by
  obtain ⟨h1, h2, _⟩ := lay_strs S
  unfold SeqAt.shaped
  rw [PyData.canLay0, h1, PyData.depth, decide_eq_true (by omega)]
  rfl
theorem eqv_strs (S : List MS.Str2) : PyData.eqv (.tuple (S.map strD)) (.tuple (S.map strD)) = true := by
  rw [PyData.eqv]
  exact (lay_strs S).2.2
def spSpanIs (K : PySem.W.Frag) (C : Addr) : Sp := fun vs H Q _ => ∃ (s u : Addr) (ys : List V) (R : List MS.Str2), vs = [.ref s, .ref u] ∧ SpanAt K C H s R ∧ SqT K H u ys ∧ StrA K H ys R ∧ R.length ≤ 900 ∧ ∀ H' : Hp, Same H H' → Q (.bl true) H'
abbrev s_spanis : Stmt := top 36
abbrev N_spanis : List Str := ["_law_span", "_law_stretches_here", "_law_told", "_law_low", "_law_high", "_law_pair"]
theorem sc_spanis : FnScope N_spanis ["_law_span", "_law_stretches_here"] (defScope s_spanis) := ⟨rfl, rfl, rfl, by decide +kernel, rfl, by decide +kernel, by decide +kernel⟩

theorem ok_spanis {C : Addr} (F : Fun K "_law_span_is" "_law_span_is" s_spanis f fd) (T : Blt mg) (cl : Cls K C) (nR : NoAttr K C "stretches") (G_lwhole : Has P w K mg base 1 "_law_whole" ["_law_value"] spWhole) : FnOk P w K mg base CX0 2 f fd ["_law_span", "_law_stretches_here"] (spSpanIs K C) := by
  refine F.ok sc_spanis (fun vs H Q E h => ?_) (fun cdv A outer s H vs Q E hr h => ?_)
  · obtain ⟨_, _, _, _, rfl, _⟩ := h
    rfl
  · obtain ⟨z, u, ys, R, rfl, ⟨dx, t, xs, h1, h2, h3⟩, hu, hY, hl, k⟩ := h
    refine ⟨_, (pss_cons (ps_set (i := 2) sc_spanis.nd rfl (Or.inl rfl) (pe_fld (pv 0) rfl))
    (pss_cons (ps_if (PW.pt (pw_or (pt_not (pt_val (pe_callB (show CallR _ _ (rIsi K) from call_isi) (by rfl) T.isinstance_ (by decide +kernel) (pa_cons (pv 2) (pa_cons (pe_bltn (v := .ty "tuple") (u := .type "tuple") (by rfl) T.tuple_ (by decide +kernel) rfl) pa_nil))))) (pw_or (pt_cmpR (show OpR _ _ (rNeD K) from op_neD hr.units) (pv 2) (pv 1) (nomark _)) (pw_or1 (pt_not (pt_val (pe_callB (show CallR _ _ (rAll K) from cr_all rfl) (by rfl) T.all_ (by decide +kernel) (pa_cons (pe_lc (own := [("_law_pair", 5)]) (g := gName 5) (tt := tYes) (by rfl) sc_spanis.nd (pi_tup (pv 2)) (blkOk_by (own := [("_law_pair", 5)]) (N := N_spanis) (sc := defScope s_spanis) (by decide +kernel)) (fun _ _ _ _ _ => (pg_name (i := 5) sc_spanis.nd rfl (by first | exact Or.inl rfl | exact Or.inr rfl))) (fun _ _ _ _ _ => pts_nil) (fun _ _ _ _ _ => (pe_callB (show CallR _ _ (rIsi K) from call_isi) (by rfl) T.isinstance_ (by decide +kernel) (pa_cons (pv 5) (pa_cons (pe_bltn (v := .ty "tuple") (u := .type "tuple") (by rfl) T.tuple_ (by decide +kernel) rfl) pa_nil))))) pa_nil))))))))
      (pss_one (ps_ret pe_bl))
      pss_nil)
    (pss_one (ps_ret (pe_callB (show CallR _ _ (rAll K) from cr_all rfl) (by rfl) T.all_ (by decide +kernel) (pa_cons (pe_lc (own := [("_law_low", 3), ("_law_high", 4)]) (g := gTup K 2 (gCons (gName 3) (gCons (gName 4) gNil))) (tt := tYes) (by rfl) sc_spanis.nd (pi_tup (pv 2)) (blkOk_by (own := [("_law_low", 3), ("_law_high", 4)]) (N := N_spanis) (sc := defScope s_spanis) (by decide +kernel)) (fun _ _ _ _ _ => (pg_tup rfl (pgs_cons (pg_name (i := 3) sc_spanis.nd rfl (by first | exact Or.inl rfl | exact Or.inr rfl)) (pgs_cons (pg_name (i := 4) sc_spanis.nd rfl (by first | exact Or.inl rfl | exact Or.inr rfl)) pgs_nil)))) (fun _ _ _ _ _ => pts_nil) (fun _ _ _ _ _ => (pe_and (pe_has G_lwhole (hr.mono (by decide)) (pa_cons (pv 3) pa_nil)) (pe_one (pe_or (pe_cmpR op_isN (pv 4) pe_non (nomark _)) (pe_one (pe_has G_lwhole (hr.mono (by decide)) (pa_cons (pv 4) pa_nil)))))))) pa_nil)))))), ?_⟩
    refine ⟨_, rfl, z, C, dx, _, _, rfl, h1, cl, nR, look1, ?_⟩
    refine ⟨_, rfl, .ref t, .ty "tuple", .type "tuple", .type "tuple", true, rfl, .ty _, tyx_tup h2, kit_ty (by decide +kernel), true, rfl, iteF ?_⟩
    refine ⟨_, rfl, _, rfl, _, _, .tup h2 h3.dps, .tup hu hY.dps, shaped_strs R, shaped_strs R, false, by rw [eqv_strs]; rfl, iteF ?_⟩
    refine ⟨_, rfl, t, rfl, ⟨_, h2⟩, fun D hD => ?_⟩
    have xl := h3.len
    refine ZK.lc_growT (K := K) (a := t) (xs := xs) (small1000 (by omega)) (fun _ H' => Same H H') (fun i y => y = .bl true) (same_new (Same.refl _) _ hD) (fun i H' s' => sqT_same s' h2) ?_ ?_
    · intro i x H1 acc hx s1 hacc hal hR Qn hq
      obtain ⟨q, hp, t2, rfl, hT⟩ := (h3.same s1).get hx
      refine ⟨rfl, ?_⟩
      refine ⟨_, rfl, .ref t2, .ty "tuple", .type "tuple", .type "tuple", true, rfl, .ty _, tyx_tup hT, kit_ty (by decide +kernel), hq _ _ rfl hacc (same_but_new s1 hD)⟩
    intro H1 acc s1 hacc hal hR
    have e := ZK.eq_map hal hR
    refine ⟨D, (List.range xs.length).map fun _ => true, rfl, SqL.of (by rw [hacc, e, List.map_map]; rfl), true, by rw [all_true], iteF ?_⟩
    refine ⟨_, rfl, t, rfl, ⟨_, sqT_same s1 h2⟩, fun D2 hD2 => ?_⟩
    refine ZK.lc_growT (K := K) (a := t) (xs := xs) (small1000 (by omega)) (fun _ H' => Same H1 H') (fun i y => y = .bl true) (same_new (Same.refl _) _ hD2) (fun i H' s' => sqT_same s' (sqT_same s1 h2)) ?_ ?_
    · intro i x H2 acc2 hx s2 hacc2 hal2 hR2 Qn hq
      obtain ⟨⟨lo, hi⟩, hp, t2, rfl, hT⟩ := ((h3.same s1).same s2).get hx
      refine ⟨t2, _, rfl, hT, rfl, _, _, rfl, _, _, rfl, rfl, rfl, ?_⟩
      refine ⟨_, rfl, _, rfl, true, rfl, iteT ?_⟩
      cases hi with
      | none => exact ⟨_, rfl, rfl, true, rfl, iteT (hq _ _ rfl hacc2 (same_but_new s2 hD2))⟩
      | some h => exact ⟨_, rfl, rfl, false, rfl, iteF ⟨_, rfl, _, rfl, hq _ _ rfl hacc2 (same_but_new s2 hD2)⟩⟩
    · intro H2 acc2 s2 hacc2 hal2 hR2
      have e2 := ZK.eq_map hal2 hR2
      refine ⟨D2, (List.range xs.length).map fun _ => true, rfl, SqL.of (by rw [hacc2, e2, List.map_map]; rfl), ?_⟩
      rw [all_true]
      exact k _ (s1.trans s2)
end
end EN

namespace EN
open PySem L2 PyProof.Rows
section
variable {P : Program} {w : World} {K : PySem.W.Frag} {mg : Str → Option Value} {base : Heap} {f : Addr} {fd : FuncData}
/-- few points: a list of fewer than 64 numbers has 0 and all keys -/
def FewK (S : List MS.Str2) : Prop := ∃ T0 : List Int, T0.length < 64 ∧ 0 ∈ T0 ∧ ∀ k, MS.keyB S k = true → k ∈ T0
def spPoints (K : PySem.W.Frag) : Sp := fun vs H Q _ => ∃ (a : Addr) (xs : List V) (S : List MS.Str2), vs = [.ref a] ∧ (SqL K H a xs ∨ SqT K H a xs) ∧ StrA K H xs S ∧ (∀ q ∈ S, Good q) ∧ S.length ≤ 200 ∧ FewK S ∧
  ∀ (l : Addr) (ps : List Int) (H' : Hp), Same H H' → H l = none → H' l = some (.lst (ps.map V.int)) → MS.Up ps → (∀ n, n ∈ ps ↔ n = 0 ∨ MS.keyB S n = true) → ps.length ≤ 900 → Q (.ref l) H'
def spUnited (K : PySem.W.Frag) : Sp := fun vs H Q _ => ∃ (a : Addr) (xs : List V) (S : List MS.Str2), vs = [.ref a] ∧ SqL K H a xs ∧ StrA K H xs S ∧ (∀ q ∈ S, Good q) ∧ S.length ≤ 200 ∧ FewK S ∧
  ∀ (t : Addr) (ys : List V) (R : List MS.Str2) (H' : Hp), Same H H' → H t = none → H' t = some (.tup ys) → StrA K H' ys R → MS.Can (MS.inL S) R → Q (.ref t) H'
abbrev s_united : Stmt := top 35
abbrev N_united : List Str := ["_law_stretches_here", "_law_points_here", "_law_n"]
theorem sc_united : FnScope N_united ["_law_stretches_here"] (defScope s_united) := ⟨rfl, rfl, rfl, by decide +kernel, rfl, by decide +kernel, by decide +kernel⟩

theorem ok_united (F : Fun K "_law_united" "_law_united" s_united f fd) (T : Blt mg) (G_points : Has P w K mg base 1 "_law_points" ["_law_stretches_here"] (spPoints K)) (G_within : Has P w K mg base 1 "_law_within" ["_law_stretches_here", "_law_n"] (spWithin K)) (G_spread : Has P w K mg base 2 "_law_spread" ["_law_points_here", "_law_inside"] (spSpread K)) :
    FnOk P w K mg base CX0 3 f fd ["_law_stretches_here"] (spUnited K) := by
  refine F.ok sc_united (fun vs H Q E h => ?_) (fun cdv A outer s H vs Q E hr h => ?_)
  · obtain ⟨_, _, _, rfl, _⟩ := h
    rfl
  · obtain ⟨a, xs, S, rfl, hS, hA, hG, hl, few, k⟩ := h
    refine ⟨_, (pss_cons (ps_set (i := 1) sc_united.nd rfl (Or.inl rfl) (pe_has G_points (hr.mono (by decide)) (pa_cons (pv 0) pa_nil)))
    (pss_one (ps_ret (pe_has G_spread (hr.mono (by decide)) (pa_cons (pv 1) (pa_cons (pe_lc (own := [("_law_n", 2)]) (g := gName 2) (tt := tYes) (by rfl) sc_united.nd (pi_list (pv 1)) (blkOk_by (own := [("_law_n", 2)]) (N := N_united) (sc := defScope s_united) (by decide +kernel)) (fun _ _ _ _ _ => (pg_name (i := 2) sc_united.nd rfl (by first | exact Or.inl rfl | exact Or.inr rfl))) (fun _ _ _ _ _ => pts_nil) (fun _ _ _ _ _ => (pe_has G_within (hr.mono (by decide)) (pa_cons (pv 0) (pa_cons (pv 2) pa_nil))))) pa_nil)))))), ?_⟩
    refine ⟨_, rfl, a, xs, S, rfl, .inl hS, hA, hG, hl, few, fun l ps H1 s1 nl hl1 up mem pl => ?_⟩
    refine ⟨_, rfl, _, rfl, l, rfl, ⟨_, SqL.of hl1⟩, fun D hD => ?_⟩
    refine ZK.lc_growL (K := K) (a := l) (xs := ps.map V.int) (small1000 (by rw [List.length_map]; omega)) (fun _ H' => Same H1 H') (fun i y => y = .bl (MS.inL S (ps.getD i 0))) (same_new (Same.refl _) _ hD) (fun i H' s' => s'.seq (SqL.of hl1)) ?_ ?_
    · intro i x H2 acc hx s2 hacc hal hR Qn hq
      obtain ⟨_, rfl⟩ := int_at hx
      refine ⟨rfl, _, rfl, _, rfl, a, xs, S, _, rfl, .inl (s2.seq (s1.seq hS)), (hA.same s1).same s2, by omega, fun H3 s3 => hq _ _ rfl (s3 _ _ hacc) (same_but_new (s2.trans s3) hD)⟩
    · intro H2 acc s2 hacc hal hR
      have e := ZK.eq_map hal hR
      rw [List.length_map] at e
      have e2 : acc = ps.map fun p => V.bl (MS.inL S p) := by rw [e]; exact range_getD ps fun p => V.bl (MS.inL S p)
      have p0 : 0 < ps.length := List.length_pos_of_mem ((mem 0).mpr (.inl rfl))
      refine ⟨l, D, ps, MS.inL S, rfl, s2.seq (SqL.of hl1), SqL.of (by rw [hacc, e2]), p0, pl, fun t ys H3 s3 nt ht hR3 => ?_⟩
      exact k t ys _ H3 ((s1.trans s2).trans s3) ((s1.trans s2).free nt) ht hR3 (MS.points_can hG up mem)
end
end EN

/-! set(a list of ints), of which sorted asks -/
namespace ZS
open PySem PySem.Spec PyProof.Rows L2
theorem few_of : ∀ {l T : List Int}, l.Nodup → (∀ k ∈ l, k ∈ T) → l.length ≤ T.length
  | [], _, _, _ => Nat.zero_le _
  | a :: l, T, hn, hs => by
    obtain ⟨h1, h2⟩ := List.nodup_cons.mp hn
    have ha : a ∈ T := hs a List.mem_cons_self
    have ih := few_of (l := l) (T := T.erase a) h2 fun k hk => (List.mem_erase_of_ne (fun (z : k = a) => h1 (by rw [← z]; exact hk))).mpr (hs k (List.mem_cons_of_mem _ hk))
    have := List.length_erase_of_mem ha
    have := List.length_pos_of_mem ha
    simp only [List.length_cons]
    omega
theorem few {w : World} {h : Heap} {a : Addr} {S : Int → Bool} {n : Nat} (R : SetR w h a S n) {T : List Int} (hT : ∀ k, S k = true → k ∈ T) : n ≤ T.length := by
  obtain ⟨o, es, ep, t, _, _, _, _, nd, hm, _, _, hn, _⟩ := R
  have := few_of nd fun k hk => hT k ((hm k).mpr hk)
  rw [List.length_map, Array.length_toList] at this
  omega
/-- the set before its first member -/
def bare (w : World) : Obj := { cls := .type "set", dict := none, data := .set #[] 0 (.fresh 0 0 (!w.params.followText "set-order")) }
section
variable {P : Program} {w : World} {A : Around} {E : Value → Shared → Prop} {s : Shared}
abbrev hp1 (w : World) (s : Shared) : Heap := s.heap.push (bare w)
theorem bare_new (ns : List Int) {h : Heap} {a : Addr} (ho : h.get? a = some (bare w)) : SetR w h a (fun j => decide (j ∈ ns.take 0)) 0 := setR_new_at ho
theorem code_bare (a : Value) {Q1 : Value → Shared → Prop} (h : Q1 (.ref s.heap.objs.size) { s with heap := hp1 w s }) :
    codeAny (model P w) A (.call (.builtin "set.__new__") ⟨[.type "set", a], []⟩) (wants Q1 E) s := code_set_led1 a h
set_option maxHeartbeats 3200000 in
theorem set_list_ints {l : Addr} {items : Array Value} (ns : List Int) {Q : Value → Shared → Prop} (calm : A.handled = none) (at_ : s.heap.IsList l items) (are : IntsAre items.toList ns) (room : ns.length + 1 < scanBound)
    (goal : ∀ (h2 : Heap) (tk c : Nat), SetR w h2 s.heap.objs.size (fun j => decide (j ∈ ns)) c → c ≤ ns.length → (∀ b o, s.heap.get? b = some o → h2.get? b = some o) → Q (.ref s.heap.objs.size) { s with heap := h2, toks := tk }) :
    wpAny (model P w) A (call (.type "set") [.ref l]) Q E s := by
  have many : items.size = ns.length := by
    rw [← Array.length_toList]
    exact IntsAre.length are
  obtain ⟨cl, below, mro⟩ := PySem.F.called_set.mro
  have made := PySem.F.called_set.made
  have subOf := PySem.F.called_set.sub
  have noType := PySem.F.called_set.notType
  have makes := PySem.F.called_set.canCreate
  have typed := PySem.F.typeCall_set_1 (.ref l)
  refine wpAny_call (codeAny_of_tree ?_)
  show wpAny _ _ (callAny (.type "set") ⟨[.ref l], []⟩) _ _ _
  refine wpAny_pure ⟨Code.quiet_builtin _ (by decide +kernel), codeAny_builtin PySem.F.entry_type_call ?_⟩
  rw [Around.under_plain (weight_type_call_type "set" [Value.ref l] []) rfl]
  repeat (any_goals (first | assumption | wp_step))
  refine codeAny_mono (code_bare (.ref l) (E := E) (Q1 := fun v s1 => v = .ref s.heap.objs.size ∧ s1 = { s with heap := hp1 w s }) ⟨rfl, rfl⟩) fun r s1 hr => ?_
  match r, hr with
  | .error e, hr => exact hr
  | .ok (.ret v), hr =>
    obtain ⟨rfl, rfl⟩ := hr
    have stands : (hp1 w s).get? s.heap.objs.size = some (bare w) := Heap.get?_push_size _ rfl
    have isSet : Shared.TypeIs { s with heap := hp1 w s } (.ref s.heap.objs.size) "set" := ⟨_, stands, rfl⟩
    have look := PySem.F.called_set.init.lookup
    have bound := PySem.F.called_set.init.bind (.ref s.heap.objs.size)
    repeat (any_goals (first | assumption | wp_step))
    refine codeAny_mono (codeAny_call_builtin (R := wants (fun r s2 => r = .none ∧ ∃ h2 tk c, s2 = { s with heap := h2, toks := tk } ∧ SetR w h2 s.heap.objs.size (fun j => decide (j ∈ ns)) c ∧ c ≤ ns.length ∧ ∀ b o, s.heap.get? b = some o → h2.get? b = some o) E)
      PySem.F.called_set.init.plain PySem.F.entry_set_init (check_set_init_1 isSet ?_)) fun r2 s2 hr2 => ?_
    · obtain ⟨⟨ocls, odict, odata, oslots⟩, ol, oc, on, od⟩ := at_
      simp only at oc od
      subst oc
      subst od
      have ol2 : (hp1 w s).get? l = some { cls := .type "list", dict := odict, data := .seq items on, slots := oslots } := Heap.get?_push_of_some _ ol
      have no1 := PySem.F.sub_list_set
      have no2 := PySem.F.sub_list_frozenset
      have no3 : (Value.type "list" == Value.type "dict") = false := by decide
      have list1 : (hp1 w s).IsList l items := ⟨_, ol2, rfl, on, rfl⟩
      unfold Builtin.«set.__init__» noKeywords Builtin.Frozenset.updateFrom
      generalize hIt : pyIter = walker
      wp_walk
      subst hIt
      refine wpAny_pyIter_list list1 (wpAny_bind (wpAny_runValue ?_))
      have lower : l < s.heap.objs.size := Heap.lt_size ol
      have calm3 : A.in1.in1.in1.handled = none := by simp [calm]
      have sz : (hp1 w s).objs.size = s.heap.objs.size + 1 := Heap.size_push ..
      have apart : l ≠ (hp1 w s).objs.size := Nat.ne_of_lt (sz ▸ Nat.lt_succ_of_lt lower)
      have out : s.heap.objs.size ∉ [(hp1 w s).objs.size, l] := by
        simp only [List.mem_cons, List.not_mem_nil, or_false, not_or]
        exact ⟨Nat.ne_of_lt (sz ▸ Nat.lt_succ_self _), Nat.ne_of_gt lower⟩
      have told : ∀ (i : Nat) (v : Value), items[i]? = some v → ∃ k t, ns[i]? = some k ∧ v = .int k t := fun i v hv => by
        have hi : i < ns.length := many ▸ (Array.getElem?_eq_some_iff.mp hv).1
        obtain ⟨t, e⟩ := PyProof.Rows.IntsAre.int_at are i v (Array.getElem?_toList ▸ hv)
        exact ⟨ns[i], t, List.getElem?_eq_getElem hi, by rw [e, List.getD_eq_getElem?_getD, List.getElem?_eq_getElem hi]; rfl⟩
      refine set_update_ints ((Walks.list calm3 _ l apart items).toS) s.heap.objs.size out ns many room told (items.size - 0) 0 _ (by omega) (Nat.zero_le _) ⟨⟨_, Heap.get?_push_size _ rfl, rfl, rfl⟩, list1.push _⟩ ?begin ?ends
      case begin => exact ⟨0, Nat.le_refl 0, bare_new ns (Heap.get?_push_of_some _ stands)⟩
      case ends =>
        rintro ⟨h3, g3, d3, tk3, os3⟩ c3 mv lc3 R3
        obtain rfl : g3 = s.gens := mv.gens
        obtain rfl : d3 = s.drawn := mv.drawn
        obtain rfl : os3 = s.os := mv.os
        refine wpAny_pure ?_
        show wpAny _ _ (ret Value.none) _ _ _
        refine wpAny_pure ⟨rfl, h3, tk3, c3, rfl, R3, many ▸ lc3, fun b o e => ?_⟩
        have b0 : b < s.heap.objs.size := Heap.lt_size e
        refine mv.heap b o ?_ (Heap.get?_push_of_some _ (Heap.get?_push_of_some _ e))
        simp only [List.mem_cons, List.not_mem_nil, or_false, not_or]
        exact ⟨Nat.ne_of_lt b0, Nat.ne_of_lt (sz ▸ Nat.lt_succ_of_lt b0)⟩
    · match r2, hr2 with
      | .error e, hr2 => exact hr2
      | .ok (.ret v), hr2 =>
        obtain ⟨rfl, h2, tk, c, rfl, R2, lc, keep⟩ := hr2
        repeat (any_goals (first | assumption | wp_step))
        exact goal _ _ _ R2 lc keep
end
section
variable {X : Cx}
/-- set(xs), xs a list of ints: its members, and at most as many as any list has that has them all -/
def rSetI (K : PySem.W.Frag) (w : World) : List V → Hp → VK → Prop := fun xs H Q => ∃ (a : Addr) (ns : List Int), xs = [.ref a] ∧ SqL K H a (ns.map V.int) ∧ ns.length + 1 < scanBound ∧
  ∀ (p : Addr) (c : Nat), H p = none → (∀ T : List Int, (∀ k ∈ ns, k ∈ T) → c ≤ T.length) → Q (.ref p) (upd H p (SetO w p (fun j => decide (j ∈ ns)) c))
theorem cr_setI (hc : X.calm = true) : CallR X (.type "set") (rSetI X.K X.w) := by
  intro pins s σ H xs us Q I r h
  obtain ⟨a, ns, rfl, hS, room, q⟩ := h
  rw [Vals.ref1 r]
  obtain ⟨its, rv, ⟨o, n, ho, oc, on, od⟩, hlen⟩ := I.list hS
  refine set_list_ints ns (I.ok.hd hc) (items := its.toArray) ⟨o, ho, oc, n, od⟩ (by simpa using ints_of_vals rv) room fun h2 tk c R lc keep => ?_
  exact ⟨.ref s.heap.objs.size, upd H s.heap.objs.size (SetO X.w s.heap.objs.size (fun j => decide (j ∈ ns)) c), I.laid (t' := tk) keep (Nat.le_refl _) (setO_new R), rfl, q _ _ (I.hok.fresh (Nat.le_refl _)) fun T hT => few R fun k hk => hT k (of_decide_eq_true hk)⟩
end
end ZS

namespace EN
open PySem L2 PyProof.Rows
section
variable {P : Program} {w : World} {K : PySem.W.Frag} {mg : Str → Option Value} {base : Heap} {f : Addr} {fd : FuncData}
/-! ### points -/
def ends (S : List MS.Str2) : List Int := S.filterMap fun p => p.2.map (· + 1)
def seams (S : List MS.Str2) : List Int := 0 :: (S.map (·.1) ++ ends S)
theorem ends_snoc (S : List MS.Str2) (p : MS.Str2) : ends (S ++ [p]) = ends S ++ (p.2.map (· + 1)).toList := by
  unfold ends
  rw [List.filterMap_append]
  obtain ⟨lo, hi⟩ := p
  cases hi <;> rfl
theorem ends_len (S : List MS.Str2) : (ends S).length ≤ S.length := List.length_filterMap_le _ _
theorem mem_seams (S : List MS.Str2) (n : Int) : n ∈ seams S ↔ n = 0 ∨ MS.keyB S n = true := by
  unfold seams MS.keyB ends
  rw [List.mem_cons, List.mem_append, List.mem_map, List.mem_filterMap, List.any_eq_true]
  refine or_congr Iff.rfl ⟨?_, ?_⟩
  · rintro (⟨p, hp, rfl⟩ | ⟨⟨lo, hi⟩, hp, e⟩)
    · exact ⟨p, hp, by simp⟩
    · cases hi with
      | none => cases e
      | some h =>
        obtain rfl : h + 1 = n := Option.some.inj e
        exact ⟨_, hp, by simp⟩
  · rintro ⟨⟨lo, hi⟩, hp, e⟩
    cases hi with
    | none =>
      simp at e
      exact .inl ⟨_, hp, e.symm⟩
    | some h =>
      simp at e
      rcases e with e | e
      · exact .inl ⟨_, hp, e.symm⟩
      · exact .inr ⟨_, hp, by rw [e]; rfl⟩
abbrev s_points : Stmt := top 33
abbrev N_points : List Str := ["_law_stretches_here", "_law_seams", "_law_low", "_law_high", "_law_n"]
theorem sc_points : FnScope N_points ["_law_stretches_here"] (defScope s_points) := ⟨rfl, rfl, rfl, by decide +kernel, rfl, by decide +kernel, by decide +kernel⟩

theorem ok_points (F : Fun K "_law_points" "_law_points" s_points f fd) (T : Blt mg) : FnOk P w K mg base CX0 1 f fd ["_law_stretches_here"] (spPoints K) := by
  refine F.ok sc_points (fun vs H Q E h => ?_) (fun cdv A outer s H vs Q E hr h => ?_)
  · obtain ⟨_, _, _, rfl, _⟩ := h
    rfl
  · obtain ⟨a, xs, S, rfl, hS | hS, hA, hG, hl, few, k⟩ := h
    · refine ⟨_, (pss_cons (ps_set (i := 1) sc_points.nd rfl (Or.inl rfl) (pe_op op_cat (pe_op op_cat (pe_lst (pa_cons pe_int pa_nil)) (pe_lc (own := [("_law_low", 2), ("_law_high", 3)]) (g := gTup K 2 (gCons (gName 2) (gCons (gName 3) gNil))) (tt := tYes) (by rfl) sc_points.nd (pi_list (pv 0)) (blkOk_by (own := [("_law_low", 2), ("_law_high", 3)]) (N := N_points) (sc := defScope s_points) (by decide +kernel)) (fun _ _ _ _ _ => (pg_tup rfl (pgs_cons (pg_name (i := 2) sc_points.nd rfl (by first | exact Or.inl rfl | exact Or.inr rfl)) (pgs_cons (pg_name (i := 3) sc_points.nd rfl (by first | exact Or.inl rfl | exact Or.inr rfl)) pgs_nil)))) (fun _ _ _ _ _ => pts_nil) (fun _ _ _ _ _ => (pv 2)))) (pe_lc (own := [("_law_low", 2), ("_law_high", 3)]) (g := gTup K 2 (gCons (gName 2) (gCons (gName 3) gNil))) (by rfl) sc_points.nd (pi_list (pv 0)) (blkOk_by (own := [("_law_low", 2), ("_law_high", 3)]) (N := N_points) (sc := defScope s_points) (by decide +kernel)) (fun _ _ _ _ _ => (pg_tup rfl (pgs_cons (pg_name (i := 2) sc_points.nd rfl (by first | exact Or.inl rfl | exact Or.inr rfl)) (pgs_cons (pg_name (i := 3) sc_points.nd rfl (by first | exact Or.inl rfl | exact Or.inr rfl)) pgs_nil)))) (fun _ _ _ _ _ => (pts_one (pt_cmpR op_notN (pv 3) pe_non (nomark _)))) (fun _ _ _ _ _ => (pe_op op_add (pv 3) pe_int)))))
    (pss_one (ps_ret (pe_callB (show CallR _ _ (rSortedSet w) from cr_sortedSet rfl) (by rfl) T.sorted_ (by decide +kernel) (pa_cons (pe_callTy (show CallR _ _ (ZS.rSetI K w) from ZS.cr_setI rfl) (by rfl) T.set_ (by decide +kernel) (pa_cons (pe_lc (own := [("_law_n", 4)]) (g := gName 4) (tt := tYes) (by rfl) sc_points.nd (pi_list (pv 1)) (blkOk_by (own := [("_law_n", 4)]) (N := N_points) (sc := defScope s_points) (by decide +kernel)) (fun _ _ _ _ _ => (pg_name (i := 4) sc_points.nd rfl (by first | exact Or.inl rfl | exact Or.inr rfl))) (fun _ _ _ _ _ => pts_nil) (fun _ _ _ _ _ => (pe_callTy call_int1 (by rfl) T.int_ (by decide +kernel) (pa_cons (pv 4) pa_nil)))) pa_nil)) pa_nil))))), ?_⟩
      have xl := hA.len
      refine ⟨(by show 1 ≤ sizeLine; decide), fun z hz => ?_⟩
      have s1 := same_new (Same.refl H) (.lst [.int 0]) hz
      have e1 : (L2.upd H z (.lst [.int 0])) z = some (.lst [.int 0]) := upd_same
      generalize L2.upd H z (.lst [.int 0]) = H1 at s1 e1 ⊢
      refine ⟨_, rfl, a, rfl, ⟨_, s1.seq hS⟩, fun D hD => ?_⟩
      refine ZK.lc_growL (K := K) (a := a) (xs := xs) (small1000 (by omega)) (fun _ H' => Same H1 H') (fun i y => y = .int (S.getD i (0, none)).1) (same_new (Same.refl _) _ hD) (fun i H' s' => (s1.trans s').seq hS) ?_ ?_
      · intro i x H2 acc hx s2 hacc hal hR Qn hq
        obtain ⟨⟨lo, hi⟩, hp, t, rfl, hT⟩ := ((hA.same s1).same s2).get hx
        have ep : S.getD i (0, none) = (lo, hi) := by rw [List.getD_eq_getElem?_getD, hp]; rfl
        exact ⟨t, _, rfl, hT, rfl, _, _, rfl, _, _, rfl, rfl, rfl, _, rfl, hq _ _ (by rw [ep]) hacc (same_but_new s2 hD)⟩
      intro H2 acc s2 hacc hal hR
      have e := ZK.eq_map hal hR
      rw [xl, range_getD S (fun p => V.int p.1)] at e
      have s12 := s1.trans s2
      have nl : ∀ {n : Nat}, n ≤ 500 → n ≤ sizeLine := fun h => Nat.le_of_lt (small1000 (by omega))
      refine ⟨z, D, [.int 0], acc, rfl, rfl, s2 _ _ e1, hacc, nl (by rw [hal]; show 1 + xs.length ≤ 500; omega), fun c hc => ?_⟩
      have s3 := same_new (Same.refl H2) (.lst ([.int 0] ++ acc)) hc
      have e3 : (L2.upd H2 c (.lst ([.int 0] ++ acc))) c = some (.lst ([.int 0] ++ acc)) := upd_same
      generalize L2.upd H2 c (.lst ([.int 0] ++ acc)) = H3 at s3 e3 ⊢
      have s13 := s12.trans s3
      refine ⟨_, rfl, a, rfl, ⟨_, s13.seq hS⟩, fun D2 hD2 => ?_⟩
      refine ZK.lc_growF xs.length (small1000 (by omega)) (fun i acc2 H' => Same H3 H' ∧ acc2 = (ends (S.take i)).map V.int) ⟨same_new (Same.refl _) _ hD2, rfl⟩ (fun i acc2 H' hi hI => ⟨_, xs[i], (s13.trans hI.1).seq hS, List.getElem?_eq_getElem hi⟩) (fun acc2 H' hI => ⟨_, (s13.trans hI.1).seq hS, Nat.le_refl _⟩) ?_ ?_
      · rintro i H4 x H' acc2 hi ⟨s4, rfl⟩ hacc4 hal4 ⟨rfl, hx⟩ N hN
        obtain ⟨⟨lo, hi2⟩, hp, t, rfl, hT⟩ := ((hA.same s13).same s4).get (hx _ ((s13.trans s4).seq hS))
        refine ⟨t, _, rfl, hT, rfl, _, _, rfl, _, _, rfl, rfl, rfl, ?_⟩
        cases hi2 with
        | none =>
          refine ⟨_, rfl, rfl, false, rfl, iteF ?_⟩
          refine hN _ _ ⟨s4, ?_⟩ hacc4 (Nat.le_succ_of_le hal4)
          rw [take_snoc hp, ends_snoc]
          simp
        | some h =>
          refine ⟨_, rfl, rfl, true, rfl, iteT ?_⟩
          refine ⟨_, rfl, _, _, rfl, rfl, _, hacc4, small1000 (by omega), hN _ _ ⟨same_but_new s4 hD2, ?_⟩ upd_same (by rw [List.length_append]; exact Nat.succ_le_succ hal4)⟩
          rw [take_snoc hp, ends_snoc, List.map_append]
          rfl
      rintro H4 acc2 ⟨s4, rfl⟩ hacc4 hal4
      have full : S.take xs.length = S := by rw [xl, List.take_length]
      rw [full] at hacc4 hal4
      have el := ends_len S
      refine ⟨c, D2, _, _, rfl, rfl, s4 _ _ e3, hacc4, nl (by rw [List.length_append, hal, List.length_map]; show 1 + xs.length + (ends S).length ≤ 500; omega), fun c2 hc2 => ?_⟩
      have es : [V.int 0] ++ acc ++ (ends S).map V.int = (seams S).map V.int := by
        rw [e]
        unfold seams
        simp
      rw [es]
      have sl : (seams S).length ≤ 401 := by
        unfold seams
        simp only [List.length_cons, List.length_append, List.length_map]
        omega
      have s5 := same_new (Same.refl H4) (.lst ((seams S).map V.int)) hc2
      have e5 : (L2.upd H4 c2 (.lst ((seams S).map V.int))) c2 = some (.lst ((seams S).map V.int)) := upd_same
      generalize L2.upd H4 c2 (.lst ((seams S).map V.int)) = H5 at s5 e5 ⊢
      have s15 := (s13.trans s4).trans s5
      refine ⟨_, rfl, c2, rfl, ⟨_, SqL.of e5⟩, fun D3 hD3 => ?_⟩
      refine ZK.lc_growL (K := K) (a := c2) (xs := (seams S).map V.int) (small1000 (by rw [List.length_map]; omega)) (fun _ H' => Same H5 H') (fun i y => y = .int ((seams S).getD i 0)) (same_new (Same.refl _) _ hD3) (fun i H' s' => s'.seq (SqL.of e5)) ?_ ?_
      · intro i x H6 acc3 hx s6 hacc6 hal6 hR6 Qn hq
        obtain ⟨_, rfl⟩ := int_at hx
        exact ⟨rfl, _, rfl, .inl ⟨_, rfl, hq _ _ rfl hacc6 (same_but_new s6 hD3)⟩⟩
      intro H6 acc3 s6 hacc6 hal6 hR6
      have e6 := ZK.eq_map hal6 hR6
      rw [List.length_map, range_getD (seams S) V.int] at e6
      refine ⟨D3, seams S, rfl, SqL.of (by rw [hacc6, e6]), Nat.lt_of_le_of_lt (Nat.succ_le_succ sl) (by unfold scanBound; decide), fun p cnt np few2 => ?_⟩
      obtain ⟨T0, t1, t2, t3⟩ := few
      have c64 := few2 T0 fun k hk => ((mem_seams S k).mp hk).elim (fun z => by rw [z]; exact t2) (t3 k)
      have s7 := same_new (Same.refl H6) (SetO w p (fun j => decide (j ∈ seams S)) cnt) np
      refine ⟨p, _, cnt, rfl, upd_same, by omega, fun ns q up mem nsl nq => ?_⟩
      have s8 := same_new (Same.refl (L2.upd H6 p (SetO w p (fun j => decide (j ∈ seams S)) cnt))) (.lst (ns.map V.int)) nq
      exact k q ns _ (((s15.trans s6).trans s7).trans s8) (((s15.trans s6).trans s7).free nq) upd_same up (fun n => by rw [mem n, decide_eq_true_iff]; exact mem_seams S n) (by omega)
    · refine ⟨_, (pss_cons (ps_set (i := 1) sc_points.nd rfl (Or.inl rfl) (pe_op op_cat (pe_op op_cat (pe_lst (pa_cons pe_int pa_nil)) (pe_lc (own := [("_law_low", 2), ("_law_high", 3)]) (g := gTup K 2 (gCons (gName 2) (gCons (gName 3) gNil))) (tt := tYes) (by rfl) sc_points.nd (pi_tup (pv 0)) (blkOk_by (own := [("_law_low", 2), ("_law_high", 3)]) (N := N_points) (sc := defScope s_points) (by decide +kernel)) (fun _ _ _ _ _ => (pg_tup rfl (pgs_cons (pg_name (i := 2) sc_points.nd rfl (by first | exact Or.inl rfl | exact Or.inr rfl)) (pgs_cons (pg_name (i := 3) sc_points.nd rfl (by first | exact Or.inl rfl | exact Or.inr rfl)) pgs_nil)))) (fun _ _ _ _ _ => pts_nil) (fun _ _ _ _ _ => (pv 2)))) (pe_lc (own := [("_law_low", 2), ("_law_high", 3)]) (g := gTup K 2 (gCons (gName 2) (gCons (gName 3) gNil))) (by rfl) sc_points.nd (pi_tup (pv 0)) (blkOk_by (own := [("_law_low", 2), ("_law_high", 3)]) (N := N_points) (sc := defScope s_points) (by decide +kernel)) (fun _ _ _ _ _ => (pg_tup rfl (pgs_cons (pg_name (i := 2) sc_points.nd rfl (by first | exact Or.inl rfl | exact Or.inr rfl)) (pgs_cons (pg_name (i := 3) sc_points.nd rfl (by first | exact Or.inl rfl | exact Or.inr rfl)) pgs_nil)))) (fun _ _ _ _ _ => (pts_one (pt_cmpR op_notN (pv 3) pe_non (nomark _)))) (fun _ _ _ _ _ => (pe_op op_add (pv 3) pe_int)))))
    (pss_one (ps_ret (pe_callB (show CallR _ _ (rSortedSet w) from cr_sortedSet rfl) (by rfl) T.sorted_ (by decide +kernel) (pa_cons (pe_callTy (show CallR _ _ (ZS.rSetI K w) from ZS.cr_setI rfl) (by rfl) T.set_ (by decide +kernel) (pa_cons (pe_lc (own := [("_law_n", 4)]) (g := gName 4) (tt := tYes) (by rfl) sc_points.nd (pi_list (pv 1)) (blkOk_by (own := [("_law_n", 4)]) (N := N_points) (sc := defScope s_points) (by decide +kernel)) (fun _ _ _ _ _ => (pg_name (i := 4) sc_points.nd rfl (by first | exact Or.inl rfl | exact Or.inr rfl))) (fun _ _ _ _ _ => pts_nil) (fun _ _ _ _ _ => (pe_callTy call_int1 (by rfl) T.int_ (by decide +kernel) (pa_cons (pv 4) pa_nil)))) pa_nil)) pa_nil))))), ?_⟩
      have xl := hA.len
      refine ⟨(by show 1 ≤ sizeLine; decide), fun z hz => ?_⟩
      have s1 := same_new (Same.refl H) (.lst [.int 0]) hz
      have e1 : (L2.upd H z (.lst [.int 0])) z = some (.lst [.int 0]) := upd_same
      generalize L2.upd H z (.lst [.int 0]) = H1 at s1 e1 ⊢
      refine ⟨_, rfl, a, rfl, ⟨_, sqT_same s1 hS⟩, fun D hD => ?_⟩
      refine ZK.lc_growT (K := K) (a := a) (xs := xs) (small1000 (by omega)) (fun _ H' => Same H1 H') (fun i y => y = .int (S.getD i (0, none)).1) (same_new (Same.refl _) _ hD) (fun i H' s' => sqT_same (s1.trans s') hS) ?_ ?_
      · intro i x H2 acc hx s2 hacc hal hR Qn hq
        obtain ⟨⟨lo, hi⟩, hp, t, rfl, hT⟩ := ((hA.same s1).same s2).get hx
        have ep : S.getD i (0, none) = (lo, hi) := by rw [List.getD_eq_getElem?_getD, hp]; rfl
        exact ⟨t, _, rfl, hT, rfl, _, _, rfl, _, _, rfl, rfl, rfl, _, rfl, hq _ _ (by rw [ep]) hacc (same_but_new s2 hD)⟩
      intro H2 acc s2 hacc hal hR
      have e := ZK.eq_map hal hR
      rw [xl, range_getD S (fun p => V.int p.1)] at e
      have s12 := s1.trans s2
      have nl : ∀ {n : Nat}, n ≤ 500 → n ≤ sizeLine := fun h => Nat.le_of_lt (small1000 (by omega))
      refine ⟨z, D, [.int 0], acc, rfl, rfl, s2 _ _ e1, hacc, nl (by rw [hal]; show 1 + xs.length ≤ 500; omega), fun c hc => ?_⟩
      have s3 := same_new (Same.refl H2) (.lst ([.int 0] ++ acc)) hc
      have e3 : (L2.upd H2 c (.lst ([.int 0] ++ acc))) c = some (.lst ([.int 0] ++ acc)) := upd_same
      generalize L2.upd H2 c (.lst ([.int 0] ++ acc)) = H3 at s3 e3 ⊢
      have s13 := s12.trans s3
      refine ⟨_, rfl, a, rfl, ⟨_, sqT_same s13 hS⟩, fun D2 hD2 => ?_⟩
      refine ZK.lc_growF xs.length (small1000 (by omega)) (fun i acc2 H' => Same H3 H' ∧ acc2 = (ends (S.take i)).map V.int) ⟨same_new (Same.refl _) _ hD2, rfl⟩ (fun i acc2 H' hi hI => ⟨_, xs[i], sqT_same (s13.trans hI.1) hS, List.getElem?_eq_getElem hi⟩) (fun acc2 H' hI => ⟨_, sqT_same (s13.trans hI.1) hS, Nat.le_refl _⟩) ?_ ?_
      · rintro i H4 x H' acc2 hi ⟨s4, rfl⟩ hacc4 hal4 ⟨rfl, hx⟩ N hN
        obtain ⟨⟨lo, hi2⟩, hp, t, rfl, hT⟩ := ((hA.same s13).same s4).get (hx _ (sqT_same (s13.trans s4) hS))
        refine ⟨t, _, rfl, hT, rfl, _, _, rfl, _, _, rfl, rfl, rfl, ?_⟩
        cases hi2 with
        | none =>
          refine ⟨_, rfl, rfl, false, rfl, iteF ?_⟩
          refine hN _ _ ⟨s4, ?_⟩ hacc4 (Nat.le_succ_of_le hal4)
          rw [take_snoc hp, ends_snoc]
          simp
        | some h =>
          refine ⟨_, rfl, rfl, true, rfl, iteT ?_⟩
          refine ⟨_, rfl, _, _, rfl, rfl, _, hacc4, small1000 (by omega), hN _ _ ⟨same_but_new s4 hD2, ?_⟩ upd_same (by rw [List.length_append]; exact Nat.succ_le_succ hal4)⟩
          rw [take_snoc hp, ends_snoc, List.map_append]
          rfl
      rintro H4 acc2 ⟨s4, rfl⟩ hacc4 hal4
      have full : S.take xs.length = S := by rw [xl, List.take_length]
      rw [full] at hacc4 hal4
      have el := ends_len S
      refine ⟨c, D2, _, _, rfl, rfl, s4 _ _ e3, hacc4, nl (by rw [List.length_append, hal, List.length_map]; show 1 + xs.length + (ends S).length ≤ 500; omega), fun c2 hc2 => ?_⟩
      have es : [V.int 0] ++ acc ++ (ends S).map V.int = (seams S).map V.int := by
        rw [e]
        unfold seams
        simp
      rw [es]
      have sl : (seams S).length ≤ 401 := by
        unfold seams
        simp only [List.length_cons, List.length_append, List.length_map]
        omega
      have s5 := same_new (Same.refl H4) (.lst ((seams S).map V.int)) hc2
      have e5 : (L2.upd H4 c2 (.lst ((seams S).map V.int))) c2 = some (.lst ((seams S).map V.int)) := upd_same
      generalize L2.upd H4 c2 (.lst ((seams S).map V.int)) = H5 at s5 e5 ⊢
      have s15 := (s13.trans s4).trans s5
      refine ⟨_, rfl, c2, rfl, ⟨_, SqL.of e5⟩, fun D3 hD3 => ?_⟩
      refine ZK.lc_growL (K := K) (a := c2) (xs := (seams S).map V.int) (small1000 (by rw [List.length_map]; omega)) (fun _ H' => Same H5 H') (fun i y => y = .int ((seams S).getD i 0)) (same_new (Same.refl _) _ hD3) (fun i H' s' => s'.seq (SqL.of e5)) ?_ ?_
      · intro i x H6 acc3 hx s6 hacc6 hal6 hR6 Qn hq
        obtain ⟨_, rfl⟩ := int_at hx
        exact ⟨rfl, _, rfl, .inl ⟨_, rfl, hq _ _ rfl hacc6 (same_but_new s6 hD3)⟩⟩
      intro H6 acc3 s6 hacc6 hal6 hR6
      have e6 := ZK.eq_map hal6 hR6
      rw [List.length_map, range_getD (seams S) V.int] at e6
      refine ⟨D3, seams S, rfl, SqL.of (by rw [hacc6, e6]), Nat.lt_of_le_of_lt (Nat.succ_le_succ sl) (by unfold scanBound; decide), fun p cnt np few2 => ?_⟩
      obtain ⟨T0, t1, t2, t3⟩ := few
      have c64 := few2 T0 fun k hk => ((mem_seams S k).mp hk).elim (fun z => by rw [z]; exact t2) (t3 k)
      have s7 := same_new (Same.refl H6) (SetO w p (fun j => decide (j ∈ seams S)) cnt) np
      refine ⟨p, _, cnt, rfl, upd_same, by omega, fun ns q up mem nsl nq => ?_⟩
      have s8 := same_new (Same.refl (L2.upd H6 p (SetO w p (fun j => decide (j ∈ seams S)) cnt))) (.lst (ns.map V.int)) nq
      exact k q ns _ (((s15.trans s6).trans s7).trans s8) (((s15.trans s6).trans s7).free nq) upd_same up (fun n => by rw [mem n, decide_eq_true_iff]; exact mem_seams S n) (by omega)
end
end EN

namespace EN
open PySem L2 PyProof.Rows
section
variable {P : Program} {w : World} {K : PySem.W.Frag} {mg : Str → Option Value} {base : Heap} {f : Addr} {fd : FuncData}
/-! ### mixed_up -/
def opw (way : Int) : Bool → Bool → Bool := fun a b => if way = 0 then a || b else if way = 1 then a && b else if way = 2 then a && !b else a != b
theorem opw0 (way : Int) : opw way false false = false := by
  unfold opw
  split
  · rfl
  · split
    · rfl
    · split <;> rfl
def MarkT (K : PySem.W.Frag) (H : Hp) (v : V) (q : Bool × Bool) : Prop := ∃ t, v = .ref t ∧ SqT K H t [.bl q.1, .bl q.2]
abbrev MarkA (K : PySem.W.Frag) (H : Hp) : List V → List (Bool × Bool) → Prop := Paired (MarkT K H)
theorem MarkA.same {H H' : Hp} (s : Same H H') : ∀ {xs : List V} {S : List (Bool × Bool)}, MarkA K H xs S → MarkA K H' xs S
  | _, _, .nil => .nil
  | _, _, .cons ⟨t, e, h⟩ r => .cons ⟨t, e, sqT_same s h⟩ (MarkA.same s r)
theorem MarkA.len {H : Hp} : ∀ {xs : List V} {S : List (Bool × Bool)}, MarkA K H xs S → xs.length = S.length
  | _, _, .nil => rfl
  | _, _, .cons _ r => by rw [List.length_cons, List.length_cons, MarkA.len r]
theorem MarkA.get {H : Hp} : ∀ {xs : List V} {S : List (Bool × Bool)} {i : Nat} {x : V}, MarkA K H xs S → xs[i]? = some x → ∃ p, S[i]? = some p ∧ MarkT K H x p
  | _, _, 0, _, .cons h _, e => ⟨_, rfl, by simpa using (Option.some.inj (by simpa using e)) ▸ h⟩
  | _, _, i + 1, _, .cons _ r, e => by
    obtain ⟨p, e1, e2⟩ := MarkA.get (i := i) r (by simpa using e)
    exact ⟨p, by simpa using e1, e2⟩
theorem MarkA.app {H : Hp} : ∀ {xs ys : List V} {S T : List (Bool × Bool)}, MarkA K H xs S → MarkA K H ys T → MarkA K H (xs ++ ys) (S ++ T)
  | _, _, _, _, .nil, h => h
  | _, _, _, _, .cons a r, h => .cons a (MarkA.app r h)
theorem MarkA.upd {H : Hp} {d : Addr} {ys : List V} {o : HO} (hd : H d = some (.lst ys)) : ∀ {xs : List V} {S : List (Bool × Bool)}, MarkA K H xs S → MarkA K (L2.upd H d o) xs S
  | _, _, .nil => .nil
  | _, _, .cons ⟨t, e, h⟩ r => .cons ⟨t, e, sqT_but (p := d) (fun b u e n => by rw [upd_ne n]; exact e) (fun u e => by rw [hd] at e; cases e; exact ⟨(by intro q; cases q), (by intro u q; cases q)⟩) h⟩ (MarkA.upd hd r)
end
end EN

namespace EN
open PySem L2 PyProof.Rows
section
variable {P : Program} {w : World} {K : PySem.W.Frag} {mg : Str → Option Value} {base : Heap} {f : Addr} {fd : FuncData}
/-! ### spans and stretches side by side -/
theorem keyB_paired : ∀ (t : List Int) (k : Int), MS.keyB (MS.paired t) k = true → k ∈ t
  | [], k, h => by simp [MS.paired, MS.keyB] at h
  | [a], k, h => by
    simp [MS.paired, MS.keyB] at h
    simp [h]
  | a :: b :: r, k, h => by
    have e : MS.keyB (MS.paired (a :: b :: r)) k = (decide (k = a) || decide (k = b - 1 + 1) || MS.keyB (MS.paired r) k) := rfl
    rw [e, Bool.or_eq_true, Bool.or_eq_true, decide_eq_true_iff, decide_eq_true_iff] at h
    rcases h with (h | h) | h
    · simp [h]
    · have : k = b := by omega
      simp [this]
    · simp [keyB_paired r k h]
/-- the one form of what f tells; f turns at points of T0 alone -/
structure Told (T0 : List Int) (f : Int → Bool) (R : List MS.Str2) : Prop where
  can : MS.Can f R
  sub : ∀ n, f n ≠ f (n - 1) → n ∈ T0
theorem Told.len {T0 : List Int} {f : Int → Bool} {R : List MS.Str2} (t : Told T0 f R) : R.length ≤ T0.length := by
  obtain ⟨ts, T, rfl⟩ := t.can.ex
  refine Nat.le_trans (MS.paired_len ts) (ZS.few_of ?_ fun k hk => t.sub k ((T.mem k).mp hk))
  exact T.up.imp fun h e => by omega
theorem Told.keys {T0 : List Int} {f : Int → Bool} {R : List MS.Str2} (t : Told T0 f R) : ∀ k, MS.keyB R k = true → k ∈ T0 := fun k hk => by
  obtain ⟨ts, T, rfl⟩ := t.can.ex
  exact t.sub k ((T.mem k).mp (keyB_paired ts k hk))
theorem Told.op {T0 : List Int} {f g : Int → Bool} {A B R : List MS.Str2} {op : Bool → Bool → Bool} (a : Told T0 f A) (b : Told T0 g B) (c : MS.Can (fun n => op (f n) (g n)) R) : Told T0 (fun n => op (f n) (g n)) R := ⟨c, fun n hn => by
  by_cases e : f n = f (n - 1)
  · by_cases e2 : g n = g (n - 1)
    · exact absurd (by rw [e, e2]) hn
    · exact b.sub n e2
  · exact a.sub n e⟩
theorem Told.all {T0 : List Int} (h0 : 0 ∈ T0) : Told T0 (fun n => decide (0 ≤ n)) [(0, none)] := ⟨MS.can_all, fun n hn => by
  by_cases e : n = 0
  · rw [e]; exact h0
  · exact absurd (by by_cases q : 0 ≤ n <;> simp <;> omega) hn⟩
theorem Told.congr {T0 : List Int} {f g : Int → Bool} {R : List MS.Str2} (t : Told T0 f R) (h : ∀ n, f n = g n) : Told T0 g R := by
  obtain rfl : f = g := funext h
  exact t
theorem key_app (A B : List MS.Str2) (k : Int) : MS.keyB (A ++ B) k = (MS.keyB A k || MS.keyB B k) := by
  unfold MS.keyB
  exact List.any_append
theorem FewK.two {T0 : List Int} {f g : Int → Bool} {A B : List MS.Str2} (a : Told T0 f A) (b : Told T0 g B) (h0 : 0 ∈ T0) (hl : T0.length < 64) : FewK (A ++ B) := ⟨T0, hl, h0, fun k hk => by
  rw [key_app, Bool.or_eq_true] at hk
  exact hk.elim (a.keys k) (b.keys k)⟩
/-- nothing of a tuple is at x -/
def NoT (H : Hp) (x : Addr) : Prop := ∀ (xs : List V) (o : HO), H x = some o → o ≠ .tup xs ∧ ∀ u, o ≠ .frz u (.tup xs)
theorem NoT.lst {H : Hp} {x : Addr} {ys : List V} (h : H x = some (.lst ys)) : NoT H x := fun xs o e => by
  rw [h] at e
  cases e
  exact ⟨(by intro q; cases q), (by intro u q; cases q)⟩
theorem NoT.ins {H : Hp} {x C dx : Addr} {fs : List (Str × V)} (h : H x = some (.ins C dx fs)) : NoT H x := fun xs o e => by
  rw [h] at e
  cases e
  exact ⟨(by intro q; cases q), (by intro u q; cases q)⟩
theorem NoT.pen {H : Hp} {p c : Addr} {ns : List Int} {B : Nat} (P : Pen H p c ns B) : NoT H p := fun xs o e => by
  obtain ⟨b, r, z, _⟩ := P.at_
  rw [z] at e
  cases e
  exact ⟨(by intro q; cases q), (by intro u q; cases q)⟩
theorem StrA.keep {H H' : Hp} {x : Addr} (b : But x H H') (np : NoT H x) : ∀ {xs : List V} {S : List MS.Str2}, StrA K H xs S → StrA K H' xs S
  | _, _, .nil => .nil
  | _, _, .cons ⟨t, e, h⟩ r => .cons ⟨t, e, sqT_but b (np _) h⟩ (StrA.keep b np r)
theorem SpanAt.keep {C : Addr} {H H' : Hp} {x s : Addr} {R : List MS.Str2} (b : But x H H') (np : NoT H x) (ne : s ≠ x) (h : SpanAt K C H s R) : SpanAt K C H' s R := by
  obtain ⟨dx, t, xs, h1, h2, h3⟩ := h
  exact ⟨dx, t, xs, b _ _ h1 ne, sqT_but b (np _) h2, h3.keep b np⟩
/-- the spans at ss: the k-th tells h k -/
def SpF (K : PySem.W.Frag) (C : Addr) (T0 : List Int) (H : Hp) (ss : List Addr) (h : Nat → Int → Bool) : Prop := ∀ (k : Nat) (s : Addr), ss[k]? = some s → ∃ R, SpanAt K C H s R ∧ Told T0 (h k) R
/-- the tuples at ts: the k-th tells g k -/
def OwF (K : PySem.W.Frag) (T0 : List Int) (H : Hp) (ts : List Addr) (g : Nat → Int → Bool) : Prop := ∀ (k : Nat) (t : Addr), ts[k]? = some t → ∃ (ys : List V) (R : List MS.Str2), SqT K H t ys ∧ StrA K H ys R ∧ Told T0 (g k) R
theorem SpF.same {C : Addr} {T0 : List Int} {H H' : Hp} {ss : List Addr} {h : Nat → Int → Bool} (a : SpF K C T0 H ss h) (s : Same H H') : SpF K C T0 H' ss h := fun k z e => by
  obtain ⟨R, h1, h2⟩ := a k z e
  exact ⟨R, h1.same s, h2⟩
theorem OwF.same {T0 : List Int} {H H' : Hp} {ts : List Addr} {g : Nat → Int → Bool} (a : OwF K T0 H ts g) (s : Same H H') : OwF K T0 H' ts g := fun k z e => by
  obtain ⟨ys, R, h1, h2, h3⟩ := a k z e
  exact ⟨ys, R, sqT_same s h1, h2.same s, h3⟩
theorem OwF.keep {T0 : List Int} {H H' : Hp} {x : Addr} {ts : List Addr} {g : Nat → Int → Bool} (a : OwF K T0 H ts g) (b : But x H H') (np : NoT H x) : OwF K T0 H' ts g := fun k z e => by
  obtain ⟨ys, R, h1, h2, h3⟩ := a k z e
  exact ⟨ys, R, sqT_but b (np _) h1, h2.keep b np, h3⟩
theorem SpF.keep {C : Addr} {T0 : List Int} {H H' : Hp} {x : Addr} {ss : List Addr} {h : Nat → Int → Bool} (a : SpF K C T0 H ss h) (b : But x H H') (np : NoT H x) (no : ∀ dx fs, H x ≠ some (.ins C dx fs)) : SpF K C T0 H' ss h := fun k z e => by
  obtain ⟨R, h1, h2⟩ := a k z e
  refine ⟨R, h1.keep b np fun q => ?_, h2⟩
  subst q
  obtain ⟨dx, t, xs, h3, _⟩ := h1
  exact no _ _ h3
theorem no_lst {C : Addr} {H : Hp} {x : Addr} {ys : List V} (h : H x = some (.lst ys)) : ∀ dx fs, H x ≠ some (.ins C dx fs) := fun dx fs e => by
  rw [h] at e
  cases e
theorem no_pen {C : Addr} {H : Hp} {p c : Addr} {ns : List Int} {B : Nat} (P : Pen H p c ns B) : ∀ dx fs, H p ≠ some (.ins C dx fs) := fun dx fs e => by
  obtain ⟨b, r, z, _⟩ := P.at_
  rw [z] at e
  cases e
theorem SpF.snoc {C : Addr} {T0 : List Int} {H : Hp} {ss : List Addr} {h : Nat → Int → Bool} {z : Addr} {R : List MS.Str2} (a : SpF K C T0 H ss h) (hz : SpanAt K C H z R) (t : Told T0 (h ss.length) R) : SpF K C T0 H (ss ++ [z]) h := fun k s e => by
  by_cases q : k < ss.length
  · rw [List.getElem?_append_left q] at e
    exact a k s e
  · rw [List.getElem?_append_right (by omega)] at e
    have : k - ss.length = 0 := by
      by_cases q2 : k - ss.length = 0
      · exact q2
      · rw [List.getElem?_eq_none (by simp; omega)] at e
        cases e
    rw [this] at e
    obtain rfl : z = s := by simpa using e
    obtain rfl : k = ss.length := by omega
    exact ⟨R, hz, t⟩
theorem OwF.snoc {T0 : List Int} {H : Hp} {ts : List Addr} {g : Nat → Int → Bool} {t : Addr} {ys : List V} {R : List MS.Str2} (a : OwF K T0 H ts g) (h1 : SqT K H t ys) (h2 : StrA K H ys R) (h3 : Told T0 (g ts.length) R) : OwF K T0 H (ts ++ [t]) g := fun k s e => by
  by_cases q : k < ts.length
  · rw [List.getElem?_append_left q] at e
    exact a k s e
  · rw [List.getElem?_append_right (by omega)] at e
    have : k - ts.length = 0 := by
      by_cases q2 : k - ts.length = 0
      · exact q2
      · rw [List.getElem?_eq_none (by simp; omega)] at e
        cases e
    rw [this] at e
    obtain rfl : t = s := by simpa using e
    obtain rfl : k = ts.length := by omega
    exact ⟨ys, R, h1, h2, h3⟩
/-- g, but f at i -/
def setF (g : Nat → Int → Bool) (i : Nat) (f : Int → Bool) : Nat → Int → Bool := fun k => if k = i then f else g k
theorem setF_at (g : Nat → Int → Bool) (i : Nat) (f : Int → Bool) : setF g i f i = f := if_pos rfl
theorem setF_ne (g : Nat → Int → Bool) {i k : Nat} (f : Int → Bool) (h : k ≠ i) : setF g i f k = g k := if_neg h
theorem SpF.ext {C : Addr} {T0 : List Int} {H : Hp} {ss : List Addr} {h h' : Nat → Int → Bool} (a : SpF K C T0 H ss h) (e : ∀ k, k < ss.length → h k = h' k) : SpF K C T0 H ss h' := fun k s q => by
  rw [← e k (List.getElem?_eq_some_iff.mp q).1]
  exact a k s q
theorem OwF.ext {T0 : List Int} {H : Hp} {ts : List Addr} {g g' : Nat → Int → Bool} (a : OwF K T0 H ts g) (e : ∀ k, k < ts.length → g k = g' k) : OwF K T0 H ts g' := fun k s q => by
  rw [← e k (List.getElem?_eq_some_iff.mp q).1]
  exact a k s q
/-- the i-th span is changed in place -/
theorem SpF.put {C : Addr} {T0 : List Int} {H H' : Hp} {ss : List Addr} {h : Nat → Int → Bool} {i : Nat} {s : Addr} {R : List MS.Str2} {f : Int → Bool} (a : SpF K C T0 H ss h) (nd : ss.Nodup) (hs : ss[i]? = some s) (b : But s H H') (np : NoT H s) (hz : SpanAt K C H' s R) (t : Told T0 f R) :
    SpF K C T0 H' ss (setF h i f) := fun k z e => by
  by_cases q : k = i
  · subst q
    rw [hs] at e
    cases e
    rw [setF_at]
    exact ⟨R, hz, t⟩
  · rw [setF_ne _ _ q]
    obtain ⟨R2, h1, h2⟩ := a k z e
    refine ⟨R2, h1.keep b np fun w => q ?_, h2⟩
    subst w
    obtain ⟨l1, e1⟩ := List.getElem?_eq_some_iff.mp e
    obtain ⟨l2, e2⟩ := List.getElem?_eq_some_iff.mp hs
    exact (List.getElem_inj nd).mp (e1.trans e2.symm)
theorem OwF.put {T0 : List Int} {H : Hp} {ts : List Addr} {g : Nat → Int → Bool} {i : Nat} {t : Addr} {ys : List V} {R : List MS.Str2} {f : Int → Bool} (a : OwF K T0 H ts g) (hi : i < ts.length) (h1 : SqT K H t ys) (h2 : StrA K H ys R) (h3 : Told T0 f R) : OwF K T0 H (ts.set i t) (setF g i f) := fun k z e => by
  by_cases q : k = i
  · subst q
    rw [List.getElem?_set_self hi] at e
    cases e
    rw [setF_at]
    exact ⟨ys, R, h1, h2, h3⟩
  · rw [List.getElem?_set_ne (fun z => q z.symm)] at e
    rw [setF_ne _ _ q]
    exact a k z e
theorem refs_get {ss : List Addr} {i : Nat} {s : Addr} (h : ss[i]? = some s) : (ss.map V.ref)[i]? = some (.ref s) := by
  rw [List.getElem?_map, h]
  rfl
theorem refs_some {ss : List Addr} {i : Nat} (h : i < ss.length) : ∃ s, ss[i]? = some s := ⟨_, List.getElem?_eq_getElem h⟩
/-- .. of a list -/
theorem mkSpanL {C : Addr} {H1 : Hp} {a x dx : Addr} {xs : List V} {S : List MS.Str2} (hS : SqL K H1 a xs) (hA : StrA K H1 xs S) (hG : ∀ q ∈ S, Good q) (hl : S.length ≤ 200) (nx : H1 x = none) (nd : H1 dx = none) (ne : dx ≠ x) {Q2 : VK}
    (k : ∀ (R : List MS.Str2) (H' : Hp), Same H1 H' → SpanAt K C H' x R → MS.Can (MS.inL S) R → Q2 .non H') : spPInit K C [.ref x, .ref a] (L2.upd (L2.upd H1 dx (.own x)) x (.ins C dx [])) Q2 E0 := by
  have s1 : Same H1 (L2.upd (L2.upd H1 dx (.own x)) x (.ins C dx [])) := fun b o e => by
    rw [upd_ne (ne_of_none e nx), upd_ne (ne_of_none e nd)]
    exact e
  exact ⟨x, dx, a, xs, S, rfl, upd_same, .inl (s1.seq hS), hA.same s1, hG, hl, fun R H2 keep hz cR lR => k R H2 (fun b o e => keep b o (s1 b o e) (ne_of_none e nx)) hz cR⟩
theorem turns_seams {S : List MS.Str2} (n : Int) (h : MS.inL S n ≠ MS.inL S (n - 1)) : n ∈ seams S := by
  rw [mem_seams]
  cases e : MS.keyB S n
  · exact absurd (MS.inL_stays e) h
  · exact .inr rfl
theorem seams_len {S : List MS.Str2} (h : S.length ≤ 8) : (seams S).length ≤ 17 := by
  have := ends_len S
  unfold seams
  simp only [List.length_cons, List.length_append, List.length_map]
  omega
theorem SpF.new {C : Addr} {T0 : List Int} {H : Hp} {ss : List Addr} {h : Nat → Int → Bool} {z : Addr} (a : SpF K C T0 H ss h) (nz : H z = none) : z ∉ ss := fun m => by
  obtain ⟨k, hk⟩ := List.getElem?_of_mem m
  obtain ⟨R, ⟨dx, t, xs, e, _⟩, _⟩ := a k z hk
  rw [nz] at e
  cases e
theorem nodup_snoc {ss : List Addr} {z : Addr} (h : ss.Nodup) (n : z ∉ ss) : (ss ++ [z]).Nodup := by
  refine List.nodup_append.mpr ⟨h, List.nodup_cons.mpr ⟨by simp, List.nodup_nil⟩, fun x hx y hy e => ?_⟩
  rw [List.mem_singleton.mp hy] at e
  exact n (e ▸ hx)
/-- the i-th span is changed by the j-th -/
theorem in_run {C : Addr} {T0 : List Int} {H : Hp} {ss : List Addr} {g : Nat → Int → Bool} {i j : Nat} {s u : Addr} {op : Bool → Bool → Bool} (hF : SpF K C T0 H ss g) (nd : ss.Nodup) (hs : ss[i]? = some s) (hu : ss[j]? = some u) (tl : T0.length < 64) {Q : VK}
    (k : ∀ H' : Hp, But s H H' → (∃ dx fs, H s = some (.ins C dx fs)) → SpF K C T0 H' ss (setF g i fun n => op (g i n) (g j n)) → Q (.ref s) H') : EO.rOO C (spIn K C op) (.ref s) (.ref u) H Q := by
  obtain ⟨A, ⟨dx, t, xs, e1, e2, e3⟩, tA⟩ := hF i s hs
  obtain ⟨B, ⟨dy, r, ys, d1, d2, d3⟩, tB⟩ := hF j u hu
  have lA := tA.len
  have lB := tB.len
  exact ⟨s, dx, _, u, dy, _, rfl, rfl, e1, d1, s, u, A, B, g i, g j, rfl, ⟨dx, t, xs, e1, e2, e3⟩, ⟨dy, r, ys, d1, d2, d3⟩, tA.can, tB.can, by omega, by omega, fun R H' b hz cR lR => k H' b ⟨_, _, e1⟩ (hF.put nd hs b (NoT.ins e1) hz (tA.op tB cR))⟩
/-- a new span of two -/
theorem bin_run {C : Addr} {T0 : List Int} {H : Hp} {ss : List Addr} {g : Nat → Int → Bool} {i j : Nat} {s u : Addr} {op : Bool → Bool → Bool} (hF : SpF K C T0 H ss g) (hs : ss[i]? = some s) (hu : ss[j]? = some u) (tl : T0.length < 64) {Q : VK}
    (k : ∀ (z : Addr) (R : List MS.Str2) (H' : Hp), Same H H' → H z = none → SpanAt K C H' z R → Told T0 (fun n => op (g i n) (g j n)) R → Q (.ref z) H') : EO.rOO C (spBin K C op) (.ref s) (.ref u) H Q := by
  obtain ⟨A, ⟨dx, t, xs, e1, e2, e3⟩, tA⟩ := hF i s hs
  obtain ⟨B, ⟨dy, r, ys, d1, d2, d3⟩, tB⟩ := hF j u hu
  have lA := tA.len
  have lB := tB.len
  exact ⟨s, dx, _, u, dy, _, rfl, rfl, e1, d1, s, u, A, B, g i, g j, rfl, ⟨dx, t, xs, e1, e2, e3⟩, ⟨dy, r, ys, d1, d2, d3⟩, tA.can, tB.can, by omega, by omega, fun z R H' sm nz hz cR lR => k z R H' sm nz hz (tA.op tB cR)⟩
theorem mix_told {T0 : List Int} {A B R : List MS.Str2} {f g : Int → Bool} {way : Int} (tA : Told T0 f A) (tB : Told T0 g B) (cR : MS.Can (fun n => opw way (MS.inL A n) (MS.inL B n)) R) : Told T0 (fun n => opw way (f n) (g n)) R := by
  have e : (fun n => opw way (MS.inL A n) (MS.inL B n)) = fun n => opw way (f n) (g n) := funext fun n => by rw [tA.can.mem, tB.can.mem]
  rw [e] at cR
  exact tA.op tB cR
theorem Pen.keep {H H' : Hp} {p c x : Addr} {ns : List Int} {B : Nat} (P : Pen H p c ns B) (b : But x H H') (np : p ≠ x) (nc : c ≠ x) : Pen H' p c ns B := by
  obtain ⟨bb, r, e, z⟩ := P.at_
  exact ⟨⟨bb, r, b _ _ e np, z⟩, b _ _ P.cells nc, P.few, P.small⟩
/-- the complement of a new span -/
theorem inv_run {C : Addr} {T0 : List Int} {H : Hp} {s : Addr} {A : List MS.Str2} {f : Int → Bool} (h : SpanAt K C H s A) (tA : Told T0 f A) (t0 : 0 ∈ T0) (tl : T0.length < 64) {Q : VK}
    (k : ∀ (z : Addr) (R : List MS.Str2) (H' : Hp), Same H H' → H z = none → SpanAt K C H' z R → Told T0 (fun n => decide (0 ≤ n) && !f n) R → Q (.ref z) H') : EO.rU1 C (spInv K C) (.ref s) H Q := by
  have lA := tA.len
  obtain ⟨dx, t, xs, e1, e2, e3⟩ := h
  exact ⟨s, dx, _, rfl, e1, s, A, f, rfl, ⟨dx, t, xs, e1, e2, e3⟩, tA.can, by omega, fun z R H' sm nz hz cR lR => k z R H' sm nz hz ((Told.all t0).op (op := fun a b => a && !b) tA cR)⟩
theorem is_same {C : Addr} {T0 : List Int} {H : Hp} {ss ts : List Addr} {g : Nat → Int → Bool} {i : Nat} {s t : Addr} (hF : SpF K C T0 H ss g) (hO : OwF K T0 H ts g) (tl : T0.length < 64) (hs : ss[i]? = some s) (ht : ts[i]? = some t) :
    ∃ (ys : List V) (R : List MS.Str2), SpanAt K C H s R ∧ SqT K H t ys ∧ StrA K H ys R ∧ R.length ≤ 900 := by
  obtain ⟨R, h1, h2⟩ := hF i s hs
  obtain ⟨ys, R2, h3, h4, h5⟩ := hO i t ht
  obtain rfl : R = R2 := h2.can.one h5.can fun _ => rfl
  have := h2.len
  exact ⟨ys, R, h1, h3, h4, by omega⟩
end
end EN

namespace EN
open PySem L2 PyProof.Rows
section
variable {P : Program} {w : World} {K : PySem.W.Frag} {mg : Str → Option Value} {base : Heap} {f : Addr} {fd : FuncData}
def spMixed (K : PySem.W.Frag) : Sp := fun vs H Q _ => ∃ (a b : Addr) (xs ys : List V) (A B : List MS.Str2) (way : Int), vs = [.ref a, .ref b, .int way] ∧ SqT K H a xs ∧ SqT K H b ys ∧ StrA K H xs A ∧ StrA K H ys B ∧ (∀ q ∈ A, Good q) ∧ (∀ q ∈ B, Good q) ∧ A.length ≤ 100 ∧ B.length ≤ 100 ∧ FewK (A ++ B) ∧
  ∀ (t : Addr) (zs : List V) (R : List MS.Str2) (H' : Hp), Same H H' → H t = none → H' t = some (.tup zs) → StrA K H' zs R → MS.Can (fun n => opw way (MS.inL A n) (MS.inL B n)) R → Q (.ref t) H'
abbrev s_mixed : Stmt := top 39
abbrev N_mixed : List Str := ["_law_first", "_law_second", "_law_way", "_law_points_here", "_law_marks", "_law_n", "_law_a", "_law_b"]
theorem sc_mixed : FnScope N_mixed ["_law_first", "_law_second", "_law_way"] (defScope s_mixed) := ⟨rfl, rfl, rfl, by decide +kernel, rfl, by decide +kernel, by decide +kernel⟩

theorem ok_mixed (F : Fun K "_law_mixed_up" "_law_mixed_up" s_mixed f fd) (T : Blt mg) (G_points : Has P w K mg base 1 "_law_points" ["_law_stretches_here"] (spPoints K)) (G_within : Has P w K mg base 1 "_law_within" ["_law_stretches_here", "_law_n"] (spWithin K)) (G_spread : Has P w K mg base 2 "_law_spread" ["_law_points_here", "_law_inside"] (spSpread K)) :
    FnOk P w K mg base CX0 3 f fd ["_law_first", "_law_second", "_law_way"] (spMixed K) := by
  refine F.ok sc_mixed (fun vs H Q E h => ?_) (fun cdv A outer s H vs Q E hr h => ?_)
  · obtain ⟨_, _, _, _, _, _, _, rfl, _⟩ := h
    rfl
  · obtain ⟨a, b, xs, ys, A1, B1, way, rfl, hS, hT, hA, hB, gA, gB, lA, lB, few, k⟩ := h
    refine ⟨_, (pss_cons (ps_set (i := 3) sc_mixed.nd rfl (Or.inl rfl) (pe_has G_points (hr.mono (by decide)) (pa_cons (pe_op (show OpR _ _ (rCatA K) from op_catA) (pv 0) (pv 1)) pa_nil)))
    (pss_cons (ps_setLc (i := 4) (own := [("_law_n", 5)]) (g := gName 5) (tt := tYes) (by rfl) sc_mixed.nd rfl rfl (sw_true rfl rfl rfl (by decide +kernel)) (pi_list (pv 3)) (blkOk_by (own := [("_law_n", 5)]) (N := N_mixed) (sc := defScope s_mixed) (by decide +kernel)) (fun _ _ _ _ _ => (pg_name (i := 5) sc_mixed.nd rfl (by first | exact Or.inl rfl | exact Or.inr rfl))) (fun _ _ _ _ _ => pts_nil) (fun _ _ _ _ _ => (pe_tup (pa_cons (pe_has G_within (hr.mono (by decide)) (pa_cons (pv 0) (pa_cons (pv 5) pa_nil))) (pa_cons (pe_has G_within (hr.mono (by decide)) (pa_cons (pv 1) (pa_cons (pv 5) pa_nil))) pa_nil)))))
    (pss_cons (ps_if (pt_cmpR op_eq (pv 2) pe_int (nomark _))
      (pss_one (ps_ret (pe_has G_spread (hr.mono (by decide)) (pa_cons (pv 3) (pa_cons (pe_lc (own := [("_law_a", 6), ("_law_b", 7)]) (g := gTup K 2 (gCons (gName 6) (gCons (gName 7) gNil))) (tt := tYes) (by rfl) sc_mixed.nd (pi_list (pv 4)) (blkOk_by (own := [("_law_a", 6), ("_law_b", 7)]) (N := N_mixed) (sc := defScope s_mixed) (by decide +kernel)) (fun _ _ _ _ _ => (pg_tup rfl (pgs_cons (pg_name (i := 6) sc_mixed.nd rfl (by first | exact Or.inl rfl | exact Or.inr rfl)) (pgs_cons (pg_name (i := 7) sc_mixed.nd rfl (by first | exact Or.inl rfl | exact Or.inr rfl)) pgs_nil)))) (fun _ _ _ _ _ => pts_nil) (fun _ _ _ _ _ => (pe_or (pv 6) (pe_one (pv 7))))) pa_nil)))))
      pss_nil)
    (pss_cons (ps_if (pt_cmpR op_eq (pv 2) pe_int (nomark _))
      (pss_one (ps_ret (pe_has G_spread (hr.mono (by decide)) (pa_cons (pv 3) (pa_cons (pe_lc (own := [("_law_a", 6), ("_law_b", 7)]) (g := gTup K 2 (gCons (gName 6) (gCons (gName 7) gNil))) (tt := tYes) (by rfl) sc_mixed.nd (pi_list (pv 4)) (blkOk_by (own := [("_law_a", 6), ("_law_b", 7)]) (N := N_mixed) (sc := defScope s_mixed) (by decide +kernel)) (fun _ _ _ _ _ => (pg_tup rfl (pgs_cons (pg_name (i := 6) sc_mixed.nd rfl (by first | exact Or.inl rfl | exact Or.inr rfl)) (pgs_cons (pg_name (i := 7) sc_mixed.nd rfl (by first | exact Or.inl rfl | exact Or.inr rfl)) pgs_nil)))) (fun _ _ _ _ _ => pts_nil) (fun _ _ _ _ _ => (pe_and (pv 6) (pe_one (pv 7))))) pa_nil)))))
      pss_nil)
    (pss_one (ps_ret (pe_has G_spread (hr.mono (by decide)) (pa_cons (pv 3) (pa_cons (pe_lc (own := [("_law_a", 6), ("_law_b", 7)]) (g := gTup K 2 (gCons (gName 6) (gCons (gName 7) gNil))) (tt := tYes) (by rfl) sc_mixed.nd (pi_list (pv 4)) (blkOk_by (own := [("_law_a", 6), ("_law_b", 7)]) (N := N_mixed) (sc := defScope s_mixed) (by decide +kernel)) (fun _ _ _ _ _ => (pg_tup rfl (pgs_cons (pg_name (i := 6) sc_mixed.nd rfl (by first | exact Or.inl rfl | exact Or.inr rfl)) (pgs_cons (pg_name (i := 7) sc_mixed.nd rfl (by first | exact Or.inl rfl | exact Or.inr rfl)) pgs_nil)))) (fun _ _ _ _ _ => pts_nil) (fun _ _ _ _ _ => (pe_ifExp (pt_cmpR op_eq (pv 2) pe_int (nomark _)) (pe_and (pv 6) (pe_one (pe_not (pv 7)))) (pe_cmpR op_ne (pv 6) (pv 7) (nomark _))))) pa_nil))))))))), ?_⟩
    have l1 := hA.len
    have l2 := hB.len
    refine ⟨_, rfl, _, rfl, cat_t hS hT (by omega) fun c H1 s1 hc => ?_⟩
    refine ⟨c, xs ++ ys, A1 ++ B1, rfl, .inr hc, (hA.same s1).app (hB.same s1), good_app gA gB, by rw [List.length_append]; omega, few, fun l ps H2 s2 nl hl2 up mem pl => ?_⟩
    have s12 := s1.trans s2
    refine ⟨_, rfl, l, rfl, ⟨_, SqL.of hl2⟩, fun D hD => ?_⟩
    refine ZK.lc_growF ps.length (small1000 (by omega)) (fun i acc H' => Same H2 H' ∧ MarkA K H' acc ((ps.take i).map fun n => (MS.inL A1 n, MS.inL B1 n))) ⟨same_new (Same.refl _) _ hD, .nil⟩ (fun i acc H' hi hI => ⟨_, .int ps[i], hI.1.seq (SqL.of hl2), by rw [List.getElem?_map, List.getElem?_eq_getElem hi]; rfl⟩) (fun acc H' hI => ⟨_, hI.1.seq (SqL.of hl2), by rw [List.length_map]; exact Nat.le_refl _⟩) ?_ ?_
    · rintro i H3 x H' acc hi ⟨s3, hM⟩ hacc hal ⟨rfl, hx⟩ N hN
      have gi : ps[i]? = some ps[i] := List.getElem?_eq_getElem hi
      have q1 := hx _ (s3.seq (SqL.of hl2))
      rw [List.getElem?_map, gi] at q1
      obtain rfl : V.int ps[i] = x := Option.some.inj q1
      have s13 := s12.trans s3
      refine ⟨rfl, yesT (iteT ?_)⟩
      refine ⟨_, rfl, _, rfl, a, xs, A1, _, rfl, .inr (sqT_same s13 hS), hA.same s13, by omega, fun H4 s4 => ?_⟩
      refine ⟨_, rfl, _, rfl, b, ys, B1, _, rfl, .inr (sqT_same (s13.trans s4) hT), hB.same (s13.trans s4), by omega, fun H5 s5 => ?_⟩
      refine ⟨(by show 2 ≤ sizeLine; decide), fun t ht => ?_⟩
      have st := same_new (Same.refl H5) (.tup [.bl (MS.inL A1 ps[i]), .bl (MS.inL B1 ps[i])]) ht
      have hacc2 := st _ _ (s5 _ _ (s4 _ _ hacc))
      refine ⟨acc, hacc2, small1000 (by omega), hN _ (acc ++ [.ref t]) ⟨same_but_new (((s3.trans s4).trans s5).trans st) hD, ?_⟩ upd_same (by rw [List.length_append]; exact Nat.succ_le_succ hal)⟩
      rw [take_snoc gi, List.map_append]
      exact MarkA.upd hacc2 ((((hM.same s4).same s5).same st).app (.cons ⟨t, rfl, SqT.of upd_same⟩ .nil))
    · rintro H3 acc ⟨s3, hM⟩ hacc hal
      rw [List.take_length] at hM
      have ml : acc.length = ps.length := by rw [hM.len, List.length_map]
      have p0 : 0 < ps.length := List.length_pos_of_mem ((mem 0).mpr (.inl rfl))
      have s03 := s12.trans s3
      have D3 := hacc
      have fin : ∀ (H4 : Hp) (acc2 : List V) (D2 : Addr), Same H3 H4 → H4 D2 = some (.lst acc2) → acc2.length = acc.length → (∀ j y, acc2[j]? = some y → y = V.bl (opw way (MS.inL A1 (ps.getD j 0)) (MS.inL B1 (ps.getD j 0)))) → spSpread K [.ref l, .ref D2] H4 Q E0 := fun H4 acc2 D2 s4 h4 hl4 hR4 => by
        have e := ZK.eq_map (hl4.trans ml) hR4
        have e2 : acc2 = ps.map fun p => V.bl (opw way (MS.inL A1 p) (MS.inL B1 p)) := by rw [e]; exact range_getD ps fun p => V.bl (opw way (MS.inL A1 p) (MS.inL B1 p))
        refine ⟨l, D2, ps, fun n => opw way (MS.inL A1 n) (MS.inL B1 n), rfl, s4.seq (s3.seq (SqL.of hl2)), SqL.of (by rw [h4, e2]), p0, pl, fun t zs H5 s5 nt ht hR5 => ?_⟩
        exact k t zs _ H5 ((s03.trans s4).trans s5) ((s03.trans s4).free nt) ht hR5 (MS.points_op (op := opw way) (opw0 way) gA gB up mem)
      have pick : ∀ {H4 : Hp} {i : Nat} {x : V}, Same H3 H4 → acc[i]? = some x → ∃ t, x = .ref t ∧ SqT K H4 t [.bl (MS.inL A1 (ps.getD i 0)), .bl (MS.inL B1 (ps.getD i 0))] := fun {H4 i x} s4 hx => by
        obtain ⟨p, hp, t, e, hT⟩ := (hM.same s4).get hx
        refine ⟨t, e, ?_⟩
        rw [List.getElem?_map] at hp
        obtain ⟨n, hn, rfl⟩ := Option.map_eq_some_iff.mp hp
        rw [List.getD_eq_getElem?_getD, hn]
        exact hT
      by_cases w0 : way = 0
      · refine ⟨_, rfl, rfl, true, congrArg V.bl (decide_eq_true (congrArg V.int w0)), iteT ?_⟩
        refine ⟨_, rfl, _, rfl, D, rfl, ⟨_, SqL.of D3⟩, fun D2 hD2 => ?_⟩
        refine ZK.lc_growL (K := K) (a := D) (xs := acc) (small1000 (by omega)) (fun _ H' => Same H3 H') (fun i y => y = V.bl (opw way (MS.inL A1 (ps.getD i 0)) (MS.inL B1 (ps.getD i 0)))) (same_new (Same.refl _) _ hD2) (fun i H' s' => s'.seq (SqL.of D3)) ?_ (fun H4 acc2 s4 h4 hl4 hR4 => fin H4 acc2 D2 s4 h4 hl4 hR4)
        intro i x H4 acc2 hx s4 hacc4 hal4 hR4 Qn hq
        obtain ⟨t, rfl, hT⟩ := pick s4 hx
        have q2 : ∀ c, c = opw way (MS.inL A1 (ps.getD i 0)) (MS.inL B1 (ps.getD i 0)) → Qn (.bl c) H4 := fun c e => hq _ _ (by rw [e]) hacc4 (same_but_new s4 hD2)
        generalize MS.inL A1 (ps.getD i 0) = x1 at hT q2
        generalize MS.inL B1 (ps.getD i 0) = y1 at hT q2
        refine ⟨t, _, rfl, hT, rfl, _, _, rfl, _, _, rfl, rfl, rfl, ?_⟩
        cases x1
        · exact ⟨_, rfl, false, rfl, iteF ⟨_, rfl, q2 _ (by simp [opw, w0])⟩⟩
        · exact ⟨_, rfl, true, rfl, iteT (q2 _ (by simp [opw, w0]))⟩
      · refine ⟨_, rfl, rfl, false, congrArg V.bl (decide_eq_false fun z => w0 (V.int.inj z)), iteF ?_⟩
        by_cases w1 : way = 1
        · refine ⟨_, rfl, rfl, true, congrArg V.bl (decide_eq_true (congrArg V.int w1)), iteT ?_⟩
          refine ⟨_, rfl, _, rfl, D, rfl, ⟨_, SqL.of D3⟩, fun D2 hD2 => ?_⟩
          refine ZK.lc_growL (K := K) (a := D) (xs := acc) (small1000 (by omega)) (fun _ H' => Same H3 H') (fun i y => y = V.bl (opw way (MS.inL A1 (ps.getD i 0)) (MS.inL B1 (ps.getD i 0)))) (same_new (Same.refl _) _ hD2) (fun i H' s' => s'.seq (SqL.of D3)) ?_ (fun H4 acc2 s4 h4 hl4 hR4 => fin H4 acc2 D2 s4 h4 hl4 hR4)
          intro i x H4 acc2 hx s4 hacc4 hal4 hR4 Qn hq
          obtain ⟨t, rfl, hT⟩ := pick s4 hx
          have q2 : ∀ c, c = opw way (MS.inL A1 (ps.getD i 0)) (MS.inL B1 (ps.getD i 0)) → Qn (.bl c) H4 := fun c e => hq _ _ (by rw [e]) hacc4 (same_but_new s4 hD2)
          generalize MS.inL A1 (ps.getD i 0) = x1 at hT q2
          generalize MS.inL B1 (ps.getD i 0) = y1 at hT q2
          refine ⟨t, _, rfl, hT, rfl, _, _, rfl, _, _, rfl, rfl, rfl, ?_⟩
          cases x1
          · exact ⟨_, rfl, false, rfl, iteF (q2 _ (by simp [opw, w1]))⟩
          · exact ⟨_, rfl, true, rfl, iteT ⟨_, rfl, q2 _ (by simp [opw, w1])⟩⟩
        · refine ⟨_, rfl, rfl, false, congrArg V.bl (decide_eq_false fun z => w1 (V.int.inj z)), iteF ?_⟩
          by_cases w2 : way = 2
          · refine ⟨_, rfl, _, rfl, D, rfl, ⟨_, SqL.of D3⟩, fun D2 hD2 => ?_⟩
            refine ZK.lc_growL (K := K) (a := D) (xs := acc) (small1000 (by omega)) (fun _ H' => Same H3 H') (fun i y => y = V.bl (opw way (MS.inL A1 (ps.getD i 0)) (MS.inL B1 (ps.getD i 0)))) (same_new (Same.refl _) _ hD2) (fun i H' s' => s'.seq (SqL.of D3)) ?_ (fun H4 acc2 s4 h4 hl4 hR4 => fin H4 acc2 D2 s4 h4 hl4 hR4)
            intro i x H4 acc2 hx s4 hacc4 hal4 hR4 Qn hq
            obtain ⟨t, rfl, hT⟩ := pick s4 hx
            have q2 : ∀ c, c = opw way (MS.inL A1 (ps.getD i 0)) (MS.inL B1 (ps.getD i 0)) → Qn (.bl c) H4 := fun c e => hq _ _ (by rw [e]) hacc4 (same_but_new s4 hD2)
            generalize MS.inL A1 (ps.getD i 0) = x1 at hT q2
            generalize MS.inL B1 (ps.getD i 0) = y1 at hT q2
            refine ⟨t, _, rfl, hT, rfl, _, _, rfl, _, _, rfl, rfl, rfl, ?_⟩
            refine ⟨_, rfl, rfl, true, congrArg V.bl (decide_eq_true (congrArg V.int w2)), iteT ?_⟩
            cases x1
            · exact ⟨_, rfl, false, rfl, iteF (q2 _ (by simp [opw, w2]))⟩
            · exact ⟨_, rfl, true, rfl, iteT ⟨_, rfl, y1, rfl, q2 _ (by simp [opw, w2])⟩⟩
          · refine ⟨_, rfl, _, rfl, D, rfl, ⟨_, SqL.of D3⟩, fun D2 hD2 => ?_⟩
            refine ZK.lc_growL (K := K) (a := D) (xs := acc) (small1000 (by omega)) (fun _ H' => Same H3 H') (fun i y => y = V.bl (opw way (MS.inL A1 (ps.getD i 0)) (MS.inL B1 (ps.getD i 0)))) (same_new (Same.refl _) _ hD2) (fun i H' s' => s'.seq (SqL.of D3)) ?_ (fun H4 acc2 s4 h4 hl4 hR4 => fin H4 acc2 D2 s4 h4 hl4 hR4)
            intro i x H4 acc2 hx s4 hacc4 hal4 hR4 Qn hq
            obtain ⟨t, rfl, hT⟩ := pick s4 hx
            have q2 : ∀ c, c = opw way (MS.inL A1 (ps.getD i 0)) (MS.inL B1 (ps.getD i 0)) → Qn (.bl c) H4 := fun c e => hq _ _ (by rw [e]) hacc4 (same_but_new s4 hD2)
            generalize MS.inL A1 (ps.getD i 0) = x1 at hT q2
            generalize MS.inL B1 (ps.getD i 0) = y1 at hT q2
            refine ⟨t, _, rfl, hT, rfl, _, _, rfl, _, _, rfl, rfl, rfl, ?_⟩
            refine ⟨_, rfl, rfl, false, congrArg V.bl (decide_eq_false fun z => w2 (V.int.inj z)), iteF ?_⟩
            refine ⟨_, rfl, _, rfl, rfl, ?_⟩
            cases x1 <;> cases y1 <;> exact q2 _ (by simp [opw, w0, w1, w2])
end
end EN

namespace EN
open PySem L2 PyProof.Rows
section
variable {P : Program} {w : World} {K : PySem.W.Frag} {mg : Str → Option Value} {base : Heap} {f : Addr} {fd : FuncData}
/-! ### the law -/
def spLawH (K : PySem.W.Frag) : Sp := fun vs H Q _ => ∃ (a : Addr) (ns : List Int), vs = [.ref a] ∧ SqL K H a (ns.map V.int) ∧ ns.length ≤ 63 ∧ ∀ H' : Hp, Q (.bl true) H'
/-- rows of stretches, each a list -/
def RowT (K : PySem.W.Frag) (H : Hp) (v : V) (S : List MS.Str2) : Prop := ∃ (r : Addr) (xs : List V), v = .ref r ∧ H r = some (.lst xs) ∧ StrA K H xs S ∧ (∀ q ∈ S, Good q) ∧ S.length ≤ 8
abbrev RowA (K : PySem.W.Frag) (H : Hp) : List V → List (List MS.Str2) → Prop := Paired (RowT K H)
theorem RowA.same {H H' : Hp} (s : Same H H') : ∀ {xs : List V} {S : List (List MS.Str2)}, RowA K H xs S → RowA K H' xs S
  | _, _, .nil => .nil
  | _, _, .cons ⟨r, ys, e, h1, h2, h3⟩ q => .cons ⟨r, ys, e, s _ _ h1, h2.same s, h3⟩ (RowA.same s q)
theorem RowA.len {H : Hp} : ∀ {xs : List V} {S : List (List MS.Str2)}, RowA K H xs S → xs.length = S.length
  | _, _, .nil => rfl
  | _, _, .cons _ q => by rw [List.length_cons, List.length_cons, RowA.len q]
theorem RowA.app {H : Hp} : ∀ {xs ys : List V} {S T : List (List MS.Str2)}, RowA K H xs S → RowA K H ys T → RowA K H (xs ++ ys) (S ++ T)
  | _, _, _, _, .nil, h => h
  | _, _, _, _, .cons a r, h => .cons a (RowA.app r h)
theorem RowA.get {H : Hp} : ∀ {xs : List V} {S : List (List MS.Str2)} {i : Nat} {x : V}, RowA K H xs S → xs[i]? = some x → ∃ p, S[i]? = some p ∧ RowT K H x p
  | _, _, 0, _, .cons h _, e => ⟨_, rfl, by simpa using (Option.some.inj (by simpa using e)) ▸ h⟩
  | _, _, i + 1, _, .cons _ r, e => by
    obtain ⟨p, e1, e2⟩ := RowA.get (i := i) r (by simpa using e)
    exact ⟨p, by simpa using e1, e2⟩
/-- the rows stay where x changes: no row is at x, and x is no tuple -/
theorem RowA.keep {H H' : Hp} {x : Addr} (b : But x H H') (np : NoT H x) : ∀ {xs : List V} {S : List (List MS.Str2)}, RowA K H xs S → (∀ r : Addr, V.ref r ∈ xs → r ≠ x) → RowA K H' xs S
  | _, _, .nil, _ => .nil
  | _, _, .cons ⟨r, ys, e, h1, h2, h3⟩ q, ne => by
    subst e
    exact .cons ⟨r, ys, rfl, b _ _ h1 (ne r List.mem_cons_self), h2.keep b np, h3⟩ (RowA.keep b np q fun r2 hr => ne r2 (List.mem_cons_of_mem _ hr))
/-- the points of all rows -/
def allP (Ss : List (List MS.Str2)) : List Int := Ss.flatMap seams
theorem allP_len : ∀ {Ss : List (List MS.Str2)}, (∀ S ∈ Ss, S.length ≤ 8) → (allP Ss).length ≤ 17 * Ss.length
  | [], _ => Nat.zero_le _
  | S :: Ss, h => by
    have ih := allP_len (Ss := Ss) fun S2 h2 => h S2 (List.mem_cons_of_mem _ h2)
    have := seams_len (h S List.mem_cons_self)
    unfold allP at ih ⊢
    rw [List.flatMap_cons, List.length_append, List.length_cons]
    omega
theorem allP_mem {Ss : List (List MS.Str2)} {S : List MS.Str2} (h : S ∈ Ss) {n : Int} (hn : n ∈ seams S) : n ∈ allP Ss := List.mem_flatMap.mpr ⟨S, h, hn⟩
/-- what the spans tell, the i-th of them changed or not -/
def hq (g : Nat → Int → Bool) (i j : Nat) (way : Int) (q : Bool) : Nat → Int → Bool := if q = true then setF g i (fun n => opw way (g i n) (g j n)) else g
def LMid (K : PySem.W.Frag) (C : Addr) (T0 : List Int) (p c l o : Addr) (ns : List Int) (B : Nat) (ss ts : List Addr) (g h : Nat → Int → Bool) (σ0 : L2.St) : L2.St → Hp → Prop := fun σ' H' => σ' = σ0 ∧ Pen H' p c ns B ∧ H' l = some (.lst (ss.map V.ref)) ∧ H' o = some (.lst (ts.map V.ref)) ∧ SpF K C T0 H' ss h ∧ OwF K T0 H' ts g
theorem LMid.put {C s p c l o : Addr} {T0 ns : List Int} {B : Nat} {ss ts : List Addr} {g h : Nat → Int → Bool} {σ0 : L2.St} {H H' : Hp} (P : Pen H p c ns B) (hl : H l = some (.lst (ss.map V.ref))) (ho : H o = some (.lst (ts.map V.ref))) (hO : OwF K T0 H ts g) (b : But s H H') (e : ∃ dx fs, H s = some (.ins C dx fs)) (hF : SpF K C T0 H' ss h) :
    LMid K C T0 p c l o ns B ss ts g h σ0 σ0 H' := by
  obtain ⟨dx, fs, e⟩ := e
  obtain ⟨bb, r, z, _⟩ := P.at_
  exact ⟨rfl, P.keep b (ne_of z e (by intro q; cases q)) (ne_of P.cells e (by intro q; cases q)), b _ _ hl (ne_of hl e (by intro q; cases q)), b _ _ ho (ne_of ho e (by intro q; cases q)), hF, hO.keep b (NoT.ins e)⟩
abbrev s_law : Stmt := top 40
abbrev N_law : List Str := ["_law_script", "_law_pen_here", "_law_base_here", "_law_rows", "_law_spans", "_law_own", "_law_deed", "_law_i", "_law_j", "_law_way", "_law_held", "_law_other", "_law_made", "_law_due", "_law_at", "_law_k", "_law_row"]
theorem sc_law : FnScope N_law ["_law_script"] (defScope s_law) := ⟨rfl, rfl, rfl, by decide +kernel, rfl, by decide +kernel, by decide +kernel⟩

theorem ok_law {C_Span : Addr} (F : Fun K "law" "law" s_law f fd) (T : Blt mg) (cl : Cls K C_Span) (g_Span : mg "Span" = some (.ref C_Span)) (sf_Span : PySem.W.selfFirst K C_Span = true)
    (G_pen : Has P w K mg base 1 "_law_pen" ["_law_script"] (spPen K)) (G_draw : Has P w K mg base 1 "_law_draw" ["_law_pen_here", "_law_many"] spDraw) (G_lbase : Has P w K mg base 3 "_law_base" ["_law_pen_here"] spBase)
    (G_stretches : Has P w K mg base 3 "_law_stretches" ["_law_pen_here", "_law_base_here"] (spStretches K)) (G_united : Has P w K mg base 3 "_law_united" ["_law_stretches_here"] (spUnited K))
    (G_mixed : Has P w K mg base 3 "_law_mixed_up" ["_law_first", "_law_second", "_law_way"] (spMixed K)) (G_spanis : Has P w K mg base 2 "_law_span_is" ["_law_span", "_law_stretches_here"] (spSpanIs K C_Span))
    (G_Span : MkH P w K mg base 3 C_Span [] (spPInit K C_Span)) (G_Span_or : EO.OpH P w K mg base 5 C_Span "__or__" (spBin K C_Span or)) (G_Span_xor : EO.OpH P w K mg base 5 C_Span "__xor__" (spBin K C_Span bne))
    (G_Span_ior : EO.OpH P w K mg base 4 C_Span "__ior__" (spIn K C_Span or)) (G_Span_iand : EO.OpH P w K mg base 4 C_Span "__iand__" (spIn K C_Span and)) (G_Span_isub : EO.OpH P w K mg base 6 C_Span "__isub__" (spIn K C_Span (fun a b => a && !b)))
    (G_Span_invert : EO.OpH P w K mg base 5 C_Span "__invert__" (spInv K C_Span)) :
    FnOk P w K mg base CX0 7 f fd ["_law_script"] (spLawH K) := by
  refine F.ok sc_law (fun vs H Q E h => ?_) (fun cdv A outer s H vs Q E hr h => ?_)
  · obtain ⟨a, ns, rfl, _⟩ := h
    rfl
  · obtain ⟨a, ns, rfl, hS, hn, k⟩ := h
    refine ⟨_, (pss_cons (ps_set (i := 1) sc_law.nd rfl (Or.inr rfl) (pe_has G_pen (hr.mono (by decide)) (pa_cons (pv 0) pa_nil)))
    (pss_cons (ps_set (i := 2) sc_law.nd rfl (Or.inr rfl) (pe_has G_lbase (hr.mono (by decide)) (pa_cons (pv 1) pa_nil)))
    (pss_cons (ps_setLc (i := 3) (own := [("_law_k", 15)]) (g := gName 15) (tt := tYes) (by rfl) sc_law.nd rfl rfl (sw_true rfl rfl rfl (by decide +kernel)) (pi_range1 (by rfl) T.range_ (pa_cons pe_int pa_nil)) (blkOk_by (own := [("_law_k", 15)]) (N := N_law) (sc := defScope s_law) (by decide +kernel)) (fun _ _ _ _ _ => (pg_name (i := 15) sc_law.nd rfl (by first | exact Or.inl rfl | exact Or.inr rfl))) (fun _ _ _ _ _ => pts_nil) (fun _ _ _ _ _ => (pe_has G_stretches (hr.mono (by decide)) (pa_cons (pv 1) (pa_cons (pv 2) pa_nil)))))
    (pss_cons (ps_par (i := 4) (j := 5) (by rfl) sc_law.nd rfl rfl (by decide) rfl rfl (pa_cons (pe_lc (own := [("_law_row", 16)]) (g := gName 16) (tt := tYes) (by rfl) sc_law.nd (pi_list (pv 3)) (blkOk_by (own := [("_law_row", 16)]) (N := N_law) (sc := defScope s_law) (by decide +kernel)) (fun _ _ _ _ _ => (pg_name (i := 16) sc_law.nd rfl (by first | exact Or.inl rfl | exact Or.inr rfl))) (fun _ _ _ _ _ => pts_nil) (fun _ _ _ _ _ => (pe_mkH G_Span (hr.mono (by decide)) (by rfl) g_Span (pa_cons (pv 16) pa_nil)))) (pa_cons (pe_lc (own := [("_law_row", 16)]) (g := gName 16) (tt := tYes) (by rfl) sc_law.nd (pi_list (pv 3)) (blkOk_by (own := [("_law_row", 16)]) (N := N_law) (sc := defScope s_law) (by decide +kernel)) (fun _ _ _ _ _ => (pg_name (i := 16) sc_law.nd rfl (by first | exact Or.inl rfl | exact Or.inr rfl))) (fun _ _ _ _ _ => pts_nil) (fun _ _ _ _ _ => (pe_has G_united (hr.mono (by decide)) (pa_cons (pv 16) pa_nil)))) pa_nil)) (by rfl))
    (pss_cons (ps_for PassesOwn.never rfl (pi_range1 (by rfl) T.range_ (pa_cons (pe_op op_add pe_int (pe_callB (call_min2 rfl) (by rfl) T.min_ (by decide +kernel) (pa_cons pe_int (pa_cons (pe_callB (show CallR _ _ (rLenQ K) from c_len) (by rfl) T.len_ (by decide +kernel) (pa_cons (pv 0) pa_nil)) pa_nil)))) pa_nil)) (pg_name (i := 6) sc_law.nd rfl (Or.inl rfl))
      (pss_cons (ps_par3 (i := 7) (j := 8) (l := 9) (by rfl) sc_law.nd rfl rfl rfl (by decide) (by decide) (by decide) rfl rfl rfl (pa_cons (pe_has G_draw (hr.mono (by decide)) (pa_cons (pv 1) (pa_cons (pe_callB (show CallR _ _ (rLenQ K) from c_len) (by rfl) T.len_ (by decide +kernel) (pa_cons (pv 4) pa_nil)) pa_nil))) (pa_cons (pe_has G_draw (hr.mono (by decide)) (pa_cons (pv 1) (pa_cons (pe_callB (show CallR _ _ (rLenQ K) from c_len) (by rfl) T.len_ (by decide +kernel) (pa_cons (pv 4) pa_nil)) pa_nil))) (pa_cons (pe_has G_draw (hr.mono (by decide)) (pa_cons (pv 1) (pa_cons pe_int pa_nil))) pa_nil))) (by rfl))
      (pss_cons (ps_par (i := 10) (j := 11) (by rfl) sc_law.nd rfl rfl (by decide) rfl rfl (pa_cons (pe_ix (show IxR _ (rIxL K) from ix_list) (pv 4) (pv 7) (fun _ _ => rfl)) (pa_cons (pe_ix (show IxR _ (rIxL K) from ix_list) (pv 4) (pv 8) (fun _ _ => rfl)) pa_nil)) (by rfl))
      (Evl.pss_cut (ps_if (pt_cmpR op_eq (pv 9) pe_int (nomark _))
        (pss_one (ps_aug (i := 10) sc_law.nd rfl (Or.inl rfl) (pv 11) (EO.op_in G_Span_ior sf_Span (hr.mono (by decide)))))
        pss_nil)
      (Evl.pss_cut (ps_if (pt_cmpR op_eq (pv 9) pe_int (nomark _))
        (pss_one (ps_aug (i := 10) sc_law.nd rfl (Or.inl rfl) (pv 11) (EO.op_in G_Span_iand sf_Span (hr.mono (by decide)))))
        pss_nil)
      (Evl.pss_cut (ps_if (pt_cmpR op_eq (pv 9) pe_int (nomark _))
        (pss_one (ps_aug (i := 10) sc_law.nd rfl (Or.inl rfl) (pv 11) (EO.op_in G_Span_isub sf_Span (hr.mono (by decide)))))
        pss_nil)
      (Evl.pss_cut (ps_if (pt_cmpR op_lt (pv 9) pe_int (nomark _))
        (pss_one (ps_asg (pe_has G_mixed (hr.mono (by decide)) (pa_cons (pe_ix (show IxR _ (rIxL K) from ix_list) (pv 5) (pv 7) (fun _ _ => rfl)) (pa_cons (pe_ix (show IxR _ (rIxL K) from ix_list) (pv 5) (pv 8) (fun _ _ => rfl)) (pa_cons (pv 9) pa_nil)))) (pg_sub (pv 5) (pv 7) set_list)))
        (pss_one (ps_if (pt_cmpR op_lt (pe_callB (show CallR _ _ (rLenQ K) from c_len) (by rfl) T.len_ (by decide +kernel) (pa_cons (pv 4) pa_nil)) pe_int (nomark _))
          (pss_cons (ps_set (i := 12) sc_law.nd rfl (Or.inl rfl) (pe_ifExp (pt_cmpR op_eq (pv 9) pe_int (nomark _)) (pe_op (EO.op_oo G_Span_or sf_Span (hr.mono (by decide))) (pv 10) (pv 11)) (pe_un (EO.un_oo (m := "__invert__") (by decide) rfl G_Span_invert (hr.mono (by decide))) (pe_op (EO.op_oo G_Span_xor sf_Span (hr.mono (by decide))) (pv 10) (pv 11)))))
          (pss_cons (ps_expr (pe_bm PySem.F.plainAttrs_list PySem.F.slot_list_append PySem.F.type_list_append mt_append (pv 4) (pa_cons (pv 12) pa_nil)))
          (pss_cons (ps_set (i := 13) sc_law.nd rfl (Or.inl rfl) (pe_has G_mixed (hr.mono (by decide)) (pa_cons (pe_ix (show IxR _ (rIxL K) from ix_list) (pv 5) (pv 7) (fun _ _ => rfl)) (pa_cons (pe_ix (show IxR _ (rIxL K) from ix_list) (pv 5) (pv 8) (fun _ _ => rfl)) (pa_cons (pe_ifExp (pt_cmpR op_eq (pv 9) pe_int (nomark _)) pe_int pe_int) pa_nil)))))
          (pss_one (ps_expr (pe_bm PySem.F.plainAttrs_list PySem.F.slot_list_append PySem.F.type_list_append mt_append (pv 5) (pa_cons (pe_ifExp (pt_cmpR op_eq (pv 9) pe_int (nomark _)) (pv 13) (pe_has G_mixed (hr.mono (by decide)) (pa_cons (pe_tup (pa_cons (pe_tup (pa_cons pe_int (pa_cons pe_non pa_nil))) pa_nil)) (pa_cons (pv 13) (pa_cons pe_int pa_nil))))) pa_nil)))))))
          pss_nil)))
      (pss_cons (ps_if (pt_not (pt_val (pe_has G_spanis (hr.mono (by decide)) (pa_cons (pv 10) (pa_cons (pe_ix (show IxR _ (rIxL K) from ix_list) (pv 5) (pv 7) (fun _ _ => rfl)) pa_nil)))))
        (pss_one (ps_ret pe_bl))
        pss_nil)
      (pss_one (ps_for PassesOwn.never rfl (pi_range1 (by rfl) T.range_ (pa_cons (pe_callB (show CallR _ _ (rLenQ K) from c_len) (by rfl) T.len_ (by decide +kernel) (pa_cons (pv 4) pa_nil)) pa_nil)) (pg_name (i := 14) sc_law.nd rfl (Or.inl rfl))
        (pss_one (ps_if (pt_not (pt_val (pe_has G_spanis (hr.mono (by decide)) (pa_cons (pe_ix (show IxR _ (rIxL K) from ix_list) (pv 4) (pv 14) (fun _ _ => rfl)) (pa_cons (pe_ix (show IxR _ (rIxL K) from ix_list) (pv 5) (pv 14) (fun _ _ => rfl)) pa_nil)))))
          (pss_one (ps_ret pe_bl))
          pss_nil))))))))))))
    (pss_one (ps_ret pe_bl))))))), ?_⟩
    refine ⟨_, rfl, a, ns, rfl, hS, hn, fun p c H1 s1 np nc P1 => ?_⟩
    refine ⟨_, rfl, p, c, ns, 0, rfl, P1, by decide, fun b H2 b0 P2 b2 => ?_⟩
    refine ⟨3, rfl, by omega, by omega, fun D hD => ?_⟩
    have nDp := P2.nep hD
    have nDc := P2.nec hD
    refine ZK.lc_growF 3 (small1000 (by omega)) (fun i acc H' => Pen H' p c ns (30 + 50 * i) ∧ But p H2 H' ∧ (∀ r : Addr, V.ref r ∈ acc → r ≠ D ∧ r ≠ p) ∧ acc.length = i ∧ ∃ Ss, RowA K H' acc Ss) ⟨(P2.new hD).more (by omega) (by omega), (But.refl _ _).new _ hD, (fun r hr => by cases hr), rfl, [], .nil⟩ (fun i acc H' hi hI => hi) (fun acc H' hI => Nat.le_refl _) ?_ ?_
    · rintro i H3 x H' acc hi ⟨P3, b3, nr, al, Ss, hA⟩ hacc hal ⟨rfl, rfl⟩ N hN
      refine ⟨rfl, yesT (iteT ?_)⟩
      refine ⟨_, rfl, _, rfl, p, c, ns, _, b, rfl, P3, by omega, b0, fun r xs S H4 hx hG lS P4 b4 nr4 hr4 => ?_⟩
      have hacc4 := b4 _ _ hacc nDp
      have rD : r ≠ D := fun e => by
        rw [e, hacc] at nr4
        cases nr4
      have rp : r ≠ p := fun e => by
        obtain ⟨_, _, z, _⟩ := P3.at_
        rw [e, z] at nr4
        cases nr4
      refine ⟨acc, hacc4, small1000 (by omega), hN _ (acc ++ [.ref r]) ⟨(P4.stay (upd_ne nDp.symm) (upd_ne nDc.symm)).more (by omega) (by omega), but_new (b3.trans b4) hD, fun r2 h2 => ?_, by rw [List.length_append, al]; rfl, Ss ++ [S], ?_⟩ upd_same (by rw [List.length_append]; exact Nat.succ_le_succ hal)⟩
      · rcases List.mem_append.mp h2 with h2 | h2
        · exact nr r2 h2
        · obtain rfl : r2 = r := V.ref.inj (List.mem_singleton.mp h2)
          exact ⟨rD, rp⟩
      · have q1 := hA.keep b4 (NoT.pen P3) fun r2 h2 => (nr r2 h2).2
        have q2 := q1.app (.cons ⟨r, xs, rfl, hr4, hx, hG, lS⟩ .nil)
        refine q2.keep ((But.refl D H4).upd _) (NoT.lst hacc4) fun r2 h2 => ?_
        rcases List.mem_append.mp h2 with h2 | h2
        · exact (nr r2 h2).1
        · obtain rfl : r2 = r := V.ref.inj (List.mem_singleton.mp h2)
          exact rD
    · rintro H3 acc ⟨P3, b3, nr, al, Ss, hA⟩ hacc hal
      have sl : Ss.length = 3 := hA.len.symm.trans al
      have few8 : ∀ S ∈ Ss, S.length ≤ 8 := fun S hS => by
        obtain ⟨i, hi⟩ := List.getElem?_of_mem hS
        have : i < acc.length := by rw [al, ← sl]; exact (List.getElem?_eq_some_iff.mp hi).1
        obtain ⟨S2, e2, _, _, _, _, _, _, q⟩ := hA.get (List.getElem?_eq_getElem this)
        rw [hi] at e2
        cases e2
        exact q
      have tl : (allP Ss).length < 64 := by have := allP_len few8; omega
      have t0 : (0 : Int) ∈ allP Ss := allP_mem (S := Ss[0]) (List.getElem_mem _) List.mem_cons_self
      have tS : ∀ {S : List MS.Str2}, S ∈ Ss → ∀ n ∈ seams S, n ∈ allP Ss := fun h n hn => allP_mem h hn
      generalize allP Ss = T0 at tl t0 tS
      refine ⟨_, rfl, D, rfl, ⟨_, SqL.of hacc⟩, fun l hl => ?_⟩
      refine ZK.lc_growF acc.length (small1000 (by omega)) (fun i acc2 H' => Same H3 H' ∧ ∃ ss : List Addr, acc2 = ss.map V.ref ∧ ss.length = i ∧ ss.Nodup ∧ SpF K C_Span T0 H' ss (fun k => MS.inL (Ss.getD k []))) ⟨same_new (Same.refl _) _ hl, [], rfl, rfl, List.nodup_nil, fun k s e => by simp at e⟩ (fun i acc2 H' hi hI => ⟨_, acc[i], hI.1.seq (SqL.of hacc), List.getElem?_eq_getElem hi⟩) (fun acc2 H' hI => ⟨_, hI.1.seq (SqL.of hacc), Nat.le_refl _⟩) ?_ ?_
      · rintro i H4 x H' acc2 hi ⟨s4, ss, rfl, sl2, nd, hF⟩ hacc4 hal4 ⟨rfl, hx⟩ N hN
        obtain ⟨S, hSi, r, xs, rfl, hr4, hxs, hG, lS⟩ := (hA.same s4).get (hx _ (s4.seq (SqL.of hacc)))
        refine ⟨rfl, yesT (iteT ?_)⟩
        refine ⟨_, rfl, fun z dz nz ndz nez => mkSpanL (SqL.of hr4) hxs hG (by omega) nz ndz nez fun R H5 s5 hz cR => ⟨rfl, ss.map V.ref, s5 _ _ hacc4, small1000 (by omega), ?_⟩⟩
        have hacc5 := s5 _ _ hacc4
        have hF5 := (hF.same s5).snoc hz (R := R) ⟨by rw [sl2, List.getD_eq_getElem?_getD, hSi]; exact cR, fun n hn => tS (List.mem_of_getElem? hSi) n (turns_seams n (by rw [sl2, List.getD_eq_getElem?_getD, hSi] at hn; exact hn))⟩
        refine hN _ _ ⟨same_but_new (s4.trans s5) hl, ss ++ [z], by rw [List.map_append]; rfl, by rw [List.length_append, sl2]; rfl, nodup_snoc nd (hF.new nz), hF5.keep ((But.refl l H5).upd _) (NoT.lst hacc5) (no_lst hacc5)⟩ upd_same (by rw [List.length_append]; exact Nat.succ_le_succ hal4)
      rintro H4 acc2 ⟨s4, ss, rfl, sl2, nd, hF⟩ hl4 _
      refine ⟨_, rfl, D, rfl, ⟨_, s4.seq (SqL.of hacc)⟩, fun o ho => ?_⟩
      refine ZK.lc_growF acc.length (small1000 (by omega)) (fun i acc2 H' => Same H4 H' ∧ ∃ ts : List Addr, acc2 = ts.map V.ref ∧ ts.length = i ∧ OwF K T0 H' ts (fun k => MS.inL (Ss.getD k []))) ⟨same_new (Same.refl _) _ ho, [], rfl, rfl, fun k s e => by simp at e⟩ (fun i acc2 H' hi hI => ⟨_, acc[i], hI.1.seq (s4.seq (SqL.of hacc)), List.getElem?_eq_getElem hi⟩) (fun acc2 H' hI => ⟨_, hI.1.seq (s4.seq (SqL.of hacc)), Nat.le_refl _⟩) ?_ ?_
      · rintro i H5 x H' acc2 hi ⟨s5, ts, rfl, tl2, hO⟩ hacc5 hal5 ⟨rfl, hx⟩ N hN
        obtain ⟨S, hSi, r, xs, rfl, hr5, hxs, hG, lS⟩ := (hA.same (s4.trans s5)).get (hx _ (s5.seq (s4.seq (SqL.of hacc))))
        refine ⟨rfl, yesT (iteT ?_)⟩
        refine ⟨_, rfl, r, xs, S, rfl, SqL.of hr5, hxs, hG, by omega, ⟨T0, tl, t0, fun k hk => tS (List.mem_of_getElem? hSi) k ((mem_seams S k).mpr (.inr hk))⟩, fun t ys R H6 s6 nt ht hR cR => ?_⟩
        have hacc6 := s6 _ _ hacc5
        have hO6 := (hO.same s6).snoc (SqT.of ht) hR ⟨by rw [tl2, List.getD_eq_getElem?_getD, hSi]; exact cR, fun n hn => tS (List.mem_of_getElem? hSi) n (turns_seams n (by rw [tl2, List.getD_eq_getElem?_getD, hSi] at hn; exact hn))⟩
        refine ⟨ts.map V.ref, hacc6, small1000 (by omega), hN _ _ ⟨same_but_new (s5.trans s6) ho, ts ++ [t], by rw [List.map_append]; rfl, by rw [List.length_append, tl2]; rfl, hO6.keep ((But.refl o H6).upd _) (NoT.lst hacc6)⟩ upd_same (by rw [List.length_append]; exact Nat.succ_le_succ hal5)⟩
      rintro H5 acc3 ⟨s5, ts, rfl, tl2, hO⟩ ho5 _
      have P5 : Pen H5 p c ns 180 := ((P3.same s4).same s5).more (by omega) (by omega)
      have lp : l ≠ p := P3.nep hl
      have op_ : o ≠ p := (P3.same s4).nep ho
      have lc : l ≠ c := P3.nec hl
      have oc : o ≠ c := (P3.same s4).nec ho
      have lo : l ≠ o := fun e => by
        rw [e, ho] at hl4
        cases hl4
      have S5 : SqL K H5 a (ns.map V.int) := s5.seq (s4.seq (P2.sqL b3 (P1.sqL b2 (s1.seq hS))))
      have len : ts.length = ss.length := tl2.trans sl2.symm
      have l3 : ss.length = 3 := sl2.trans al
      have hl5 := s5 _ _ hl4
      have hF5 := hF.same s5
      clear hF hl4 hA hacc P3 b3 P2 b2 P1 s1 hS s4 s5 nr few8 tS sl2 tl2
      generalize (fun k => MS.inL (Ss.getD k [])) = g0 at hF5 hO
      refine ⟨_, _, rfl, ?_⟩
      refine ⟨_, rfl, a, _, rfl, .inl S5, 9, _, rfl, 4, _, rfl, rfl, _, rfl, ?_, ?_, ?_⟩
      · split <;> omega
      · rw [List.length_map]
        split <;> omega
      have hm : (4 + if ((ns.map V.int).length : Int) < 9 then ((ns.map V.int).length : Int) else 9).toNat ≤ 13 := by split <;> omega
      generalize (4 + if ((ns.map V.int).length : Int) < 9 then ((ns.map V.int).length : Int) else 9).toNat = m at hm
      refine for_range (lo := 0) (n := m) (fun i σ H' => ∃ (ss ts : List Addr) (g : Nat → Int → Bool) (v6 v7 v8 v9 v10 v11 v12 v13 v14 : Option V), Pen H' p c ns (180 + 3 * i) ∧ H' l = some (.lst (ss.map V.ref)) ∧ H' o = some (.lst (ts.map V.ref)) ∧ ts.length = ss.length ∧ 3 ≤ ss.length ∧ ss.length ≤ 7 ∧ ss.Nodup ∧
        SpF K C_Span T0 H' ss g ∧ OwF K T0 H' ts g ∧ σ = [some (.ref a), some (.ref p), some (.int b), some (.ref D), some (.ref l), some (.ref o), v6, v7, v8, v9, v10, v11, v12, v13, v14, none, none]) ⟨ss, ts, g0, _, _, _, _, _, _, _, _, _, P5, hl5, ho5, len, by omega, by omega, nd, hF5, hO, rfl⟩ ?_ ?_
      · clear P5 hl5 ho5 len l3 nd hF5 hO S5 hl ho sl al
        rintro k2 σ H6 hk2 ⟨ss, ts, g, v6, v7, v8, v9, v10, v11, v12, v13, v14, P6, hl6, ho6, len, l3, l7, nd, hF, hO, rfl⟩
        refine ⟨_, rfl, _, rfl, l, _, rfl, .inl (SqL.of hl6), p, c, ns, _, _, rfl, P6, by omega, by rw [List.length_map]; omega, lit _ (by rw [List.length_map]; omega) (by rw [List.length_map]; omega), fun d1 H7 d10 d11 P7 b7 => ?_⟩
        have hl7 := b7 _ _ hl6 lp
        refine ⟨_, rfl, _, rfl, l, _, rfl, .inl (SqL.of hl7), p, c, ns, _, _, rfl, P7, by omega, by rw [List.length_map]; omega, lit _ (by rw [List.length_map]; omega) (by rw [List.length_map]; omega), fun d2 H8 d20 d21 P8 b8 => ?_⟩
        have hl8 := b8 _ _ hl7 lp
        refine ⟨_, rfl, p, c, ns, _, 5, rfl, P8, by omega, by decide, lit _ (by decide) (by decide), fun way H9 w0 w1 P9 b9 => ?_⟩
        have hl9 := b9 _ _ hl8 lp
        have b69 := (b7.trans b8).trans b9
        have ho9 := b69 _ _ ho6 op_
        have hF9 := hF.keep b69 (NoT.pen P6) (no_pen P6)
        have hO9 := hO.keep b69 (NoT.pen P6)
        clear hl6 hl7 hl8 ho6 hF hO b69 b7 b8 b9 P6 P7 P8
        rw [List.length_map] at d11 d21
        obtain ⟨i, rfl⟩ := Int.eq_ofNat_of_zero_le d10
        obtain ⟨j, rfl⟩ := Int.eq_ofNat_of_zero_le d20
        have hi : i < ss.length := by omega
        have hj : j < ss.length := by omega
        obtain ⟨s0, hs0⟩ := refs_some hi
        obtain ⟨u0, hu0⟩ := refs_some hj
        refine ⟨_, _, _, rfl, ?_⟩
        refine ⟨_, rfl, _, rfl, l, _, _, _, rfl, rfl, SqL.of hl9, atI_nat (refs_get hs0), _, rfl, _, rfl, l, _, _, _, rfl, rfl, SqL.of hl9, atI_nat (refs_get hu0), _, _, rfl, ?_⟩
        have w5 : way < 5 := w1
        replace hF9 : SpF K C_Span T0 H9 ss (hq g i j way false) := hF9
        refine ⟨LMid K C_Span T0 p c l o ns (180 + 3 * k2 + 3) ss ts g (hq g i j way (decide (way = 0))) [some (.ref a), some (.ref p), some (.int b), some (.ref D), some (.ref l), some (.ref o), some (.int (0 + (k2 : Int))), some (.int (i : Int)), some (.int (j : Int)), some (.int way), some (.ref s0), some (.ref u0), v12, v13, v14, none, none], ?_, ?_⟩
        · by_cases w0 : way = 0
          · refine ⟨_, rfl, rfl, true, congrArg V.bl (decide_eq_true (congrArg V.int w0)), iteT ?_⟩
            subst w0
            refine ⟨_, rfl, _, rfl, in_run (g := g) (hF9) nd hs0 hu0 tl fun H10 b10 e10 hF10 => LMid.put P9 hl9 ho9 hO9 b10 e10 (hF10.ext fun k _ => ?_)⟩
            show _ = hq g i j 0 _ k
            unfold hq
            rw [if_pos (by decide)]
            rfl
          · refine ⟨_, rfl, rfl, false, congrArg V.bl (decide_eq_false fun z => w0 (V.int.inj z)), iteF ?_⟩
            refine ⟨rfl, P9, hl9, ho9, ?_, hO9⟩
            have e : decide (way = 0) = false := by
              first
                | rfl
                | exact decide_eq_decide.mpr ⟨fun _ => by omega, fun _ => by omega⟩
                | exact decide_eq_false (by omega)
            rw [e]
            exact hF9
        clear P9 hl9 ho9 hF9 hO9 H9
        rintro _ H9 ⟨rfl, P9, hl9, ho9, hF9, hO9⟩
        refine ⟨LMid K C_Span T0 p c l o ns (180 + 3 * k2 + 3) ss ts g (hq g i j way (decide (way < 2))) [some (.ref a), some (.ref p), some (.int b), some (.ref D), some (.ref l), some (.ref o), some (.int (0 + (k2 : Int))), some (.int (i : Int)), some (.int (j : Int)), some (.int way), some (.ref s0), some (.ref u0), v12, v13, v14, none, none], ?_, ?_⟩
        · by_cases w1 : way = 1
          · refine ⟨_, rfl, rfl, true, congrArg V.bl (decide_eq_true (congrArg V.int w1)), iteT ?_⟩
            subst w1
            refine ⟨_, rfl, _, rfl, in_run (g := g) (hF9) nd hs0 hu0 tl fun H10 b10 e10 hF10 => LMid.put P9 hl9 ho9 hO9 b10 e10 (hF10.ext fun k _ => ?_)⟩
            show _ = hq g i j 1 _ k
            unfold hq
            rw [if_pos (by decide)]
            rfl
          · refine ⟨_, rfl, rfl, false, congrArg V.bl (decide_eq_false fun z => w1 (V.int.inj z)), iteF ?_⟩
            refine ⟨rfl, P9, hl9, ho9, ?_, hO9⟩
            have e : decide (way < 2) = decide (way = 0) := by
              first
                | rfl
                | exact decide_eq_decide.mpr ⟨fun _ => by omega, fun _ => by omega⟩
                | exact decide_eq_false (by omega)
            rw [e]
            exact hF9
        clear P9 hl9 ho9 hF9 hO9 H9
        rintro _ H9 ⟨rfl, P9, hl9, ho9, hF9, hO9⟩
        refine ⟨LMid K C_Span T0 p c l o ns (180 + 3 * k2 + 3) ss ts g (hq g i j way (decide (way < 3))) [some (.ref a), some (.ref p), some (.int b), some (.ref D), some (.ref l), some (.ref o), some (.int (0 + (k2 : Int))), some (.int (i : Int)), some (.int (j : Int)), some (.int way), some (.ref s0), some (.ref u0), v12, v13, v14, none, none], ?_, ?_⟩
        · by_cases w2 : way = 2
          · refine ⟨_, rfl, rfl, true, congrArg V.bl (decide_eq_true (congrArg V.int w2)), iteT ?_⟩
            subst w2
            refine ⟨_, rfl, _, rfl, in_run (g := g) (hF9) nd hs0 hu0 tl fun H10 b10 e10 hF10 => LMid.put P9 hl9 ho9 hO9 b10 e10 (hF10.ext fun k _ => ?_)⟩
            show _ = hq g i j 2 _ k
            unfold hq
            rw [if_pos (by decide)]
            rfl
          · refine ⟨_, rfl, rfl, false, congrArg V.bl (decide_eq_false fun z => w2 (V.int.inj z)), iteF ?_⟩
            refine ⟨rfl, P9, hl9, ho9, ?_, hO9⟩
            have e : decide (way < 3) = decide (way < 2) := by
              first
                | rfl
                | exact decide_eq_decide.mpr ⟨fun _ => by omega, fun _ => by omega⟩
                | exact decide_eq_false (by omega)
            rw [e]
            exact hF9
        clear P9 hl9 ho9 hF9 hO9 H9
        rintro _ H9 ⟨rfl, P9, hl9, ho9, hF9, hO9⟩
        have hlt : ts.length = ss.length := len
        obtain ⟨t0', ht0⟩ := refs_some (ss := ts) (i := i) (by omega)
        obtain ⟨r0', hr0⟩ := refs_some (ss := ts) (i := j) (by omega)
        obtain ⟨ysI, RI, i1, i2, i3⟩ := hO9 i t0' ht0
        obtain ⟨ysJ, RJ, j1, j2, j3⟩ := hO9 j r0' hr0
        refine ⟨fun σ' H' => ∃ (ss' ts' : List Addr) (g' : Nat → Int → Bool) (v12 v13 : Option V), σ' = [some (.ref a), some (.ref p), some (.int b), some (.ref D), some (.ref l), some (.ref o), some (.int (0 + (k2 : Int))), some (.int (i : Int)), some (.int (j : Int)), some (.int way), some (.ref s0), some (.ref u0), v12, v13, v14, none, none] ∧
          Pen H' p c ns (180 + 3 * k2 + 3) ∧ H' l = some (.lst (ss'.map V.ref)) ∧ H' o = some (.lst (ts'.map V.ref)) ∧ ts'.length = ss'.length ∧ 3 ≤ ss'.length ∧ ss'.length ≤ 7 ∧ ss'.Nodup ∧ SpF K C_Span T0 H' ss' g' ∧ OwF K T0 H' ts' g' ∧ ss'[i]? = some s0, ?_, ?_⟩
        · refine ⟨_, rfl, _, _, rfl, rfl, _, rfl, ?_⟩
          by_cases w3 : way < 3
          · rw [decide_eq_true w3]
            refine iteT ?_
            refine ⟨_, rfl, _, rfl, o, _, _, _, rfl, rfl, SqL.of ho9, atI_nat (refs_get ht0), _, rfl, _, rfl, o, _, _, _, rfl, rfl, SqL.of ho9, atI_nat (refs_get hr0), _, rfl, ?_⟩
            refine ⟨t0', r0', ysI, ysJ, RI, RJ, way, rfl, i1, j1, i2, j2, i3.can.good, j3.can.good, (by have := i3.len; omega), (by have := j3.len; omega), FewK.two i3 j3 t0 tl, fun q xs R H10 s10 nq hq1 hR cR => ?_⟩
            have tR := mix_told i3 j3 cR
            have ho10 := s10 _ _ ho9
            refine ⟨_, rfl, _, rfl, o, _, _, i, rfl, rfl, ho10, by rw [List.length_map]; exact Evl.ixN_nat (by omega), ?_⟩
            have bo : But o H10 (L2.upd H10 o (.lst ((ts.map V.ref).set i (.ref q)))) := (But.refl o H10).upd _
            have hF10 := (hF9.same s10).keep bo (NoT.lst ho10) (no_lst ho10)
            have hO10 := (((hO9.same s10).put (i := i) (by omega) (SqT.of hq1) hR tR).keep bo (NoT.lst ho10))
            have e3 : hq g i j way (decide (way < 3)) = setF g i (fun n => opw way (g i n) (g j n)) := by
              unfold hq
              rw [if_pos (decide_eq_true w3)]
            rw [e3] at hF10
            exact ⟨ss, ts.set i q, _, _, _, rfl, (P9.same s10).keep bo op_.symm oc.symm, by rw [upd_ne lo]; exact s10 _ _ hl9, by rw [upd_same, List.map_set], by rw [List.length_set]; exact len, l3, l7, nd, hF10, hO10, hs0⟩
          · rw [decide_eq_false w3]
            have e3 : hq g i j way (decide (way < 3)) = g := by
              unfold hq
              rw [decide_eq_false w3, if_neg (by decide)]
            rw [e3] at hF9
            refine iteF ?_
            refine ⟨_, rfl, l, _, rfl, .inl (SqL.of hl9), _, _, rfl, rfl, _, rfl, ?_⟩
            by_cases z7 : ((ss.map V.ref).length : Int) < 7
            · rw [decide_eq_true z7]
              rw [List.length_map] at z7
              refine iteT ?_
              by_cases w4 : way = 3
              · subst w4
                refine ⟨_, rfl, rfl, true, rfl, iteT ?_⟩
                refine ⟨_, rfl, _, rfl, bin_run hF9 hs0 hu0 tl fun z R H10 s10 nz hz tR => ?_⟩
                have hl10 := s10 _ _ hl9
                have zl : z ≠ l := (ne_of_none hl9 nz).symm
                refine ⟨_, rfl, .inl ⟨rfl, _, .inl (.inl hl10)⟩, _, rfl, l, _, _, rfl, rfl, hl10, small1000 (by rw [List.length_map]; omega), ?_⟩
                have b1 : But l H10 (L2.upd H10 l (.lst (ss.map V.ref ++ [V.ref z]))) := (But.refl l H10).upd _
                have hF11 := (hF9.same s10).keep b1 (NoT.lst hl10) (no_lst hl10)
                have hz11 := hz.keep b1 (NoT.lst hl10) zl
                have hO11 := (hO9.same s10).keep b1 (NoT.lst hl10)
                have P11 := (P9.same s10).keep b1 lp.symm lc.symm
                have ho11 := b1 _ _ (s10 _ _ ho9) lo.symm
                have hl11 : (L2.upd H10 l (.lst (ss.map V.ref ++ [V.ref z]))) l = some (.lst ((ss ++ [z]).map V.ref)) := by
                  rw [upd_same, List.map_append]
                  rfl
                have nd11 := nodup_snoc nd (hF9.new nz)
                clear b1 hl10 zl hz s10 nz hF9 hO9 P9 ho9 hl9 i1 i2 j1 j2
                generalize L2.upd H10 l (.lst (ss.map V.ref ++ [V.ref z])) = H11 at hF11 hz11 hO11 P11 ho11 hl11 ⊢
                obtain ⟨ysI, RI, i1, i2, i3⟩ := hO11 i t0' ht0
                obtain ⟨ysJ, RJ, j1, j2, j3⟩ := hO11 j r0' hr0
                refine ⟨_, rfl, _, rfl, o, _, _, _, rfl, rfl, SqL.of ho11, atI_nat (refs_get ht0), _, rfl, _, rfl, o, _, _, _, rfl, rfl, SqL.of ho11, atI_nat (refs_get hr0), _, rfl, rfl, true, rfl, iteT ?_⟩
                refine ⟨t0', r0', ysI, ysJ, RI, RJ, 0, rfl, i1, j1, i2, j2, i3.can.good, j3.can.good, (by have := i3.len; omega), (by have := j3.len; omega), FewK.two i3 j3 t0 tl, fun q xs R2 H12 s12 nq hq1 hR2 cR2 => ?_⟩
                have tR2 := mix_told i3 j3 cR2
                have ho12 := s12 _ _ ho11
                refine ⟨_, rfl, .inl ⟨rfl, _, .inl (.inl ho12)⟩, _, rfl, rfl, true, rfl, iteT ⟨_, rfl, o, _, _, rfl, rfl, ho12, small1000 (by rw [List.length_map]; omega), ?_⟩⟩
                have b2 : But o H12 (L2.upd H12 o (.lst (ts.map V.ref ++ [V.ref q]))) := (But.refl o H12).upd _
                have hF13 := (((hF11.ext fun k hk => (setF_ne g (fun n => or (g i n) (g j n)) (by omega : k ≠ ss.length)).symm).snoc hz11 (by rw [setF_at]; exact tR)).same s12).keep b2 (NoT.lst ho12) (no_lst ho12)
                have hO13 := (((hO11.ext fun k hk => (setF_ne g (fun n => or (g i n) (g j n)) (by omega : k ≠ ss.length)).symm).same s12).snoc (SqT.of hq1) hR2 (by rw [len, setF_at]; exact tR2.congr fun n => by simp [opw])).keep b2 (NoT.lst ho12)
                exact ⟨ss ++ [z], ts ++ [q], setF g ss.length (fun n => or (g i n) (g j n)), _, _, rfl, (P11.same s12).keep b2 op_.symm oc.symm, b2 _ _ (s12 _ _ hl11) lo, by rw [upd_same, List.map_append]; rfl, by rw [List.length_append, List.length_append, len]; rfl, by rw [List.length_append]; omega, by rw [List.length_append]; show ss.length + 1 ≤ 7; omega, nd11, hF13, hO13, by rw [List.getElem?_append_left hi]; exact hs0⟩
              · have w4' : way = 4 := by omega
                subst w4'
                refine ⟨_, rfl, rfl, false, rfl, iteF ?_⟩
                refine ⟨_, rfl, _, rfl, bin_run hF9 hs0 hu0 tl fun z0 R0 H10a s10a nz0 hz0 tR0 => inv_run hz0 tR0 t0 tl fun z R H10 s10b nzb hz tR => ?_⟩
                have s10 := s10a.trans s10b
                have nz := s10a.free nzb
                clear hz0 s10a s10b nz0 nzb
                have hl10 := s10 _ _ hl9
                have zl : z ≠ l := (ne_of_none hl9 nz).symm
                refine ⟨_, rfl, .inl ⟨rfl, _, .inl (.inl hl10)⟩, _, rfl, l, _, _, rfl, rfl, hl10, small1000 (by rw [List.length_map]; omega), ?_⟩
                have b1 : But l H10 (L2.upd H10 l (.lst (ss.map V.ref ++ [V.ref z]))) := (But.refl l H10).upd _
                have hF11 := (hF9.same s10).keep b1 (NoT.lst hl10) (no_lst hl10)
                have hz11 := hz.keep b1 (NoT.lst hl10) zl
                have hO11 := (hO9.same s10).keep b1 (NoT.lst hl10)
                have P11 := (P9.same s10).keep b1 lp.symm lc.symm
                have ho11 := b1 _ _ (s10 _ _ ho9) lo.symm
                have hl11 : (L2.upd H10 l (.lst (ss.map V.ref ++ [V.ref z]))) l = some (.lst ((ss ++ [z]).map V.ref)) := by
                  rw [upd_same, List.map_append]
                  rfl
                have nd11 := nodup_snoc nd (hF9.new nz)
                clear b1 hl10 zl hz s10 nz hF9 hO9 P9 ho9 hl9 i1 i2 j1 j2
                generalize L2.upd H10 l (.lst (ss.map V.ref ++ [V.ref z])) = H11 at hF11 hz11 hO11 P11 ho11 hl11 ⊢
                obtain ⟨ysI, RI, i1, i2, i3⟩ := hO11 i t0' ht0
                obtain ⟨ysJ, RJ, j1, j2, j3⟩ := hO11 j r0' hr0
                refine ⟨_, rfl, _, rfl, o, _, _, _, rfl, rfl, SqL.of ho11, atI_nat (refs_get ht0), _, rfl, _, rfl, o, _, _, _, rfl, rfl, SqL.of ho11, atI_nat (refs_get hr0), _, rfl, rfl, false, rfl, iteF ?_⟩
                refine ⟨t0', r0', ysI, ysJ, RI, RJ, 3, rfl, i1, j1, i2, j2, i3.can.good, j3.can.good, (by have := i3.len; omega), (by have := j3.len; omega), FewK.two i3 j3 t0 tl, fun q xs R2 H12 s12 nq hq1 hR2 cR2 => ?_⟩
                have tR2 := mix_told i3 j3 cR2
                have ho12 := s12 _ _ ho11
                refine ⟨_, rfl, .inl ⟨rfl, _, .inl (.inl ho12)⟩, _, rfl, rfl, false, rfl, iteF ?_⟩
                refine ⟨(by show 2 ≤ sizeLine; decide), fun t1 h1 => ⟨(by show 1 ≤ sizeLine; decide), fun t2 h2 => ?_⟩⟩
                have sa := same_new (Same.refl H12) (.tup [.int 0, .non]) h1
                have ea : (L2.upd H12 t1 (.tup [.int 0, .non])) t1 = some (.tup [.int 0, .non]) := upd_same
                generalize L2.upd H12 t1 (.tup [.int 0, .non]) = H12a at sa ea h2 ⊢
                have sb := same_new (Same.refl H12a) (.tup [.ref t1]) h2
                have eb : (L2.upd H12a t2 (.tup [.ref t1])) t2 = some (.tup [.ref t1]) := upd_same
                generalize L2.upd H12a t2 (.tup [.ref t1]) = H12b at sb eb ⊢
                have sab := sa.trans sb
                refine ⟨_, rfl, ?_⟩
                refine ⟨t2, q, _, xs, _, R2, 2, rfl, SqT.of eb, SqT.of (sab _ _ hq1), .cons ⟨t1, rfl, SqT.of (sb _ _ ea)⟩ .nil, hR2.same sab, (Told.all t0).can.good, tR2.can.good, (by decide), (by have := tR2.len; omega), FewK.two (Told.all t0) tR2 t0 tl, fun q2 xs2 R3 H13 s13 nq2 hq2 hR3 cR3 => ?_⟩
                have tR3 := mix_told (Told.all t0) tR2 cR3
                have ho13 := s13 _ _ (sab _ _ ho12)
                have s123 := (s12.trans sab).trans s13
                refine ⟨o, _, _, rfl, rfl, ho13, small1000 (by rw [List.length_map]; omega), ?_⟩
                have b2 : But o H13 (L2.upd H13 o (.lst (ts.map V.ref ++ [V.ref q2]))) := (But.refl o H13).upd _
                have hF13 := (((hF11.ext fun k hk => (setF_ne g (fun n => decide (0 ≤ n) && !(bne (g i n) (g j n))) (by omega : k ≠ ss.length)).symm).snoc hz11 (by rw [setF_at]; exact tR)).same s123).keep b2 (NoT.lst ho13) (no_lst ho13)
                have hO13 := (((hO11.ext fun k hk => (setF_ne g (fun n => decide (0 ≤ n) && !(bne (g i n) (g j n))) (by omega : k ≠ ss.length)).symm).same s123).snoc (SqT.of hq2) hR3 (by rw [len, setF_at]; exact tR3.congr fun n => by cases g i n <;> cases g j n <;> simp [opw])).keep b2 (NoT.lst ho13)
                exact ⟨ss ++ [z], ts ++ [q2], setF g ss.length (fun n => decide (0 ≤ n) && !(bne (g i n) (g j n))), _, _, rfl, (P11.same s123).keep b2 op_.symm oc.symm, b2 _ _ (s123 _ _ hl11) lo, by rw [upd_same, List.map_append]; rfl, by rw [List.length_append, List.length_append, len]; rfl, by rw [List.length_append]; omega, by rw [List.length_append]; show ss.length + 1 ≤ 7; omega, nd11, hF13, hO13, by rw [List.getElem?_append_left hi]; exact hs0⟩
            · rw [decide_eq_false z7]
              exact iteF ⟨ss, ts, g, _, _, rfl, P9, hl9, ho9, len, l3, l7, nd, hF9, hO9, hs0⟩
        · clear P9 hl9 ho9 hF9 hO9 i1 i2 j1 j2 hs0 hu0 ht0 hr0 len l3 l7 nd hlt hi hj
          rintro _ H10 ⟨ss, ts, g, v12, v13, rfl, P10, hl10, ho10, len, l3, l7, nd, hF, hO, hs0⟩
          have hi : i < ss.length := (List.getElem?_eq_some_iff.mp hs0).1
          obtain ⟨t1, ht1⟩ := refs_some (ss := ts) (i := i) (by omega)
          obtain ⟨ys, R, q1, q2, q3, q4⟩ := is_same hF hO tl hs0 ht1
          refine ⟨_, rfl, _, rfl, _, rfl, o, _, _, _, rfl, rfl, SqL.of ho10, atI_nat (refs_get ht1), s0, t1, ys, R, rfl, q1, q2, q3, q4, fun H11 s11 => ⟨true, rfl, iteF ?_⟩⟩
          have hl11 := s11 _ _ hl10
          refine ⟨_, rfl, l, _, rfl, .inl (SqL.of hl11), _, rfl, by omega, by rw [List.length_map]; omega, ?_⟩
          rw [List.length_map]
          refine for_range (lo := 0) (n := ((ss.length : Nat) : Int).toNat) (fun k σ H' => ∃ v14 : Option V, Same H10 H' ∧ σ = [some (.ref a), some (.ref p), some (.int b), some (.ref D), some (.ref l), some (.ref o), some (.int (0 + (k2 : Int))), some (.int (i : Int)), some (.int (j : Int)), some (.int way), some (.ref s0), some (.ref u0), v12, v13, v14, none, none]) ⟨_, s11, rfl⟩ ?_ ?_
          · rintro k σ H12 hk ⟨v14, s12, rfl⟩
            have hk2 : k < ss.length := by omega
            obtain ⟨sk, hsk⟩ := refs_some hk2
            obtain ⟨tk, htk⟩ := refs_some (ss := ts) (i := k) (by omega)
            obtain ⟨ys2, R2, r1, r2, r3, r4⟩ := is_same (hF.same s12) (hO.same s12) tl hsk htk
            refine ⟨_, rfl, _, rfl, l, _, _, _, rfl, rfl, SqL.of (s12 _ _ hl10), by rw [Int.zero_add]; exact atI_nat (refs_get hsk), _, rfl, _, rfl, o, _, _, _, rfl, rfl, SqL.of (s12 _ _ ho10), by rw [Int.zero_add]; exact atI_nat (refs_get htk), sk, tk, ys2, R2, rfl, r1, r2, r3, r4, fun H13 s13 => ⟨true, rfl, iteF ?_⟩⟩
            exact ⟨_, s12.trans s13, rfl⟩
          · rintro σ H12 ⟨v14, s12, rfl⟩
            exact ⟨ss, ts, g, _, _, _, _, _, _, _, _, _, (P10.same s12).more (by omega) (by omega), s12 _ _ hl10, s12 _ _ ho10, len, l3, l7, nd, hF.same s12, hO.same s12, rfl⟩
      · rintro σ H6 ⟨ss, ts, g, v6, v7, v8, v9, v10, v11, v12, v13, v14, _, _, _, _, _, _, _, _, _, rfl⟩
        exact k _
end
end EN

namespace EN
open PySem L2 PyProof.Rows
section
variable {P : Program} {w : World} {K : PySem.W.Frag} {mg : Str → Option Value} {base : Heap} {f : Addr} {fd : FuncData}
abbrev s_lwhole : Stmt := top 27
abbrev N_lwhole : List Str := ["_law_value"]
theorem sc_lwhole : FnScope N_lwhole ["_law_value"] (defScope s_lwhole) := ⟨rfl, rfl, rfl, by decide +kernel, rfl, by decide +kernel, by decide +kernel⟩

theorem ok_lwhole (F : Fun K "_law_whole" "_law_whole" s_lwhole f fd) (T : Blt mg) : FnOk P w K mg base CX0 1 f fd ["_law_value"] spWhole := by
  refine F.ok sc_lwhole (fun vs H Q E h => ?_) (fun cdv A outer s H vs Q E hr h => ?_)
  · obtain ⟨i, rfl, _⟩ := h
    rfl
  · obtain ⟨i, rfl, k⟩ := h
    refine ⟨_, (pss_one (ps_ret (pe_and (pe_callB (show CallR _ _ (rIsi K) from call_isi) (by rfl) T.isinstance_ (by decide +kernel) (pa_cons (pv 0) (pa_cons (pe_bltn (v := .ty "int") (u := .type "int") (by rfl) T.int_ (by decide +kernel) rfl) pa_nil))) (pe_one (pe_not (pe_callB (show CallR _ _ (rIsi K) from call_isi) (by rfl) T.isinstance_ (by decide +kernel) (pa_cons (pv 0) (pa_cons (pe_bltn (v := .ty "bool") (u := .type "bool") (by rfl) T.bool_ (by decide +kernel) rfl) pa_nil)))))))), ?_⟩
    refine ⟨_, rfl, .int i, .ty "int", .type "int", .type "int", true, rfl, .ty _, .base (.int _), kit_ty (by decide +kernel), true, rfl, iteT ?_⟩
    refine ⟨_, rfl, .int i, .ty "bool", .type "int", .type "bool", false, rfl, .ty _, .base (.int _), kit_ty (by decide +kernel), false, rfl, k⟩
end
end EN

namespace EN
open PySem L2 PyProof.Rows
section
variable {P : Program} {w : World} {K : PySem.W.Frag} {mg : Str → Option Value} {base : Heap} {f : Addr} {fd : FuncData}
abbrev s_great : Stmt := top 28
abbrev N_great : List Str := ["_law_pen_here", "_law_many", "_law_amount", "_law_size"]
theorem sc_great : FnScope N_great ["_law_pen_here", "_law_many"] (defScope s_great) := ⟨rfl, rfl, rfl, by decide +kernel, rfl, by decide +kernel, by decide +kernel⟩

theorem ok_great (F : Fun K "_law_great" "_law_great" s_great f fd) (T : Blt mg) (G_draw : Has P w K mg base 1 "_law_draw" ["_law_pen_here", "_law_many"] spDraw) : FnOk P w K mg base CX0 2 f fd ["_law_pen_here", "_law_many"] spGreat := by
  refine F.ok sc_great (fun vs H Q E h => ?_) (fun cdv A outer s H vs Q E hr h => ?_)
  · obtain ⟨p, c, ns, B, m, rfl, _⟩ := h
    rfl
  · obtain ⟨p, c, ns, B, m, rfl, hP, hB, hm, hs, k⟩ := h
    refine ⟨_, (pss_cons (ps_asg (pe_tup (pa_cons pe_int (pa_cons pe_int pa_nil))) (pg_tup rfl (pgs_cons (pg_name (i := 2) sc_great.nd rfl (Or.inl rfl)) (pgs_cons (pg_name (i := 3) sc_great.nd rfl (Or.inl rfl)) pgs_nil))))
    (pss_cons (ps_while PassesOwn.never (pt_cmpR op_lt (pv 3) (pv 1) (nomark _))
      (pss_one (ps_par (i := 2) (j := 3) (by rfl) sc_great.nd rfl rfl (by decide) rfl rfl (pa_cons (pe_op op_add (pe_op op_mulW (pv 2) (pe_op op_pow pe_int pe_int)) (pe_has G_draw (hr.mono (by decide)) (pa_cons (pv 0) (pa_cons (pe_op op_pow pe_int pe_int) pa_nil)))) (pa_cons (pe_op op_mulW (pv 3) (pe_op op_pow pe_int pe_int)) pa_nil)) (by rfl))))
    (pss_one (ps_ret (pe_op op_mod (pe_callTy call_int1 (by rfl) T.int_ (by decide +kernel) (pa_cons (pv 2) pa_nil)) (pv 1)))))), ?_⟩
    refine ⟨(by show 2 ≤ sizeLine; decide), fun t ht => ⟨t, _, rfl, SqT.of upd_same, rfl, _, _, rfl, _, _, rfl, rfl, ?_⟩⟩
    have hP0 : Pen (upd H t (.tup [.int 0, .int 1])) p c ns B := hP.new ht
    have hb0 : But p H (upd H t (.tup [.int 0, .int 1])) := (But.refl _ _).new _ ht
    generalize upd H t (.tup [.int 0, .int 1]) = H0 at hP0 hb0
    -- at most ten turns
    have lim : ∀ j : Nat, ((1000000000 ^ j : Nat) : Int) < m → j ≤ 10 := fun j h => by
      by_cases q : j ≤ 10
      · exact q
      · exfalso
        have h2 : 1000000000 ^ 11 ≤ 1000000000 ^ j := Nat.pow_le_pow_right (by decide) (by omega)
        have h5 : 2 ^ 300 ≤ 1000000000 ^ 11 := by decide +kernel
        have h6 : m.natAbs < 1000000000 ^ j := Nat.lt_of_lt_of_le hs (Nat.le_trans h5 h2)
        omega
    let W : Nat → L2.St → Hp → Prop := fun n σ H' => ∃ (i : Nat) (a z : Int), σ = [some (.ref p), some (.int m), some (.int a), some (.int z)] ∧ n = (m - z).toNat ∧ 0 ≤ a ∧ a < z ∧ z = ((1000000000 ^ i : Nat) : Int) ∧ (i = 0 ∨ ((1000000000 ^ (i - 1) : Nat) : Int) < m) ∧ Pen H' p c ns (B + i) ∧ But p H H'
    refine ⟨W, ⟨_, 0, 0, 1, rfl, rfl, by decide, by decide, rfl, .inl rfl, hP0, hb0⟩, ?_⟩
    rintro n σ H' ⟨i, a, z, rfl, rfl, ha, haz, hz, hi, hP', hb⟩
    refine ⟨_, rfl, _, rfl, _, _, rfl, rfl, _, rfl, ?_⟩
    refine ite2 (fun h1 => ?_) (fun h1 => ?_)
    · have h2 : z < m := of_decide_eq_true h1
      have hi10 := lim i (by rw [← hz]; exact h2)
      have sm : Sz 300 z := Nat.lt_of_le_of_lt (by omega : z.natAbs ≤ m.natAbs) hs
      have sa : Sz 300 a := Nat.lt_of_le_of_lt (by omega : a.natAbs ≤ m.natAbs) hs
      have s9 : Sz 30 ((10 : Int) ^ (9 : Int).toNat) := by unfold Sz; decide
      refine ⟨fun σ' H' => ∃ n', n' < (m - z).toNat ∧ W n' σ' H', fun σ' H' h => h, ?_⟩
      refine ⟨_, rfl, 10, 9, rfl, rfl, ⟨by decide, by decide, by decide⟩, _, _, rfl, rfl, sa.mulOk s9 (by decide), _, rfl, 10, 9, rfl, rfl, ⟨by decide, by decide, by decide⟩, ?_⟩
      refine ⟨p, c, ns, B + i, (10 : Int) ^ (9 : Int).toNat, rfl, hP', by omega, by decide, Nat.lt_of_lt_of_le s9 (Nat.pow_le_pow_right (by decide) (by decide)), fun d H1 d0 d1 P1 s1 => ?_⟩
      refine ⟨_, _, rfl, rfl, _, rfl, 10, 9, rfl, rfl, ⟨by decide, by decide, by decide⟩, _, _, rfl, rfl, sm.mulOk s9 (by decide), _, _, rfl, ?_⟩
      have e9 : (10 : Int) ^ (9 : Int).toNat = 1000000000 := by decide
      rw [e9] at d1 ⊢
      have zpos : 0 < z := by omega
      refine ⟨(m - z * 1000000000).toNat, by omega, i + 1, a * 1000000000 + d, z * 1000000000, rfl, rfl, by omega, by omega, ?_, .inr (by rw [Nat.add_sub_cancel, ← hz]; exact h2), P1, hb.trans s1⟩
      rw [Nat.pow_succ, hz]
      omega
    · refine ⟨_, rfl, .inl ⟨_, rfl, _, rfl, _, _, rfl, rfl, hm, ?_⟩⟩
      have hi20 : i ≤ 20 := by
        rcases hi with h | h
        · omega
        · have := lim _ h
          omega
      exact k _ _ (Int.emod_nonneg _ (by omega)) (Int.emod_lt_of_pos _ hm) (hP'.more (by omega) (by omega)) hb
end
end EN

namespace EN
open PySem L2 PyProof.Rows
section
variable {P : Program} {w : World} {K : PySem.W.Frag} {mg : Str → Option Value} {base : Heap} {f : Addr} {fd : FuncData}
abbrev s_is_whole : Stmt := top 6
abbrev N_is_whole : List Str := ["value"]
theorem sc_is_whole : FnScope N_is_whole ["value"] (defScope s_is_whole) := ⟨rfl, rfl, rfl, by decide +kernel, rfl, by decide +kernel, by decide +kernel⟩

theorem ok_is_whole (F : Fun K "is_whole" "is_whole" s_is_whole f fd) (T : Blt mg) : FnOk P w K mg base CX0 1 f fd ["value"] spIsWhole := by
  refine F.ok sc_is_whole (fun vs H Q E h => ?_) (fun cdv A outer s H vs Q E hr h => ?_)
  · obtain ⟨i, rfl, _⟩ := h
    rfl
  · obtain ⟨i, rfl, k⟩ := h
    refine ⟨_, (pss_one (ps_ret (pe_and (pe_callB (show CallR _ _ (rIsi K) from call_isi) (by rfl) T.isinstance_ (by decide +kernel) (pa_cons (pv 0) (pa_cons (pe_bltn (v := .ty "int") (u := .type "int") (by rfl) T.int_ (by decide +kernel) rfl) pa_nil))) (pe_one (pe_not (pe_callB (show CallR _ _ (rIsi K) from call_isi) (by rfl) T.isinstance_ (by decide +kernel) (pa_cons (pv 0) (pa_cons (pe_bltn (v := .ty "bool") (u := .type "bool") (by rfl) T.bool_ (by decide +kernel) rfl) pa_nil)))))))), ?_⟩
    refine ⟨_, rfl, .int i, .ty "int", .type "int", .type "int", true, rfl, .ty _, .base (.int _), kit_ty (by decide +kernel), true, rfl, iteT ?_⟩
    refine ⟨_, rfl, .int i, .ty "bool", .type "int", .type "bool", false, rfl, .ty _, .base (.int _), kit_ty (by decide +kernel), false, rfl, k⟩
end
end EN

namespace EN
open PySem L2 PyProof.Rows
section
variable {P : Program} {w : World} {K : PySem.W.Frag} {mg : Str → Option Value} {base : Heap} {f : Addr} {fd : FuncData}
theorem has_of {h : Heap} {x : Str} {st : Stmt} {k : Nat} {ps : List Str} {sp : Sp} (X : K.In h) (G : h.Ns mainGlobals mg) (F : Fun K x x st f fd) (a : PySem.W.nsIn K mainGlobals x = some (some (.ref f))) (ok : FnOk P w K mg base CX0 k f fd ps sp) (b : Binds K fd ps []) : Has P w K mg base k x ps sp := ⟨f, fd, ok, PySem.W.mg_of X G a, F.kp, b⟩
theorem rawN {k : Nat} {ps : List Str} {sp : Sp} (ok : FnOk P w K mg base CX0 k f fd ps sp) (b : Binds K fd ps []) : FnR P w K mg base CX0 k f sp := by
  have r := ok.raw b .nil
  refine FnR.imp r fun vs H Q E hs => ?_
  rw [List.append_nil]
  exact hs
end
section
theorem all_mk {l : PySem.W.OpenLaw} {w : World} {K : PySem.W.Frag} {h : Heap} {mg : Str → Option Value} {fa : Addr} (X : K.In h) (G : h.Ns mainGlobals mg) (hfa : mg "law" = some (.ref fa))
    {f_pen f_draw f_lwhole f_great f_lbase f_joined f_highs f_within f_points f_spread f_united f_spanis f_stretch f_stretches f_mixed f_is_whole f_is_stretch f_depth_changes f_paired f_covered f_either_of f_both_of f_one_of f_outside f_first_without f_pinit f_por f_pxor f_pior f_piand f_pisub f_pinvert f_law C_Span TI_pinit T0_pinit : Addr} {od_pen an_pen od_draw an_draw od_lwhole an_lwhole od_great an_great od_lbase an_lbase od_joined an_joined od_highs an_highs od_within an_within od_points an_points od_spread an_spread od_united an_united od_spanis an_spanis od_stretch an_stretch od_stretches an_stretches od_mixed an_mixed od_is_whole an_is_whole od_is_stretch an_is_stretch od_depth_changes an_depth_changes od_paired an_paired od_covered an_covered od_either_of an_either_of od_both_of an_both_of od_one_of an_one_of od_outside an_outside od_first_without an_first_without od_pinit an_pinit od_por an_por od_pxor an_pxor od_pior an_pior od_piand an_piand od_pisub an_pisub od_pinvert an_pinvert od_law an_law odTI_pinit odT0_pinit : Option Addr} {sl_pen sl_draw sl_lwhole sl_great sl_lbase sl_joined sl_highs sl_within sl_points sl_spread sl_united sl_spanis sl_stretch sl_stretches sl_mixed sl_is_whole sl_is_stretch sl_depth_changes sl_paired sl_covered sl_either_of sl_both_of sl_one_of sl_outside sl_first_without sl_pinit sl_por sl_pxor sl_pior sl_piand sl_pisub sl_pinvert sl_law slTI_pinit slT0_pinit : Array (Option Value)}
    {oc_pen kV_pen dc_pen pm_pen cd_pen ct_pen oc_draw kV_draw dc_draw pm_draw cd_draw ct_draw oc_lwhole kV_lwhole dc_lwhole pm_lwhole cd_lwhole ct_lwhole oc_great kV_great dc_great pm_great cd_great ct_great oc_lbase kV_lbase dc_lbase pm_lbase cd_lbase ct_lbase oc_joined kV_joined dc_joined pm_joined cd_joined ct_joined oc_highs kV_highs dc_highs pm_highs cd_highs ct_highs oc_within kV_within dc_within pm_within cd_within ct_within oc_points kV_points dc_points pm_points cd_points ct_points oc_spread kV_spread dc_spread pm_spread cd_spread ct_spread oc_united kV_united dc_united pm_united cd_united ct_united oc_spanis kV_spanis dc_spanis pm_spanis cd_spanis ct_spanis oc_stretch kV_stretch dc_stretch pm_stretch cd_stretch ct_stretch oc_stretches kV_stretches dc_stretches pm_stretches cd_stretches ct_stretches oc_mixed kV_mixed dc_mixed pm_mixed cd_mixed ct_mixed oc_is_whole kV_is_whole dc_is_whole pm_is_whole cd_is_whole ct_is_whole oc_is_stretch kV_is_stretch dc_is_stretch pm_is_stretch cd_is_stretch ct_is_stretch oc_depth_changes kV_depth_changes dc_depth_changes pm_depth_changes cd_depth_changes ct_depth_changes oc_paired kV_paired dc_paired pm_paired cd_paired ct_paired oc_covered kV_covered dc_covered pm_covered cd_covered ct_covered oc_either_of kV_either_of dc_either_of pm_either_of cd_either_of ct_either_of oc_both_of kV_both_of dc_both_of pm_both_of cd_both_of ct_both_of oc_one_of kV_one_of dc_one_of pm_one_of cd_one_of ct_one_of oc_outside kV_outside dc_outside pm_outside cd_outside ct_outside oc_first_without kV_first_without dc_first_without pm_first_without cd_first_without ct_first_without oc_pinit kV_pinit dc_pinit pm_pinit cd_pinit ct_pinit oc_por kV_por dc_por pm_por cd_por ct_por oc_pxor kV_pxor dc_pxor pm_pxor cd_pxor ct_pxor oc_pior kV_pior dc_pior pm_pior cd_pior ct_pior oc_piand kV_piand dc_piand pm_piand cd_piand ct_piand oc_pisub kV_pisub dc_pisub pm_pisub cd_pisub ct_pisub oc_pinvert kV_pinvert dc_pinvert pm_pinvert cd_pinvert ct_pinvert oc_law kV_law dc_law pm_law cd_law ct_law ocTI_pinit : Value} {nTI_pinit nT0_pinit : Nat}
    (aC_Span : PySem.W.nsIn K mainGlobals "Span" = some (some (.ref C_Span)))
    (pg_Span : PySem.W.plainGet K C_Span Str.empty = true)
    (hd_Span : PySem.W.hasDictIn K C_Span = true)
    (po_Span : PySem.W.plainOver K C_Span = true)
    (sa_Span : PySem.W.findIn K (.ref C_Span) "__setattr__" = some (some (.builtin "object.__setattr__")))
    (mk_Span : PySem.W.makesIn K C_Span = true)
    (kC_Span : PySem.W.keepIn K (.ref C_Span) = true)
    (nR_Span_stretches : PySem.W.findIn K (.ref C_Span) "stretches" = some none)
    (ha_Span : PySem.W.findIn K (.ref C_Span) "__class__" = some (some (.builtin "object.__class__")))
    (hn_Span : PySem.W.specialIn K (.builtin "object.__class__") "__get__" = some (some (.builtin "getset_descriptor.__get__")))
    (htk_Span : PySem.W.takesIn K (.builtin "object.__class__") = some true)
    (hm_Span : PySem.W.mroIn K C_Span (.type "object") = some true)
    (sf_Span : PySem.W.selfFirst K C_Span = true)
    (a_pen : PySem.W.nsIn K mainGlobals "_law_pen" = some (some (.ref f_pen)))
    (l_pen : K.lookup f_pen = some ⟨oc_pen, od_pen, .func (PySem.W.fnOf "_law_pen" "_law_pen" (defArgs s_pen) (defBody s_pen) (defScope s_pen) .none kV_pen dc_pen pm_pen an_pen cd_pen ct_pen), sl_pen⟩)
    (c_pen : PySem.W.codeIn K cd_pen "_law_pen" = true)
    (k_pen : PySem.W.keepIn K (.ref f_pen) = true)
    (a_draw : PySem.W.nsIn K mainGlobals "_law_draw" = some (some (.ref f_draw)))
    (l_draw : K.lookup f_draw = some ⟨oc_draw, od_draw, .func (PySem.W.fnOf "_law_draw" "_law_draw" (defArgs s_draw) (defBody s_draw) (defScope s_draw) .none kV_draw dc_draw pm_draw an_draw cd_draw ct_draw), sl_draw⟩)
    (c_draw : PySem.W.codeIn K cd_draw "_law_draw" = true)
    (k_draw : PySem.W.keepIn K (.ref f_draw) = true)
    (a_lwhole : PySem.W.nsIn K mainGlobals "_law_whole" = some (some (.ref f_lwhole)))
    (l_lwhole : K.lookup f_lwhole = some ⟨oc_lwhole, od_lwhole, .func (PySem.W.fnOf "_law_whole" "_law_whole" (defArgs s_lwhole) (defBody s_lwhole) (defScope s_lwhole) .none kV_lwhole dc_lwhole pm_lwhole an_lwhole cd_lwhole ct_lwhole), sl_lwhole⟩)
    (c_lwhole : PySem.W.codeIn K cd_lwhole "_law_whole" = true)
    (k_lwhole : PySem.W.keepIn K (.ref f_lwhole) = true)
    (a_great : PySem.W.nsIn K mainGlobals "_law_great" = some (some (.ref f_great)))
    (l_great : K.lookup f_great = some ⟨oc_great, od_great, .func (PySem.W.fnOf "_law_great" "_law_great" (defArgs s_great) (defBody s_great) (defScope s_great) .none kV_great dc_great pm_great an_great cd_great ct_great), sl_great⟩)
    (c_great : PySem.W.codeIn K cd_great "_law_great" = true)
    (k_great : PySem.W.keepIn K (.ref f_great) = true)
    (a_lbase : PySem.W.nsIn K mainGlobals "_law_base" = some (some (.ref f_lbase)))
    (l_lbase : K.lookup f_lbase = some ⟨oc_lbase, od_lbase, .func (PySem.W.fnOf "_law_base" "_law_base" (defArgs s_lbase) (defBody s_lbase) (defScope s_lbase) .none kV_lbase dc_lbase pm_lbase an_lbase cd_lbase ct_lbase), sl_lbase⟩)
    (c_lbase : PySem.W.codeIn K cd_lbase "_law_base" = true)
    (k_lbase : PySem.W.keepIn K (.ref f_lbase) = true)
    (a_joined : PySem.W.nsIn K mainGlobals "_law_joined" = some (some (.ref f_joined)))
    (l_joined : K.lookup f_joined = some ⟨oc_joined, od_joined, .func (PySem.W.fnOf "_law_joined" "_law_joined" (defArgs s_joined) (defBody s_joined) (defScope s_joined) .none kV_joined dc_joined pm_joined an_joined cd_joined ct_joined), sl_joined⟩)
    (c_joined : PySem.W.codeIn K cd_joined "_law_joined" = true)
    (k_joined : PySem.W.keepIn K (.ref f_joined) = true)
    (a_highs : PySem.W.nsIn K mainGlobals "_law_highs" = some (some (.ref f_highs)))
    (l_highs : K.lookup f_highs = some ⟨oc_highs, od_highs, .func (PySem.W.fnOf "_law_highs" "_law_highs" (defArgs s_highs) (defBody s_highs) (defScope s_highs) .none kV_highs dc_highs pm_highs an_highs cd_highs ct_highs), sl_highs⟩)
    (c_highs : PySem.W.codeIn K cd_highs "_law_highs" = true)
    (k_highs : PySem.W.keepIn K (.ref f_highs) = true)
    (a_within : PySem.W.nsIn K mainGlobals "_law_within" = some (some (.ref f_within)))
    (l_within : K.lookup f_within = some ⟨oc_within, od_within, .func (PySem.W.fnOf "_law_within" "_law_within" (defArgs s_within) (defBody s_within) (defScope s_within) .none kV_within dc_within pm_within an_within cd_within ct_within), sl_within⟩)
    (c_within : PySem.W.codeIn K cd_within "_law_within" = true)
    (k_within : PySem.W.keepIn K (.ref f_within) = true)
    (a_points : PySem.W.nsIn K mainGlobals "_law_points" = some (some (.ref f_points)))
    (l_points : K.lookup f_points = some ⟨oc_points, od_points, .func (PySem.W.fnOf "_law_points" "_law_points" (defArgs s_points) (defBody s_points) (defScope s_points) .none kV_points dc_points pm_points an_points cd_points ct_points), sl_points⟩)
    (c_points : PySem.W.codeIn K cd_points "_law_points" = true)
    (k_points : PySem.W.keepIn K (.ref f_points) = true)
    (a_spread : PySem.W.nsIn K mainGlobals "_law_spread" = some (some (.ref f_spread)))
    (l_spread : K.lookup f_spread = some ⟨oc_spread, od_spread, .func (PySem.W.fnOf "_law_spread" "_law_spread" (defArgs s_spread) (defBody s_spread) (defScope s_spread) .none kV_spread dc_spread pm_spread an_spread cd_spread ct_spread), sl_spread⟩)
    (c_spread : PySem.W.codeIn K cd_spread "_law_spread" = true)
    (k_spread : PySem.W.keepIn K (.ref f_spread) = true)
    (a_united : PySem.W.nsIn K mainGlobals "_law_united" = some (some (.ref f_united)))
    (l_united : K.lookup f_united = some ⟨oc_united, od_united, .func (PySem.W.fnOf "_law_united" "_law_united" (defArgs s_united) (defBody s_united) (defScope s_united) .none kV_united dc_united pm_united an_united cd_united ct_united), sl_united⟩)
    (c_united : PySem.W.codeIn K cd_united "_law_united" = true)
    (k_united : PySem.W.keepIn K (.ref f_united) = true)
    (a_spanis : PySem.W.nsIn K mainGlobals "_law_span_is" = some (some (.ref f_spanis)))
    (l_spanis : K.lookup f_spanis = some ⟨oc_spanis, od_spanis, .func (PySem.W.fnOf "_law_span_is" "_law_span_is" (defArgs s_spanis) (defBody s_spanis) (defScope s_spanis) .none kV_spanis dc_spanis pm_spanis an_spanis cd_spanis ct_spanis), sl_spanis⟩)
    (c_spanis : PySem.W.codeIn K cd_spanis "_law_span_is" = true)
    (k_spanis : PySem.W.keepIn K (.ref f_spanis) = true)
    (a_stretch : PySem.W.nsIn K mainGlobals "_law_stretch" = some (some (.ref f_stretch)))
    (l_stretch : K.lookup f_stretch = some ⟨oc_stretch, od_stretch, .func (PySem.W.fnOf "_law_stretch" "_law_stretch" (defArgs s_stretch) (defBody s_stretch) (defScope s_stretch) .none kV_stretch dc_stretch pm_stretch an_stretch cd_stretch ct_stretch), sl_stretch⟩)
    (c_stretch : PySem.W.codeIn K cd_stretch "_law_stretch" = true)
    (k_stretch : PySem.W.keepIn K (.ref f_stretch) = true)
    (a_stretches : PySem.W.nsIn K mainGlobals "_law_stretches" = some (some (.ref f_stretches)))
    (l_stretches : K.lookup f_stretches = some ⟨oc_stretches, od_stretches, .func (PySem.W.fnOf "_law_stretches" "_law_stretches" (defArgs s_stretches) (defBody s_stretches) (defScope s_stretches) .none kV_stretches dc_stretches pm_stretches an_stretches cd_stretches ct_stretches), sl_stretches⟩)
    (c_stretches : PySem.W.codeIn K cd_stretches "_law_stretches" = true)
    (k_stretches : PySem.W.keepIn K (.ref f_stretches) = true)
    (a_mixed : PySem.W.nsIn K mainGlobals "_law_mixed_up" = some (some (.ref f_mixed)))
    (l_mixed : K.lookup f_mixed = some ⟨oc_mixed, od_mixed, .func (PySem.W.fnOf "_law_mixed_up" "_law_mixed_up" (defArgs s_mixed) (defBody s_mixed) (defScope s_mixed) .none kV_mixed dc_mixed pm_mixed an_mixed cd_mixed ct_mixed), sl_mixed⟩)
    (c_mixed : PySem.W.codeIn K cd_mixed "_law_mixed_up" = true)
    (k_mixed : PySem.W.keepIn K (.ref f_mixed) = true)
    (a_is_whole : PySem.W.nsIn K mainGlobals "is_whole" = some (some (.ref f_is_whole)))
    (l_is_whole : K.lookup f_is_whole = some ⟨oc_is_whole, od_is_whole, .func (PySem.W.fnOf "is_whole" "is_whole" (defArgs s_is_whole) (defBody s_is_whole) (defScope s_is_whole) .none kV_is_whole dc_is_whole pm_is_whole an_is_whole cd_is_whole ct_is_whole), sl_is_whole⟩)
    (c_is_whole : PySem.W.codeIn K cd_is_whole "is_whole" = true)
    (k_is_whole : PySem.W.keepIn K (.ref f_is_whole) = true)
    (a_is_stretch : PySem.W.nsIn K mainGlobals "is_stretch" = some (some (.ref f_is_stretch)))
    (l_is_stretch : K.lookup f_is_stretch = some ⟨oc_is_stretch, od_is_stretch, .func (PySem.W.fnOf "is_stretch" "is_stretch" (defArgs s_is_stretch) (defBody s_is_stretch) (defScope s_is_stretch) .none kV_is_stretch dc_is_stretch pm_is_stretch an_is_stretch cd_is_stretch ct_is_stretch), sl_is_stretch⟩)
    (c_is_stretch : PySem.W.codeIn K cd_is_stretch "is_stretch" = true)
    (k_is_stretch : PySem.W.keepIn K (.ref f_is_stretch) = true)
    (a_depth_changes : PySem.W.nsIn K mainGlobals "depth_changes" = some (some (.ref f_depth_changes)))
    (l_depth_changes : K.lookup f_depth_changes = some ⟨oc_depth_changes, od_depth_changes, .func (PySem.W.fnOf "depth_changes" "depth_changes" (defArgs s_depth_changes) (defBody s_depth_changes) (defScope s_depth_changes) .none kV_depth_changes dc_depth_changes pm_depth_changes an_depth_changes cd_depth_changes ct_depth_changes), sl_depth_changes⟩)
    (c_depth_changes : PySem.W.codeIn K cd_depth_changes "depth_changes" = true)
    (k_depth_changes : PySem.W.keepIn K (.ref f_depth_changes) = true)
    (a_paired : PySem.W.nsIn K mainGlobals "paired" = some (some (.ref f_paired)))
    (l_paired : K.lookup f_paired = some ⟨oc_paired, od_paired, .func (PySem.W.fnOf "paired" "paired" (defArgs s_paired) (defBody s_paired) (defScope s_paired) .none kV_paired dc_paired pm_paired an_paired cd_paired ct_paired), sl_paired⟩)
    (c_paired : PySem.W.codeIn K cd_paired "paired" = true)
    (k_paired : PySem.W.keepIn K (.ref f_paired) = true)
    (a_covered : PySem.W.nsIn K mainGlobals "covered" = some (some (.ref f_covered)))
    (l_covered : K.lookup f_covered = some ⟨oc_covered, od_covered, .func (PySem.W.fnOf "covered" "covered" (defArgs s_covered) (defBody s_covered) (defScope s_covered) .none kV_covered dc_covered pm_covered an_covered cd_covered ct_covered), sl_covered⟩)
    (c_covered : PySem.W.codeIn K cd_covered "covered" = true)
    (k_covered : PySem.W.keepIn K (.ref f_covered) = true)
    (a_either_of : PySem.W.nsIn K mainGlobals "either_of" = some (some (.ref f_either_of)))
    (l_either_of : K.lookup f_either_of = some ⟨oc_either_of, od_either_of, .func (PySem.W.fnOf "either_of" "either_of" (defArgs s_either_of) (defBody s_either_of) (defScope s_either_of) .none kV_either_of dc_either_of pm_either_of an_either_of cd_either_of ct_either_of), sl_either_of⟩)
    (c_either_of : PySem.W.codeIn K cd_either_of "either_of" = true)
    (k_either_of : PySem.W.keepIn K (.ref f_either_of) = true)
    (a_both_of : PySem.W.nsIn K mainGlobals "both_of" = some (some (.ref f_both_of)))
    (l_both_of : K.lookup f_both_of = some ⟨oc_both_of, od_both_of, .func (PySem.W.fnOf "both_of" "both_of" (defArgs s_both_of) (defBody s_both_of) (defScope s_both_of) .none kV_both_of dc_both_of pm_both_of an_both_of cd_both_of ct_both_of), sl_both_of⟩)
    (c_both_of : PySem.W.codeIn K cd_both_of "both_of" = true)
    (k_both_of : PySem.W.keepIn K (.ref f_both_of) = true)
    (a_one_of : PySem.W.nsIn K mainGlobals "one_of" = some (some (.ref f_one_of)))
    (l_one_of : K.lookup f_one_of = some ⟨oc_one_of, od_one_of, .func (PySem.W.fnOf "one_of" "one_of" (defArgs s_one_of) (defBody s_one_of) (defScope s_one_of) .none kV_one_of dc_one_of pm_one_of an_one_of cd_one_of ct_one_of), sl_one_of⟩)
    (c_one_of : PySem.W.codeIn K cd_one_of "one_of" = true)
    (k_one_of : PySem.W.keepIn K (.ref f_one_of) = true)
    (a_outside : PySem.W.nsIn K mainGlobals "outside" = some (some (.ref f_outside)))
    (l_outside : K.lookup f_outside = some ⟨oc_outside, od_outside, .func (PySem.W.fnOf "outside" "outside" (defArgs s_outside) (defBody s_outside) (defScope s_outside) .none kV_outside dc_outside pm_outside an_outside cd_outside ct_outside), sl_outside⟩)
    (c_outside : PySem.W.codeIn K cd_outside "outside" = true)
    (k_outside : PySem.W.keepIn K (.ref f_outside) = true)
    (a_first_without : PySem.W.nsIn K mainGlobals "first_without" = some (some (.ref f_first_without)))
    (l_first_without : K.lookup f_first_without = some ⟨oc_first_without, od_first_without, .func (PySem.W.fnOf "first_without" "first_without" (defArgs s_first_without) (defBody s_first_without) (defScope s_first_without) .none kV_first_without dc_first_without pm_first_without an_first_without cd_first_without ct_first_without), sl_first_without⟩)
    (c_first_without : PySem.W.codeIn K cd_first_without "first_without" = true)
    (k_first_without : PySem.W.keepIn K (.ref f_first_without) = true)
    (a_pinit : PySem.W.findIn K (.ref C_Span) "__init__" = some (some (.ref f_pinit)))
    (i_pinit : PySem.W.isFn K (.ref f_pinit) = true)
    (l_pinit : K.lookup f_pinit = some ⟨oc_pinit, od_pinit, .func (PySem.W.fnOf "__init__" "Span.__init__" (defArgs s_pinit) (defBody s_pinit) (defScope s_pinit) (.ref TI_pinit) kV_pinit dc_pinit pm_pinit an_pinit cd_pinit ct_pinit), sl_pinit⟩)
    (c_pinit : PySem.W.codeIn K cd_pinit "Span.__init__" = true)
    (k_pinit : PySem.W.keepIn K (.ref f_pinit) = true)
    (lTI_pinit : K.lookup TI_pinit = some ⟨ocTI_pinit, odTI_pinit, .seq #[.ref T0_pinit] nTI_pinit, slTI_pinit⟩)
    (lT0_pinit : K.lookup T0_pinit = some ⟨.type "tuple", odT0_pinit, .seq #[] nT0_pinit, slT0_pinit⟩)
    (a_por : PySem.W.findIn K (.ref C_Span) "__or__" = some (some (.ref f_por)))
    (i_por : PySem.W.isFn K (.ref f_por) = true)
    (l_por : K.lookup f_por = some ⟨oc_por, od_por, .func (PySem.W.fnOf "__or__" "Span.__or__" (defArgs s_por) (defBody s_por) (defScope s_por) .none kV_por dc_por pm_por an_por cd_por ct_por), sl_por⟩)
    (c_por : PySem.W.codeIn K cd_por "Span.__or__" = true)
    (k_por : PySem.W.keepIn K (.ref f_por) = true)
    (a_pxor : PySem.W.findIn K (.ref C_Span) "__xor__" = some (some (.ref f_pxor)))
    (i_pxor : PySem.W.isFn K (.ref f_pxor) = true)
    (l_pxor : K.lookup f_pxor = some ⟨oc_pxor, od_pxor, .func (PySem.W.fnOf "__xor__" "Span.__xor__" (defArgs s_pxor) (defBody s_pxor) (defScope s_pxor) .none kV_pxor dc_pxor pm_pxor an_pxor cd_pxor ct_pxor), sl_pxor⟩)
    (c_pxor : PySem.W.codeIn K cd_pxor "Span.__xor__" = true)
    (k_pxor : PySem.W.keepIn K (.ref f_pxor) = true)
    (a_pior : PySem.W.findIn K (.ref C_Span) "__ior__" = some (some (.ref f_pior)))
    (i_pior : PySem.W.isFn K (.ref f_pior) = true)
    (l_pior : K.lookup f_pior = some ⟨oc_pior, od_pior, .func (PySem.W.fnOf "__ior__" "Span.__ior__" (defArgs s_pior) (defBody s_pior) (defScope s_pior) .none kV_pior dc_pior pm_pior an_pior cd_pior ct_pior), sl_pior⟩)
    (c_pior : PySem.W.codeIn K cd_pior "Span.__ior__" = true)
    (k_pior : PySem.W.keepIn K (.ref f_pior) = true)
    (a_piand : PySem.W.findIn K (.ref C_Span) "__iand__" = some (some (.ref f_piand)))
    (i_piand : PySem.W.isFn K (.ref f_piand) = true)
    (l_piand : K.lookup f_piand = some ⟨oc_piand, od_piand, .func (PySem.W.fnOf "__iand__" "Span.__iand__" (defArgs s_piand) (defBody s_piand) (defScope s_piand) .none kV_piand dc_piand pm_piand an_piand cd_piand ct_piand), sl_piand⟩)
    (c_piand : PySem.W.codeIn K cd_piand "Span.__iand__" = true)
    (k_piand : PySem.W.keepIn K (.ref f_piand) = true)
    (a_pisub : PySem.W.findIn K (.ref C_Span) "__isub__" = some (some (.ref f_pisub)))
    (i_pisub : PySem.W.isFn K (.ref f_pisub) = true)
    (l_pisub : K.lookup f_pisub = some ⟨oc_pisub, od_pisub, .func (PySem.W.fnOf "__isub__" "Span.__isub__" (defArgs s_pisub) (defBody s_pisub) (defScope s_pisub) .none kV_pisub dc_pisub pm_pisub an_pisub cd_pisub ct_pisub), sl_pisub⟩)
    (c_pisub : PySem.W.codeIn K cd_pisub "Span.__isub__" = true)
    (k_pisub : PySem.W.keepIn K (.ref f_pisub) = true)
    (a_pinvert : PySem.W.findIn K (.ref C_Span) "__invert__" = some (some (.ref f_pinvert)))
    (i_pinvert : PySem.W.isFn K (.ref f_pinvert) = true)
    (l_pinvert : K.lookup f_pinvert = some ⟨oc_pinvert, od_pinvert, .func (PySem.W.fnOf "__invert__" "Span.__invert__" (defArgs s_pinvert) (defBody s_pinvert) (defScope s_pinvert) .none kV_pinvert dc_pinvert pm_pinvert an_pinvert cd_pinvert ct_pinvert), sl_pinvert⟩)
    (c_pinvert : PySem.W.codeIn K cd_pinvert "Span.__invert__" = true)
    (k_pinvert : PySem.W.keepIn K (.ref f_pinvert) = true)
    (a_law : PySem.W.nsIn K mainGlobals "law" = some (some (.ref f_law)))
    (l_law : K.lookup f_law = some ⟨oc_law, od_law, .func (PySem.W.fnOf "law" "law" (defArgs s_law) (defBody s_law) (defScope s_law) .none kV_law dc_law pm_law an_law cd_law ct_law), sl_law⟩)
    (c_law : PySem.W.codeIn K cd_law "law" = true)
    (k_law : PySem.W.keepIn K (.ref f_law) = true)
    (z_list : PySem.W.nsIn K mainGlobals "list" = some none)
    (z_len : PySem.W.nsIn K mainGlobals "len" = some none)
    (z_int : PySem.W.nsIn K mainGlobals "int" = some none)
    (z_abs : PySem.W.nsIn K mainGlobals "abs" = some none)
    (z_range : PySem.W.nsIn K mainGlobals "range" = some none)
    (z_tuple : PySem.W.nsIn K mainGlobals "tuple" = some none)
    (z_isinstance : PySem.W.nsIn K mainGlobals "isinstance" = some none)
    (z_bool : PySem.W.nsIn K mainGlobals "bool" = some none)
    (z_all : PySem.W.nsIn K mainGlobals "all" = some none)
    (z_sum : PySem.W.nsIn K mainGlobals "sum" = some none)
    (z_zip : PySem.W.nsIn K mainGlobals "zip" = some none)
    (z_min : PySem.W.nsIn K mainGlobals "min" = some none)
    (z_sorted : PySem.W.nsIn K mainGlobals "sorted" = some none)
    (z_any : PySem.W.nsIn K mainGlobals "any" = some none)
    (z_set : PySem.W.nsIn K mainGlobals "set" = some none)
    (z_max : PySem.W.nsIn K mainGlobals "max" = some none)
    (z_str : PySem.W.nsIn K mainGlobals "str" = some none)
    (z_enumerate : PySem.W.nsIn K mainGlobals "enumerate" = some none)
    (z_reversed : PySem.W.nsIn K mainGlobals "reversed" = some none)
    (z_dict : PySem.W.nsIn K mainGlobals "dict" = some none)
    : ∃ fd : FuncData, (∀ (s : Shared) (v : Value), BindsTo s fd ⟨[v], []⟩ [("_law_script", v)]) ∧ ∀ base : Heap, K.In base → base.Ns mainGlobals mg → FnOk l.prog w K mg base CX0 7 fa fd ["_law_script"] (spLawH K) := by
  have e := hfa.symm.trans (PySem.W.mg_of X G a_law)
  cases e
  have T : Blt mg := ⟨PySem.W.mg_none_of X G z_list, PySem.W.mg_none_of X G z_len, PySem.W.mg_none_of X G z_int, PySem.W.mg_none_of X G z_abs, PySem.W.mg_none_of X G z_range, PySem.W.mg_none_of X G z_tuple, PySem.W.mg_none_of X G z_isinstance, PySem.W.mg_none_of X G z_bool, PySem.W.mg_none_of X G z_all, PySem.W.mg_none_of X G z_sum, PySem.W.mg_none_of X G z_zip, PySem.W.mg_none_of X G z_min, PySem.W.mg_none_of X G z_sorted, PySem.W.mg_none_of X G z_any, PySem.W.mg_none_of X G z_set, PySem.W.mg_none_of X G z_max, PySem.W.mg_none_of X G z_str, PySem.W.mg_none_of X G z_enumerate, PySem.W.mg_none_of X G z_reversed, PySem.W.mg_none_of X G z_dict⟩
  have g_Span := PySem.W.mg_of X G aC_Span
  have cl_Span : Cls K C_Span := ⟨pg_Span, hd_Span, po_Span, sa_Span⟩
  have o_Span : OwnC K C_Span := ⟨cl_Span, ha_Span, hn_Span, htk_Span, hm_Span, by unfold PySem.W.kitOne; exact if_pos (by simp)⟩
  have F_pen := fun_mk (st := s_pen) l_pen c_pen k_pen
  have b_pen := F_pen.binds (ps := ["_law_script"]) fun _ _ _ _ _ _ us hl => match us, hl with | [_], _ => rfl
  have F_draw := fun_mk (st := s_draw) l_draw c_draw k_draw
  have b_draw := F_draw.binds (ps := ["_law_pen_here", "_law_many"]) fun _ _ _ _ _ _ us hl => match us, hl with | [_, _], _ => rfl
  have F_lwhole := fun_mk (st := s_lwhole) l_lwhole c_lwhole k_lwhole
  have b_lwhole := F_lwhole.binds (ps := ["_law_value"]) fun _ _ _ _ _ _ us hl => match us, hl with | [_], _ => rfl
  have F_great := fun_mk (st := s_great) l_great c_great k_great
  have b_great := F_great.binds (ps := ["_law_pen_here", "_law_many"]) fun _ _ _ _ _ _ us hl => match us, hl with | [_, _], _ => rfl
  have F_lbase := fun_mk (st := s_lbase) l_lbase c_lbase k_lbase
  have b_lbase := F_lbase.binds (ps := ["_law_pen_here"]) fun _ _ _ _ _ _ us hl => match us, hl with | [_], _ => rfl
  have F_joined := fun_mk (st := s_joined) l_joined c_joined k_joined
  have b_joined := F_joined.binds (ps := ["_law_parts"]) fun _ _ _ _ _ _ us hl => match us, hl with | [_], _ => rfl
  have F_highs := fun_mk (st := s_highs) l_highs c_highs k_highs
  have b_highs := F_highs.binds (ps := ["_law_lows"]) fun _ _ _ _ _ _ us hl => match us, hl with | [_], _ => rfl
  have F_within := fun_mk (st := s_within) l_within c_within k_within
  have b_within := F_within.binds (ps := ["_law_stretches_here", "_law_n"]) fun _ _ _ _ _ _ us hl => match us, hl with | [_, _], _ => rfl
  have F_points := fun_mk (st := s_points) l_points c_points k_points
  have b_points := F_points.binds (ps := ["_law_stretches_here"]) fun _ _ _ _ _ _ us hl => match us, hl with | [_], _ => rfl
  have F_spread := fun_mk (st := s_spread) l_spread c_spread k_spread
  have b_spread := F_spread.binds (ps := ["_law_points_here", "_law_inside"]) fun _ _ _ _ _ _ us hl => match us, hl with | [_, _], _ => rfl
  have F_united := fun_mk (st := s_united) l_united c_united k_united
  have b_united := F_united.binds (ps := ["_law_stretches_here"]) fun _ _ _ _ _ _ us hl => match us, hl with | [_], _ => rfl
  have F_spanis := fun_mk (st := s_spanis) l_spanis c_spanis k_spanis
  have b_spanis := F_spanis.binds (ps := ["_law_span", "_law_stretches_here"]) fun _ _ _ _ _ _ us hl => match us, hl with | [_, _], _ => rfl
  have F_stretch := fun_mk (st := s_stretch) l_stretch c_stretch k_stretch
  have b_stretch := F_stretch.binds (ps := ["_law_pen_here", "_law_base_here"]) fun _ _ _ _ _ _ us hl => match us, hl with | [_, _], _ => rfl
  have F_stretches := fun_mk (st := s_stretches) l_stretches c_stretches k_stretches
  have b_stretches := F_stretches.binds (ps := ["_law_pen_here", "_law_base_here"]) fun _ _ _ _ _ _ us hl => match us, hl with | [_, _], _ => rfl
  have F_mixed := fun_mk (st := s_mixed) l_mixed c_mixed k_mixed
  have b_mixed := F_mixed.binds (ps := ["_law_first", "_law_second", "_law_way"]) fun _ _ _ _ _ _ us hl => match us, hl with | [_, _, _], _ => rfl
  have F_is_whole := fun_mk (st := s_is_whole) l_is_whole c_is_whole k_is_whole
  have b_is_whole := F_is_whole.binds (ps := ["value"]) fun _ _ _ _ _ _ us hl => match us, hl with | [_], _ => rfl
  have F_is_stretch := fun_mk (st := s_is_stretch) l_is_stretch c_is_stretch k_is_stretch
  have b_is_stretch := F_is_stretch.binds (ps := ["pair"]) fun _ _ _ _ _ _ us hl => match us, hl with | [_], _ => rfl
  have F_depth_changes := fun_mk (st := s_depth_changes) l_depth_changes c_depth_changes k_depth_changes
  have b_depth_changes := F_depth_changes.binds (ps := ["stretches"]) fun _ _ _ _ _ _ us hl => match us, hl with | [_], _ => rfl
  have F_paired := fun_mk (st := s_paired) l_paired c_paired k_paired
  have b_paired := F_paired.binds (ps := ["turns"]) fun _ _ _ _ _ _ us hl => match us, hl with | [_], _ => rfl
  have F_covered := fun_mk (st := s_covered) l_covered c_covered k_covered
  have b_covered := F_covered.binds (ps := ["stretches", "least", "most"]) fun _ _ _ _ _ _ us hl => match us, hl with | [_, _, _], _ => rfl
  have F_either_of := fun_mk (st := s_either_of) l_either_of c_either_of k_either_of
  have b_either_of := F_either_of.binds (ps := ["stretches", "others"]) fun _ _ _ _ _ _ us hl => match us, hl with | [_, _], _ => rfl
  have F_both_of := fun_mk (st := s_both_of) l_both_of c_both_of k_both_of
  have b_both_of := F_both_of.binds (ps := ["stretches", "others"]) fun _ _ _ _ _ _ us hl => match us, hl with | [_, _], _ => rfl
  have F_one_of := fun_mk (st := s_one_of) l_one_of c_one_of k_one_of
  have b_one_of := F_one_of.binds (ps := ["stretches", "others"]) fun _ _ _ _ _ _ us hl => match us, hl with | [_, _], _ => rfl
  have F_outside := fun_mk (st := s_outside) l_outside c_outside k_outside
  have b_outside := F_outside.binds (ps := ["stretches"]) fun _ _ _ _ _ _ us hl => match us, hl with | [_], _ => rfl
  have F_first_without := fun_mk (st := s_first_without) l_first_without c_first_without k_first_without
  have b_first_without := F_first_without.binds (ps := ["stretches", "others"]) fun _ _ _ _ _ _ us hl => match us, hl with | [_, _], _ => rfl
  have F_pinit : FunD K "__init__" "Span.__init__" (defArgs s_pinit) (defBody s_pinit) (defScope s_pinit) [.ref T0_pinit] [] f_pinit _ := ⟨⟨_, _, _, _, _, _, _, _, _, _, rfl, l_pinit, c_pinit, .inr ⟨(fun z => nomatch z), TI_pinit, _, [.ref T0_pinit], nTI_pinit, rfl, lTI_pinit, rfl, .cons rfl .nil⟩, .inl rfl⟩, k_pinit⟩
  obtain ⟨ds2_pinit, v2_pinit, b2_pinit⟩ := F_pinit.binds1 (ps := ["self", "stretches"]) 2 1 (fun z => nomatch z) rfl fun T kV doc pm an cdv ct us its hu hi => match us, its, hu, hi with | [_, _], [_], _, _ => ⟨_, rfl, rfl⟩
  obtain ⟨ds1_pinit, v1_pinit, b1_pinit⟩ := F_pinit.binds1 (ps := ["self", "stretches"]) 1 0 (fun z => nomatch z) rfl fun T kV doc pm an cdv ct us its hu hi => match us, its, hu, hi with | [_], [_], _, _ => ⟨_, rfl, rfl⟩
  have F_por := fun_mk (st := s_por) l_por c_por k_por
  have b_por := F_por.binds (ps := ["self", "other"]) fun _ _ _ _ _ _ us hl => match us, hl with | [_, _], _ => rfl
  have F_pxor := fun_mk (st := s_pxor) l_pxor c_pxor k_pxor
  have b_pxor := F_pxor.binds (ps := ["self", "other"]) fun _ _ _ _ _ _ us hl => match us, hl with | [_, _], _ => rfl
  have F_pior := fun_mk (st := s_pior) l_pior c_pior k_pior
  have b_pior := F_pior.binds (ps := ["self", "other"]) fun _ _ _ _ _ _ us hl => match us, hl with | [_, _], _ => rfl
  have F_piand := fun_mk (st := s_piand) l_piand c_piand k_piand
  have b_piand := F_piand.binds (ps := ["self", "other"]) fun _ _ _ _ _ _ us hl => match us, hl with | [_, _], _ => rfl
  have F_pisub := fun_mk (st := s_pisub) l_pisub c_pisub k_pisub
  have b_pisub := F_pisub.binds (ps := ["self", "other"]) fun _ _ _ _ _ _ us hl => match us, hl with | [_, _], _ => rfl
  have F_pinvert := fun_mk (st := s_pinvert) l_pinvert c_pinvert k_pinvert
  have b_pinvert := F_pinvert.binds (ps := ["self"]) fun _ _ _ _ _ _ us hl => match us, hl with | [_], _ => rfl
  have F_law := fun_mk (st := s_law) l_law c_law k_law
  have b_law := F_law.binds (ps := ["_law_script"]) fun _ _ _ _ _ _ us hl => match us, hl with | [_], _ => rfl
  refine ⟨PySem.W.fnOf "law" "law" (defArgs s_law) (defBody s_law) (defScope s_law) .none kV_law dc_law pm_law an_law cd_law ct_law, fun s v => .of_eq rfl, fun base _ _ => ?_⟩
  have H_pen : Has l.prog w K mg base 1 "_law_pen" ["_law_script"] (spPen K) := has_of X G F_pen a_pen (ok_pen F_pen T) b_pen
  have H_draw : Has l.prog w K mg base 1 "_law_draw" ["_law_pen_here", "_law_many"] spDraw := has_of X G F_draw a_draw (ok_draw F_draw T) b_draw
  have H_lwhole : Has l.prog w K mg base 1 "_law_whole" ["_law_value"] spWhole := has_of X G F_lwhole a_lwhole (ok_lwhole F_lwhole T) b_lwhole
  have H_great : Has l.prog w K mg base 2 "_law_great" ["_law_pen_here", "_law_many"] spGreat := has_of X G F_great a_great (ok_great F_great T H_draw) b_great
  have H_lbase : Has l.prog w K mg base 3 "_law_base" ["_law_pen_here"] spBase := has_of X G F_lbase a_lbase (ok_lbase F_lbase T H_draw H_great) b_lbase
  have H_joined : Has l.prog w K mg base 1 "_law_joined" ["_law_parts"] (spJoined K) := has_of X G F_joined a_joined (ok_joined F_joined T) b_joined
  have H_highs : Has l.prog w K mg base 1 "_law_highs" ["_law_lows"] (spHighs K) := has_of X G F_highs a_highs (ok_highs F_highs T) b_highs
  have H_within : Has l.prog w K mg base 1 "_law_within" ["_law_stretches_here", "_law_n"] (spWithin K) := has_of X G F_within a_within (ok_within F_within T) b_within
  have H_points : Has l.prog w K mg base 1 "_law_points" ["_law_stretches_here"] (spPoints K) := has_of X G F_points a_points (ok_points F_points T) b_points
  have H_spread : Has l.prog w K mg base 2 "_law_spread" ["_law_points_here", "_law_inside"] (spSpread K) := has_of X G F_spread a_spread (ok_spread F_spread T H_highs H_joined) b_spread
  have H_united : Has l.prog w K mg base 3 "_law_united" ["_law_stretches_here"] (spUnited K) := has_of X G F_united a_united (ok_united F_united T H_points H_within H_spread) b_united
  have H_spanis : Has l.prog w K mg base 2 "_law_span_is" ["_law_span", "_law_stretches_here"] (spSpanIs K C_Span) := has_of X G F_spanis a_spanis (ok_spanis F_spanis T cl_Span nR_Span_stretches H_lwhole) b_spanis
  have H_stretch : Has l.prog w K mg base 2 "_law_stretch" ["_law_pen_here", "_law_base_here"] spStretch := has_of X G F_stretch a_stretch (ok_stretch F_stretch T H_draw) b_stretch
  have H_stretches : Has l.prog w K mg base 3 "_law_stretches" ["_law_pen_here", "_law_base_here"] (spStretches K) := has_of X G F_stretches a_stretches (ok_stretches F_stretches T H_draw H_stretch) b_stretches
  have H_mixed : Has l.prog w K mg base 3 "_law_mixed_up" ["_law_first", "_law_second", "_law_way"] (spMixed K) := has_of X G F_mixed a_mixed (ok_mixed F_mixed T H_points H_within H_spread) b_mixed
  have H_is_whole : Has l.prog w K mg base 1 "is_whole" ["value"] spIsWhole := has_of X G F_is_whole a_is_whole (ok_is_whole F_is_whole T) b_is_whole
  have H_is_stretch : Has l.prog w K mg base 2 "is_stretch" ["pair"] (spIsStretch K) := has_of X G F_is_stretch a_is_stretch (ok_is_stretch F_is_stretch T H_is_whole) b_is_stretch
  have H_depth_changes : Has l.prog w K mg base 1 "depth_changes" ["stretches"] (spDepth K) := has_of X G F_depth_changes a_depth_changes (ok_depth F_depth_changes T ) b_depth_changes
  have H_paired : Has l.prog w K mg base 1 "paired" ["turns"] (spPaired K) := has_of X G F_paired a_paired (ok_paired F_paired T) b_paired
  have H_covered : Has l.prog w K mg base 2 "covered" ["stretches", "least", "most"] (spCovered K) := has_of X G F_covered a_covered (ok_covered F_covered T H_depth_changes H_paired) b_covered
  have H_either_of : Has l.prog w K mg base 3 "either_of" ["stretches", "others"] (spOp2 K 100 0 or) := has_of X G F_either_of a_either_of (ok_either F_either_of T H_covered ) b_either_of
  have H_both_of : Has l.prog w K mg base 3 "both_of" ["stretches", "others"] (spOp2 K 100 0 and) := has_of X G F_both_of a_both_of (ok_both F_both_of T H_covered ) b_both_of
  have H_one_of : Has l.prog w K mg base 3 "one_of" ["stretches", "others"] (spOp2 K 100 0 bne) := has_of X G F_one_of a_one_of (ok_one F_one_of T H_covered ) b_one_of
  have H_outside : Has l.prog w K mg base 4 "outside" ["stretches"] (spOutside K) := has_of X G F_outside a_outside (ok_outside F_outside T H_one_of) b_outside
  have H_first_without : Has l.prog w K mg base 5 "first_without" ["stretches", "others"] (spOp2 K 98 1 (fun a b => a && !b)) := has_of X G F_first_without a_first_without (ok_without F_first_without T H_both_of H_outside ) b_first_without
  have Oi_pinit := ok_pinit (P := l.prog) (w := w) (mg := mg) (base := base) F_pinit T cl_Span nR_Span_stretches H_is_stretch H_covered
  have S2_Span : MkH l.prog w K mg base 3 C_Span [] (spPInit K C_Span) := ⟨_, _, _, _, ⟨mk_Span, a_pinit, i_pinit, kC_Span⟩, Oi_pinit, b2_pinit, v2_pinit⟩
  have S1_Span : MkH l.prog w K mg base 3 C_Span [.ref T0_pinit] (spPInit K C_Span) := ⟨_, _, _, _, ⟨mk_Span, a_pinit, i_pinit, kC_Span⟩, Oi_pinit, b1_pinit, v1_pinit⟩
  have O_por : EO.OpH l.prog w K mg base 5 C_Span "__or__" (spBin K C_Span or) := ⟨f_por, a_por, i_por, rawN (ok_por F_por T o_Span nR_Span_stretches g_Span H_either_of S2_Span) b_por⟩
  have O_pxor : EO.OpH l.prog w K mg base 5 C_Span "__xor__" (spBin K C_Span bne) := ⟨f_pxor, a_pxor, i_pxor, rawN (ok_pxor F_pxor T o_Span nR_Span_stretches g_Span H_one_of S2_Span) b_pxor⟩
  have O_pior : EO.OpH l.prog w K mg base 4 C_Span "__ior__" (spIn K C_Span or) := ⟨f_pior, a_pior, i_pior, rawN (ok_pior F_pior T o_Span nR_Span_stretches g_Span H_either_of) b_pior⟩
  have O_piand : EO.OpH l.prog w K mg base 4 C_Span "__iand__" (spIn K C_Span and) := ⟨f_piand, a_piand, i_piand, rawN (ok_piand F_piand T o_Span nR_Span_stretches g_Span H_both_of) b_piand⟩
  have O_pisub : EO.OpH l.prog w K mg base 6 C_Span "__isub__" (spIn K C_Span (fun a b => a && !b)) := ⟨f_pisub, a_pisub, i_pisub, rawN (ok_pisub F_pisub T o_Span nR_Span_stretches g_Span H_first_without) b_pisub⟩
  have O_pinvert : EO.OpH l.prog w K mg base 5 C_Span "__invert__" (spInv K C_Span) := ⟨f_pinvert, a_pinvert, i_pinvert, rawN (ok_pinvert F_pinvert T o_Span nR_Span_stretches g_Span H_outside S2_Span) b_pinvert⟩
  exact ok_law F_law T cl_Span g_Span sf_Span H_pen H_draw H_lbase H_stretches H_united H_mixed H_spanis S2_Span O_por O_pxor O_pior O_piand O_pisub O_pinvert
theorem walk {l : PySem.W.OpenLaw} {q : Program} {loose : List Str} {XP : (Str → Option Value) → Heap → Prop} {YP : World → Heap → Prop} {d : DefRec} {K : Params → PySem.W.Frag} (hn : l.most = some 63) (hdf : d.params.defaults = []) (hY : ∀ (w : World) (h : Heap), YP w h → (K w.params).In h)
    (F : ∀ (w : World) (mg : Str → Option Value) (fa : Addr) (h : Heap), (K w.params).In h → h.Ns mainGlobals mg → mg d.name = some (.ref fa) →
      ∃ fd : FuncData, (∀ (s : Shared) (u : Value), BindsTo s fd ⟨[u], []⟩ [("_law_script", u)]) ∧ ∀ base : Heap, (K w.params).In base → base.Ns mainGlobals mg → FnOk l.prog w (K w.params) mg base CX0 7 fa fd ["_law_script"] (spLawH (K w.params))) :
    PySem.W.WalkO q loose XP YP l.row.toRowW d [] (fun f vs => PySem.call f vs) := L2.walk_of (n := 63) (k := 7) (x := "_law_script") (CX := fun _ => CX0) (sp := fun w => spLawH (K w.params)) hn (by decide) hdf ⟨rfl, by decide, by decide⟩ hY F (fun _ _ a ns hl _ hS => ⟨a, ns, rfl, hS, hl, fun _ => rfl⟩) fun _ _ _ _ _ z => z
end
end EN

open PySem PySem.W PyProof.Rows
set_option maxRecDepth 100000 in
set_option maxHeartbeats 0 in
theorem PySem.Challenge.cw_everyname_k21_whole_spans_changed_in_pla_holds : PySem.Challenge.rw_everyname_k21_whole_spans_changed_in_pla.Holds := by
  w_on; o_law; k_head; (case hw => w_witness2)
  k_fill
  refine EN.walk (l := PySem.Challenge.rw_everyname_k21_whole_spans_changed_in_pla) rfl rfl (fun w h Y => PySem.W.kIn_of Y) ?F
  case F =>
    intro w mg fa h KX G hmg
    refine' EN.all_mk KX G hmg ?aC_Span ?pg_Span ?hd_Span ?po_Span ?sa_Span ?mk_Span ?kC_Span ?nR_Span_stretches ?ha_Span ?hn_Span ?htk_Span ?hm_Span ?sf_Span ?a_pen ?l_pen ?c_pen ?k_pen ?a_draw ?l_draw ?c_draw ?k_draw ?a_lwhole ?l_lwhole ?c_lwhole ?k_lwhole ?a_great ?l_great ?c_great ?k_great ?a_lbase ?l_lbase ?c_lbase ?k_lbase ?a_joined ?l_joined ?c_joined ?k_joined ?a_highs ?l_highs ?c_highs ?k_highs ?a_within ?l_within ?c_within ?k_within ?a_points ?l_points ?c_points ?k_points ?a_spread ?l_spread ?c_spread ?k_spread ?a_united ?l_united ?c_united ?k_united ?a_spanis ?l_spanis ?c_spanis ?k_spanis ?a_stretch ?l_stretch ?c_stretch ?k_stretch ?a_stretches ?l_stretches ?c_stretches ?k_stretches ?a_mixed ?l_mixed ?c_mixed ?k_mixed ?a_is_whole ?l_is_whole ?c_is_whole ?k_is_whole ?a_is_stretch ?l_is_stretch ?c_is_stretch ?k_is_stretch ?a_depth_changes ?l_depth_changes ?c_depth_changes ?k_depth_changes ?a_paired ?l_paired ?c_paired ?k_paired ?a_covered ?l_covered ?c_covered ?k_covered ?a_either_of ?l_either_of ?c_either_of ?k_either_of ?a_both_of ?l_both_of ?c_both_of ?k_both_of ?a_one_of ?l_one_of ?c_one_of ?k_one_of ?a_outside ?l_outside ?c_outside ?k_outside ?a_first_without ?l_first_without ?c_first_without ?k_first_without ?a_pinit ?i_pinit ?l_pinit ?c_pinit ?k_pinit ?lTI_pinit ?lT0_pinit ?a_por ?i_por ?l_por ?c_por ?k_por ?a_pxor ?i_pxor ?l_pxor ?c_pxor ?k_pxor ?a_pior ?i_pior ?l_pior ?c_pior ?k_pior ?a_piand ?i_piand ?l_piand ?c_piand ?k_piand ?a_pisub ?i_pisub ?l_pisub ?c_pisub ?k_pisub ?a_pinvert ?i_pinvert ?l_pinvert ?c_pinvert ?k_pinvert ?a_law ?l_law ?c_law ?k_law ?z_list ?z_len ?z_int ?z_abs ?z_range ?z_tuple ?z_isinstance ?z_bool ?z_all ?z_sum ?z_zip ?z_min ?z_sorted ?z_any ?z_set ?z_max ?z_str ?z_enumerate ?z_reversed ?z_dict
    (case aC_Span => k_is); (case pg_Span => k_is); (case hd_Span => k_is); (case po_Span => k_is)
    (case sa_Span => k_is); (case mk_Span => k_is); (case kC_Span => k_is); (case nR_Span_stretches => k_is)
    (case ha_Span => k_is); (case hn_Span => k_is); (case htk_Span => k_is); (case hm_Span => k_is)
    (case sf_Span => k_is); (case a_pen => k_is); (case l_pen => k_is); (case c_pen => k_is)
    (case k_pen => k_is); (case a_draw => k_is); (case l_draw => k_is); (case c_draw => k_is)
    (case k_draw => k_is); (case a_lwhole => k_is); (case l_lwhole => k_is); (case c_lwhole => k_is)
    (case k_lwhole => k_is); (case a_great => k_is); (case l_great => k_is); (case c_great => k_is)
    (case k_great => k_is); (case a_lbase => k_is); (case l_lbase => k_is); (case c_lbase => k_is)
    (case k_lbase => k_is); (case a_joined => k_is); (case l_joined => k_is); (case c_joined => k_is)
    (case k_joined => k_is); (case a_highs => k_is); (case l_highs => k_is); (case c_highs => k_is)
    (case k_highs => k_is); (case a_within => k_is); (case l_within => k_is); (case c_within => k_is)
    (case k_within => k_is); (case a_points => k_is); (case l_points => k_is); (case c_points => k_is)
    (case k_points => k_is); (case a_spread => k_is); (case l_spread => k_is); (case c_spread => k_is)
    (case k_spread => k_is); (case a_united => k_is); (case l_united => k_is); (case c_united => k_is)
    (case k_united => k_is); (case a_spanis => k_is); (case l_spanis => k_is); (case c_spanis => k_is)
    (case k_spanis => k_is); (case a_stretch => k_is); (case l_stretch => k_is); (case c_stretch => k_is)
    (case k_stretch => k_is); (case a_stretches => k_is); (case l_stretches => k_is); (case c_stretches => k_is)
    (case k_stretches => k_is); (case a_mixed => k_is); (case l_mixed => k_is); (case c_mixed => k_is)
    (case k_mixed => k_is); (case a_is_whole => k_is); (case l_is_whole => k_is); (case c_is_whole => k_is)
    (case k_is_whole => k_is); (case a_is_stretch => k_is); (case l_is_stretch => k_is); (case c_is_stretch => k_is)
    (case k_is_stretch => k_is); (case a_depth_changes => k_is); (case l_depth_changes => k_is); (case c_depth_changes => k_is)
    (case k_depth_changes => k_is); (case a_paired => k_is); (case l_paired => k_is); (case c_paired => k_is)
    (case k_paired => k_is); (case a_covered => k_is); (case l_covered => k_is); (case c_covered => k_is)
    (case k_covered => k_is); (case a_either_of => k_is); (case l_either_of => k_is); (case c_either_of => k_is)
    (case k_either_of => k_is); (case a_both_of => k_is); (case l_both_of => k_is); (case c_both_of => k_is)
    (case k_both_of => k_is); (case a_one_of => k_is); (case l_one_of => k_is); (case c_one_of => k_is)
    (case k_one_of => k_is); (case a_outside => k_is); (case l_outside => k_is); (case c_outside => k_is)
    (case k_outside => k_is); (case a_first_without => k_is); (case l_first_without => k_is); (case c_first_without => k_is)
    (case k_first_without => k_is); (case a_pinit => k_is); (case i_pinit => k_is); (case l_pinit => k_is)
    (case c_pinit => k_is); (case k_pinit => k_is); (case lTI_pinit => k_is); (case lT0_pinit => k_is)
    (case a_por => k_is); (case i_por => k_is); (case l_por => k_is); (case c_por => k_is)
    (case k_por => k_is); (case a_pxor => k_is); (case i_pxor => k_is); (case l_pxor => k_is)
    (case c_pxor => k_is); (case k_pxor => k_is); (case a_pior => k_is); (case i_pior => k_is)
    (case l_pior => k_is); (case c_pior => k_is); (case k_pior => k_is); (case a_piand => k_is)
    (case i_piand => k_is); (case l_piand => k_is); (case c_piand => k_is); (case k_piand => k_is)
    (case a_pisub => k_is); (case i_pisub => k_is); (case l_pisub => k_is); (case c_pisub => k_is)
    (case k_pisub => k_is); (case a_pinvert => k_is); (case i_pinvert => k_is); (case l_pinvert => k_is)
    (case c_pinvert => k_is); (case k_pinvert => k_is); (case a_law => k_is); (case l_law => k_is)
    (case c_law => k_is); (case k_law => k_is); (case z_list => k_is); (case z_len => k_is)
    (case z_int => k_is); (case z_abs => k_is); (case z_range => k_is); (case z_tuple => k_is)
    (case z_isinstance => k_is); (case z_bool => k_is); (case z_all => k_is); (case z_sum => k_is)
    (case z_zip => k_is); (case z_min => k_is); (case z_sorted => k_is); (case z_any => k_is)
    (case z_set => k_is); (case z_max => k_is); (case z_str => k_is); (case z_enumerate => k_is)
    (case z_reversed => k_is); (case z_dict => k_is)

